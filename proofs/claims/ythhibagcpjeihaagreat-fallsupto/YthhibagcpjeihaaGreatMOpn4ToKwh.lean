import Derived.Test.YthhibagcpjeihaaGreatMRd9ToWw1
import Derived.Test.YthhibagcpjeihaaGreatMRef14ToRef18
import Derived.Test.YthhibagcpjeihaaGreatMSto1ToRp3
import Derived.Test.YthhibagcpjeihaaGreatMLook1ToSwap2
import Derived.Deep.CutRange
import Derived.Deep.MidRow
open Go.Proofs.Tryz
open Go.Value renaming int->y,pointer->b,slice->C,bool->W,agg->l,tuple->h,ownBlock->az
open Go.IntKind renaming i64->K,wrap_i64->jB
open Option renaming none->F,some->E
open Go renaming World->U,Value->V
open Go.Proofs.Tryz renaming prog->T
open Go.Ending renaming returned->g
open Go.Obj renaming cells->v
open List renaming length_append->aJ,append_assoc->bI,eq_nil_of_length_eq_zero->fS,length_take->dj,length_cons->dP,append_nil->dR,take_length->eA,flatMap_append->lG,length_singleton->oa,flatMap_cons->lh,length_filter_le->oZ,range->iq,getElem?_append_right->rz
open Go.World renaming size_alloc->bj,ownsRow_nil->cJ
open Go.Act renaming eval->Z
open Nat renaming zero_add->bg,le_trans->bF,le_refl->bK
open Go.Addr renaming add_mid->dx
open And renaming intro->eL
namespace Go.Proofs.YthhibagcpjeihaaGreat
open Go.RowKit
open M
set_option linter.unusedVariables false
set_option linter.unusedSimpArgs false
set_option maxRecDepth 100000
set_option maxHeartbeats 4000000
def bG(a:u) (c:Nat):List o:=(jM (a.b c)).1
def iC(a:u) (c:Nat):Bool:=(jM (a.b c)).2
def bJ(a:u):Nat:=if lO (bG a 1).length (bG a 0).length (a.b 1).length (a.b 0).length=true then 1 else 0
def dJ(a:u):Int×u:=fD a (bJ a) (a.b (bJ a)).length (a.b (1 - bJ a)).length
theorem cO.ni{f w':U} {e:Nat} {n:V} {i:o} {S:Nat->Prop} (c:cO f e n i) (s:G S f w') (hs:∀a,e<=a->a<f.heap.size->¬S a):cO w' e n i:=by
 unfold cO at c ⊢;split
 ·rename_i d;rw[if_pos d] at c;obtain⟨p,q,r,j,k⟩:=c;exact⟨p,q,r,s.owns j (λa m=>hs a (k a m) (j.lt a m).2),k⟩
 ·rename_i d;rw[if_neg d] at c;exact c
theorem bE.ni{f w':U} {e:Nat} {S:Nat->Prop} (i:G S f w') (hs:∀d,e<=d->d<f.heap.size->¬S d):∀ {c:List (Int×V)} {es:List o},bE f e c es->bE w' e c es
 |[],[],_=>trivial
 |k::c,j::es,a=>⟨⟨a.1.1,a.1.2.ni i hs⟩,bE.ni i hs a.2⟩
 |[],_::_,a=>a.elim
 |_::_,[],a=>a.elim
theorem fh.ni{e w':U} {d:Nat} {j:V} {f:List (Int×V)} {S:Nat->Prop} (c:fh e d j f) (k:G S e w') (hs:∀a,d<=a->a<e.heap.size->¬S a):fh w' d j f:=⟨k.owns c.row (λa i=>hs a (c.own a i) (c.row.lt a i).2),c.own,c.one⟩
def gw(f:u) (m k:Nat) (n:V) (j:U):Prop:=∃c d a e es,m<=c/\d<=k/\fh a c n e/\bE a c e es/\a.heap.size<=d/\G (λi=>i<c\/d<=i) a j/\(es=bG f 0\/es=bG f 1)
theorem gw.step{e:u} (d a:Nat) (j:V) (f i:U) (A:gw e d a j f) (x:G (λc=>c<d\/a<=c) f i):gw e d a j i:=by
 obtain⟨z,p,m,k,es,n,o,q,r,s,t,w⟩:=A;exact⟨z,p,m,k,es,n,o,q,r,s,t.trans (x.mono (λc _ B=>by omega)),w⟩
theorem gw.low{c:u} (i j e f:Nat) (k:V) (d:U) (hl:i<=j) (s:f<=e) (a:gw c j f k d):gw c i e k d:=by
 obtain⟨p,o,n,m,es,q,r,a⟩:=a;exact⟨p,o,n,m,es,by omega,by omega,a⟩
theorem gw.get{c:u} {e m:Nat} {j:V} {d:U} (s:gw c e m j d):∃a es,fh d e j a/\bE d e a es/\(es=bG c 0\/es=bG c 1):=by
 obtain⟨A,x,t,a,es,f,w,n,o,z,i,p⟩:=s;exact⟨a,es,(n.ni i (λr q hl k=>by omega)).low f,(o.ni i (λr q hl k=>by omega)).low f,p⟩
theorem Aq{e:U} {S:Nat->Prop} {tb:Nat} {d:u} (i:ae e S tb d) (c:Nat) (hi:c<2) (hl:(d.b c).length<=1099511627776):Calls T 69 #[b (E ⟨tb,0,F⟩),y K c] e λk w'=>∃a f,k=g (kI c (d.b c).length (C a (bG d c).length f) (iC d c))/\gw d e.heap.size w'.heap.size (C a (bG d c).length f) w'/\G No e w':=by
 refine Ft i c (by omega) (bG d c).length (iC d c) (gw d) (λp w t o=>?_) gw.step gw.low;obtain⟨a,f,rfl⟩:=aC o;refine(IA o hl (i.bytes c (by omega)) (by have:=i.lt;have:=t.size;omega)).mono ?_;rintro k w' ⟨a',q,j,rfl,m,n,r⟩;have s:j.length=(bG d c).length:=n.len;rw[s] at m ⊢;refine⟨a',q,rfl,⟨p.heap.size,w'.heap.size,w',j,bG d c,bK _,bK _,m,n,bK _,G.refl _ _,?_⟩,r⟩;have:c=0\/c=1:=by omega
 obtain rfl|rfl:=this
 ·exact .inl rfl
 ·exact .inr rfl
theorem JF{d:U} {S:Nat->Prop} {tb:Nat} {c:u} (f:ae d S tb c) (hS:∀n,S n->n<d.heap.size) (o:(c.b 0).length<=1099511627776) (p:(c.b 1).length<=1099511627776):Calls T 43 #[b (E ⟨tb,0,F⟩)] d λm w'=>ae w' S tb (dJ c).2/\G S d w'/\((dJ c).1=0->∃a k,m=g (h #[l #[b (E ⟨tb,0,F⟩),y K (bJ c:Nat),W (!(iC c (bJ c)))],C a (bG c (bJ c)).length k,y K 0])/\gw c d.heap.size w'.heap.size (C a (bG c (bJ c)).length k) w')/\
   ((dJ c).1≠0->m=g (h #[l #[b F,y K 0,W false],C F 0 0,y K 16])):=by
 unfold dJ;have f0:∀e,G No d e->_:=λe i=>Aq (f.aD i) 0 (by omega) o;have f1:∀e,G No d e->_:=λe i=>Aq (f.aD i) 1 (by omega) p;by_cases hb:lO (bG c 1).length (bG c 0).length (c.b 1).length (c.b 0).length=true
 ·have j:bJ c=1:=by unfold bJ;rw[if_pos hb]
  rw[j];exact yr f hS _ _ _ _ _ _ _ 1 _ _ _ _ (gw c) f0 f1 gw.step gw.low hb (.inr ⟨rfl,rfl,rfl,rfl,rfl,rfl⟩)
 ·have j:bJ c=0:=by unfold bJ;rw[if_neg hb]
  rw[j];exact yr f hS _ _ _ _ _ _ _ 0 _ _ _ _ (gw c) f0 f1 gw.step gw.low (by simpa using hb) (.inl ⟨rfl,rfl,rfl,rfl,rfl,rfl⟩)
theorem Ar{now d:Int} {f fl':Y} {e:N} (c:aA now f e=(0,d,fl')):now<=d/\d<=now+100:=by
 unfold aA at c
 repeat' split at c
 all_goals first
  |(injection c with i a;injection a with a j;subst a;omega)
  |(injection c with i a;injection a with a j;omega)
theorem At{now c:Int} {e fl':Y} {d:o} (a:sV now e d c fl'):now<=c:=by
 obtain⟨f,_,a⟩|⟨_,_,_,a⟩|⟨j,k,i,_,_,_,_,_,a,_⟩:=a
 ·exact(Ar a).1
 ·exact a
 ·omega
theorem Au:∀(es:List o) {now c:Int} {d fl':Y},iB now d es c fl'->now<=c
 |[],_,_,_,_,a=>by have:=a.1;omega
 |k::es,_,_,_,_,a=>by
  obtain⟨m,f1,e,f⟩:=a;have i:=At e;have j:=Au es f;omega
theorem bE.get{i:U} {f:Nat}:∀ {d:List (Int×V)} {es:List o},bE i f d es->∀(a:Nat) (c:a<d.length) (n:a<es.length),d[a].1=es[a].fl/\cO i f d[a].2 es[a]
 |m::d,j::es,c,0,_,_=>c.1
 |m::d,j::es,c,a+1,e,k=>bE.get c.2 a (by simpa using e) (by simpa using k)
 |[],[],_,a,e,_=>by simp at e
 |[],_::_,c,_,_,_=>c.elim
 |_::_,[],c,_,_,_=>c.elim
theorem Av:∀(c:List (Int×V)) (j a:Nat) (e:j<c.length) (d:a<2),(c.flatMap eG)[j* 2+a]? =(eG c[j])[a]?
 |f::c,0,a,_,d=>by
  rw[lh,Nat.zero_mul,bg,List.getElem?_append_left (by simpa [eG] using d)];rfl
 |f::c,j+1,a,e,d=>by
  rw[lh,rz (by simp[eG];omega)];have:=Av c j a (by simpa using e) d;rw[show(j+1)* 2+a - (eG f).length=j* 2+a by simp[eG];omega,this];rfl
theorem Aw{f:U} {r s o:Nat} {a:Option Addr} {d:List (Int×V)} (k:fh f r (C a s o) d) (j:Nat) (p:j<d.length):∃c,a=E ⟨c,0,F⟩/\c<f.heap.size/\f.cell? ⟨c,j* 2,F⟩=E (y K d[j].1)/\f.cell? ⟨c,j* 2+1,F⟩=E d[j].2:=by
 have m:=k.row;obtain⟨z,A⟩|⟨c,t,u,hv,B⟩:=k.row.2
 ·omega
 ·injection hv with i w x;have hc:=λe (q:e<2) n (hv:(eG d[j])[e]? =E n)=>m.cells (by rw[i];rfl) (j* 2+e) n (by rw[Av d j e p q];exact hv);refine⟨c,i,(m.lt c (by rw[i];rfl)).2,?_,?_⟩
  ·have:=hc 0 (by omega) _ rfl;rw[dx] at this;simpa using this
  ·have:=hc 1 (by omega) _ rfl;rw[dx,bg] at this;exact this
def kP(tb c:Nat) (d:Bool):Nat->Option Nat:=λa=>if a=29 then E tb else if a=30 then(if c=1 then E 0 else F) else if a=31 then(if d=true then E 0 else F) else F
theorem JG(tb:Nat) {a:Nat} (hf:a=0\/a=1) (c:Bool):cD 0 (kP tb a c)=#[y K 0,b F,b F,b F,b F,b F,b F,b F,b F,b F,b F,b F,b F,b F,b F,b F,b F,b F,b F,b F,b F,b F,.map F,.map F,.map F,.map F,.map F,.map F,.map F,.map F,b (E ⟨tb,0,F⟩),y K (a:Nat),W c]:=by
 obtain rfl|rfl:=hf<;>cases c<;>rfl
theorem JH(tb:Nat) {a:Nat} (hf:a=0\/a=1) (c:Bool):mL (kP tb a c)=a/\lJ (kP tb a c)=c:=by
 obtain rfl|rfl:=hf<;>cases c<;>exact⟨rfl,rfl⟩
structure oD (w2 wr:U) (kb tb f:Nat) (torn:Bool) (es0:List o) (i:Nat) (now:Int) (fl:Y):Prop where
 keep:∃ow pt n1 f1,cF wr ow kb n1 pt f1/\(∀k,k<kb->ow k=0)/\(∀j,21<=j->pt j=kP tb f torn j)/\iB n1 f1 (es0.drop i) now fl/\0<=n1
 mod:G (λk=>kb<=k) w2 wr
 ge:w2.heap.size<=kb
theorem oD.next{w2 wr t:U} {c tb f i:Nat} {s:Bool} {n:List o} {now:Int} {p:Y} (m:w2.heap.size<=c) (D:G (λa=>c<=a) w2 wr) {e:Nat->Nat} {pt:Nat->Option Nat} (r:∀a,a<c->e a=0) (I:∀j,21<=j->pt j=kP tb f s j) {d:Int} {f2:Y} (B:lU wr t e c pt d f2) (N:c<wr.heap.size) (A:iB d f2 (n.drop (i+1)) now p) (H:0<=d):oD w2 t c tb f s n (i+1) now p:=by
 obtain⟨⟨J,L,u,w,x⟩,z⟩:=B
 exact⟨⟨J,L,d,f2,u,λa m=>by rw[w a (by omega)];exact r a m,λj q=>by rw[x j q];exact I j q,A,H⟩,D.trans (z.mono (λa _ k=>by
  have k:e a≠0/\e a<30:=k
  show c<=a
  by_cases M:a<c
  ·exact absurd (r a M) k.1
  ·omega)),m⟩
structure qN (w w':U) (rY:Nat->Nat) (kb tb f:Nat) (torn:Bool) (T:u) (now:Int) (fl:Y):Prop where
 ex:∃ow pt,cW w' ow kb now pt fl ⟨tb,f,torn,true,T⟩/\(∀k,k<w.heap.size->ow k=if rY k=30 then 30 else 0)/\∀j,21<=j->j<29->pt j=F
 new:w.heap.size<=kb
 mod:G (λk=>rY k=30) w w'
theorem oD.fin{d w2 wr:U} {e:Nat->Nat} {z tb i:Nat} {n:Bool} {q:List o} {x:Nat} {now:Int} {r:Y} {p:u} (I:oD w2 wr z tb i n q x now r) (hf:i=0\/i=1) (hi:q.length<=x) (hS:∀a,e a=30->a<d.heap.size) (N:ae w2 (λa=>e a=30) tb p) (w:G (λa=>e a=30) d w2):qN d wr e z tb i n p now r:=by
 obtain⟨⟨A,pt,ai,f1,f,J,j,s,ad⟩,k,af⟩:=I;rw[List.drop_eq_nil_of_le hi] at s;obtain⟨rfl,rfl⟩:=s;have ah:=w.size;have t:=JH tb hf n;have D:=j 30 (by omega);have H:=j 31 (by omega);refine⟨⟨λa=>if a<d.heap.size then(if e a=30 then 30 else 0) else A a,pt,⟨?_,?_,?_,?_,?_⟩,λa c=>if_pos c,λO L ag=>?_⟩,by omega,w.trans' k (λa c hl=>by omega)⟩
 ·refine⟨f.has,by rw[if_neg (by omega)];exact f.aW,λa c=>?_,f.gone,λQ R P M hf=>?_⟩
  ·by_cases m:a<d.heap.size
   ·have:=k.size;omega
   ·rw[if_neg m] at c;exact f.aU a c
  ·obtain⟨B,S,X,aa⟩:=f.here Q R P M hf;refine⟨B,S,X,aa.wide (λa c=>?_)⟩;by_cases m:a<d.heap.size
   ·rw[J a (by omega)] at c;omega
   ·rw[if_neg m];exact c
 ·rw[j 29 (by omega)];rfl
 ·have:=t.1;unfold mL at this ⊢;rw[D];exact this
 ·have:=t.2;unfold lJ at this ⊢;rw[H];exact this
 ·refine(N.mod k (λa c ab=>?_)).wide (λa c=>?_)
  ·have:=hS a c;omega
  ·have:=hS a c;show(if a<d.heap.size then(if e a=30 then 30 else 0) else A a)=30;rw[if_pos this,if_pos c]
 ·rw[j O L];unfold kP;rw[if_neg (by omega),if_neg (by omega),if_neg (by omega)]
theorem cO.iface{k:U} {f:Nat} {c:V} {d:o} (a:cO k f c d):∃i j,c=.iface i j:=by
 unfold cO at a;split at a
 ·obtain⟨m,n,e,_⟩:=a;exact⟨_,_,e⟩
 ·rw[a];exact pf _
theorem Ax{n:U} {f j m e d i:Nat} {a:Option Addr} {xs:List V} (k:n.ownsRow f j m (C a e i) d xs):e=d:=by
 obtain⟨c,r⟩|⟨q,o,p,hv,_⟩:=k.2
 ·injection c with _ c _;omega
 ·injection hv
theorem JI{o:U} {z:Nat->Nat} {tb:Nat} {a:u} (ad:ae o (λd=>z d=30) tb a) (hS:∀d,z d=30->d<o.heap.size) (bt:¬a.room<200) (au:(a.b 0).length<=1099511627776) (av:(a.b 1).length<=1099511627776) {now:Int} {A:Y} (bs:now<=4611686018427387000) (aD:∀es,es=bG a 0\/es=bG a 1->es.length=(bG a (bJ a)).length->∃f,es=f.map canon/\iB 0 eO f now A):
  Calls T 20 #[b (E ⟨tb,0,F⟩)] o λm w'=>((dJ a).1=0->∃aN,m=g (h #[b (E ⟨aN,0,F⟩),y K 0])/\qN o w' z aN tb (bJ a) (!(iC a (bJ a))) (dJ a).2 now A)/\((dJ a).1≠0->m=g (h #[b F,y K 16])/\ae w' (λd=>z d=30) tb (dJ a).2/\G (λd=>z d=30) o w'):=by
 obtain⟨cs,aF,aH⟩:=ad.room;have Q:=i (rC tb a.room o cs aF aH);have O:=i (JF ad hS au av);have aU:=i hS;have P:=i aD;have a6:bJ a=0\/bJ a=1:=by unfold bJ;split<;>simp
 have aq:=i a6;have bi:=i (show 0<=o.heap.size by omega);clear ad aF aH hS au av aD;generalize bJ a=n at *;generalize iC a n=al at *;go_enter func20,ntmps20;go_wp2_with fail;refine(k Q).mono ?_;rintro m bB ⟨rfl,rfl⟩;go_wp2_with fail;refine(k O).mono ?_;rintro m e ⟨t2,J,S,R⟩;by_cases x:(dJ a).1=0
 ·obtain⟨bk,bl,rfl,aO⟩:=S x;obtain⟨j,es,w,ab,aB⟩:=aO.get;have hlen:j.length=es.length:=ab.len;have ax:(bG a n).length=j.length:=Ax w.row;obtain⟨f,rfl,aE⟩:=(k P) es aB (by omega);have aC:j.length=f.length:=by rw[hlen,List.length_map]
  rw[ax];have a5:=w.row.1;have q:G No e (e.alloc (v #[b (E ⟨tb,0,F⟩),y K n,W (!al)] 110)):=(G.refl _ _).alloc _;have aj:G No e ((e.alloc (v #[b (E ⟨tb,0,F⟩),y K n,W (!al)] 110)).alloc (v (cD 0 (kP tb n (!al))) 121)):=q.alloc _;have aw:=JG tb (k aq) (!al);have r:oD e ((e.alloc (v #[b (E ⟨tb,0,F⟩),y K n,W (!al)] 110)).alloc (v (cD 0 (kP tb n (!al))) 121)) (e.heap.size+1) tb n (!al) f 0 now A:=by
   refine⟨⟨λd=>if d=e.heap.size+1 then 1 else 0,kP tb n (!al),0,eO,⟨?_,if_pos rfl,λd t=>?_,λbc ba _=>?_,λbc bz bw ba hf=>by cases hf⟩,λd t=>if_neg (by omega),λbv _=>rfl,by simpa using aE,by omega⟩,aj.mono (λ_ _ p=>p.elim),by omega⟩
   ·exact X.yq e _ _ _
   ·by_cases m:d=e.heap.size+1
    ·rw[m];simp
    ·rw[if_neg m] at t;exact absurd rfl t
   ·unfold kP;rw[if_neg (by omega),if_neg (by omega),if_neg (by omega)]
  rw[aw] at r aj;have r:=i r;have aV:=i t2;have aX:=i J;have aT:=i w;have aS:=i ab;have bp:j.length<=9223372036854775807:=by
   obtain⟨_,a3⟩|⟨a2,bn,bo,hv,_,_,a3,a4,_⟩:=w.row.2
   ·omega
   ·unfold maxLen at a4;omega
  have aW:=i x;have N:=i aC;clear aC t2 J S R O Q P aE hlen ax a5 q aj aw w ab aB aO x;go_wp2_with fail;go_loopw [31] (λak wr=>∃c:Nat,ak=y K c/\c<=j.length/\Hid (oD e wr (e.heap.size+1) tb n (!al) f c now A)) (λak _=>j.length - (intOf ak).toNat)
  case atStart=>exact⟨0,rfl,by omega,r⟩
  case round=>
   obtain⟨c,rfl,hi,s⟩:=hrel;clear r;by_cases D:c<j.length
   ·have a9:(c:Int)<(j.length:Int):=by omega
    have I:=(k s).mod;have aI:=(k aT).ni I (λd t hl m=>by omega);have aA:=(k aS).ni I (λd t hl m=>by omega);obtain⟨a2,rfl,bq,aZ,bm⟩:=Aw aI c D;obtain⟨ao,L⟩:=aA.get c D (by rw[List.length_map,<-k N];exact D);rw[List.getElem_map] at ao L;have H:c<f.length:=by rw[<-k N];exact D
    obtain⟨bf,pt,bx,f1,af,aK,aL,aM,bb⟩:=(k s).keep;have hd:f.drop c=f[c]'H::f.drop (c+1):=List.drop_eq_getElem_cons H;rw[hd] at aM;obtain⟨bd,f2,ag,ah⟩:=aM;have a7:=Au _ ah;have a8:=At ag;have bu:K.wrap ((c:Int)+1)=((c+1:Nat):Int):=by rw[jB];omega
    generalize hu:j[c].2=bA at *;obtain⟨aQ,aR,rfl⟩:=L.iface;rw[ao] at aZ;have ai:G No wr (wr.alloc (v #[y K (canon f[c]).fl,.iface aQ aR] 125)):=(G.refl _ _).alloc _;have ay:=IY (af.mod ai (λ_ _ p=>p)) (by omega) ag (L.mod ai (λ_ _ p=>p));generalize (canon f[c]).fl=a1 at *;have ap:=i ay
    have ar:=i λam (B:lU (wr.alloc (v #[y K a1,.iface aQ aR] 125)) am bf (e.heap.size+1) pt bd f2)=>oD.next (i:=c) (k s).ge (I.alloc _) aK aL B (by rw[bj];have:=af.has.lt;omega) ah (by omega)
    have bh:=i H;clear H I aI aA ao L af aK aL ag ah hd ai ay a7 a8 bb;go_wp2_with fail;refine(k ap).mono ?_;rintro m am ⟨rfl,B⟩;have aY:=i ((k ar) am B);clear B ap ar;go_wp2;exact⟨⟨c+1,rfl,by omega,aY⟩,by simp[intOf];omega⟩
   ·have a9:¬(c:Int)<(j.length:Int):=by omega
    have M:=i ((k s).fin (k aq) (by have:=k N;omega) (k aU) (k aV) (k aX));clear s;go_wp2_with fail;go_ret2;exact⟨λ_=>⟨_,rfl,k M⟩,λaa=>absurd (k aW) aa⟩
 ·have a0:=R x;subst a0;have q:G No e (e.alloc (v #[b F,y K 0,W false] 110)):=(G.refl _ _).alloc _;have M:=i (eL (t2.aD q) (J.trans (q.mono λ_ _ p=>p.elim)));clear t2 J S R O Q P q;go_wp2_with fail;go_ret2;exact⟨λaa=>absurd aa x,λ_=>⟨rfl,k M⟩⟩
attribute [local go_sem] xS xT xU xV xW xX xY
theorem JJ{q:Nat->Prop} {e:U} {x:Nat} {xs:List Int} {now:Int} (r:∃w,bM q e x w xs now) (N:eB q e) (hl:xs.length<1099511599000) (j:Int) (hf:0<=j/\j<32) (p:O) (af:O.fit p) (ae:0<=p.ep/\p.ep<9223372036854775808) {a:Option Addr} {c:Nat} (d:List B) (Q:∀ah∈d,jJ now ah) (ag:d.length<=120)
  (P:e.ownsRow 0 202 6 (C a d.length c) d.length (d.flatMap dm)) (hb:∀M,(C a d.length c).ownBlock=E M->¬q M):Calls T 110 #[b (E ⟨x,0,F⟩),l #[y K j,.iface 196 (l #[y K p.rows,y K p.w,y K p.front,y K p.I,y K p.R,y K p.n,y K p.f,C a d.length c,y K p.ep])]] e λn w'=>n=g (h #[])/\dp q e w' x (xs++((32* 7+j)::jD now p d)) now:=by
 obtain⟨w,r⟩:=r;have A:=i (X.n9 e (v #[y K j,.iface 196 (l #[y K p.rows,y K p.w,y K p.front,y K p.I,y K p.R,y K p.n,y K p.f,C a d.length c,y K p.ep])] 125) #[y K p.rows,y K p.w,y K p.front,y K p.I,y K p.R,y K p.n,y K p.f,C a d.length c,y K p.ep] 196)
 have J:=i (N.iu (v #[y K j,.iface 196 (l #[y K p.rows,y K p.w,y K p.front,y K p.I,y K p.R,y K p.n,y K p.f,C a d.length c,y K p.ep])] 125) (v #[y K p.rows,y K p.w,y K p.front,y K p.I,y K p.R,y K p.n,y K p.f,C a d.length c,y K p.ep] 196))
 have H:=i (nZ ⟨w,r.iu (v #[y K j,.iface 196 (l #[y K p.rows,y K p.w,y K p.front,y K p.I,y K p.R,y K p.n,y K p.f,C a d.length c,y K p.ep])] 125) (v #[y K p.rows,y K p.w,y K p.front,y K p.I,y K p.R,y K p.n,y K p.f,C a d.length c,y K p.ep] 196)⟩ (k J) (by omega) 7 j (by omega) hf)
 have R:G No e ((e.alloc (v #[y K j,.iface 196 (l #[y K p.rows,y K p.w,y K p.front,y K p.I,y K p.R,y K p.n,y K p.f,C a d.length c,y K p.ep])] 125)).alloc (v #[y K p.rows,y K p.w,y K p.front,y K p.I,y K p.R,y K p.n,y K p.f,C a d.length c,y K p.ep] 196)):=((G.refl _ _).alloc _).alloc _;have aa:=i (R.owns P (λ_ _ z=>z));have D:=i hb;clear r N P hb R;have ab:=i Q;clear Q;go_enter func110,ntmps110
 go_wp2_with fail;refine(k H).mono ?_;rintro n m ⟨rfl,o⟩;have f:=o.mod.has (k A) (λs=>s.2 rfl);have ai:m.cell? ⟨e.heap.size+1,0,F⟩=E (y K p.rows):=f.cell 0;have aj:m.cell? ⟨e.heap.size+1,1,F⟩=E (y K p.w):=f.cell 1;have ak:m.cell? ⟨e.heap.size+1,2,F⟩=E (y K p.front):=f.cell 2;have am:m.cell? ⟨e.heap.size+1,3,F⟩=E (y K p.I):=f.cell 3;have ao:m.cell? ⟨e.heap.size+1,4,F⟩=E (y K p.R):=f.cell 4
 have ap:m.cell? ⟨e.heap.size+1,5,F⟩=E (y K p.n):=f.cell 5;have aq:m.cell? ⟨e.heap.size+1,6,F⟩=E (y K p.f):=f.cell 6;have ar:m.cell? ⟨e.heap.size+1,7,F⟩=E (C a d.length c):=f.cell 7;have au:m.cell? ⟨e.heap.size+1,8,F⟩=E (y K p.ep):=f.cell 8;have av:=f.lt;have Y:=i ((k J).mod o.mod);have L:=i o
 have I:=i (IZ o.ex (k Y) (by simp only[aJ,oa];omega) p af ae d (k ab) ag (o.mod.owns (k aa) (λu t n=>(k D) u t n.1.1)) (λu t n=>(k D) u t n.1.1));clear o f H A;go_wp2_with fail;refine(k I).mono ?_;rintro n aw ⟨rfl,S⟩;have ad:=i ((S.after (k L).mod (λ_ _ z=>z)).n7);clear S I L;go_wp2;go_end0;refine⟨rfl,?_⟩;have s:=k ad;rw[bI] at s;exact s
theorem dy.at :∀ {es:List o} {now:Int},dy now es->∀(a:Nat) (hi:a<es.length),lT (jY now es a) es[a]
 |d::es,now,c,0,_=>c.1
 |d::es,now,c,a+1,hi=>by
  have:=dy.at c.2 a (by simpa using hi);exact this
 |[],_,_,a,hi=>by simp at hi
theorem JK(now:Int) (p:O) (a:List B):(jD now p a).length<=81+36* a.length:=by
 have c:=zZ p;have d:=(dk p.ep).2;have e:=(dk (a.length:Int)).2;have f:=vA now a;unfold jD;simp only[aJ];omega
theorem JL{now:Int} {a:o} (c:lT now a):(fk now a).length<=4500:=by
 by_cases d:a.kind=7
 ·have e:=JK now a.p a.S;have f:=(c.w d).1;unfold fk;rw[if_neg (by omega),if_neg (by omega),if_neg (by omega),if_neg (by omega),if_neg (by omega),if_neg (by omega)];simp only[dP];omega
 ·have:=rX (c.c d);omega
theorem Ay:∀ {es:List o} {now:Int},dy now es->(fq now es).length<=4500* es.length
 |[],_,_=>by simp[fq]
 |e::es,now,c=>by
  have a:=JL c.1;have d:=Ay c.2;simp only[fq,aJ,dP];omega
theorem dy.take:∀ {es:List o} {now:Int},dy now es->∀c,dy now (es.take c)
 |_,_,_,0=>by rw[List.take_zero];trivial
 |[],_,a,_+1=>by rw[List.take_nil];trivial
 |d::es,now,a,c+1=>⟨a.1,dy.take a.2 c⟩
theorem JM{f:Nat->Prop} {j e:U} {k:Nat} {xs:List Int} {now:Int} (m:∃i,bM f e k i xs now) (p:eB f e) (hl:xs.length<1099511599000) {a:o} (hf:lT now a) {w:Nat} {i:V} (hv:cO j w i a) (t:G No j e) (hb:∀d,d<j.heap.size->¬f d):Calls T 110 #[b (E ⟨k,0,F⟩),l #[y K a.fl,i]] e λH w'=>H=g (h #[])/\dp f e w' k (xs++fk now a) (fm now a):=by
 unfold cO at hv;by_cases c:a.kind=7
 ·rw[if_pos c] at hv;obtain⟨q,r,rfl,n,N⟩:=hv;obtain⟨x,z,A,B,D,O⟩:=hf.p c;obtain⟨J,L⟩:=hf.w c;have:=JJ m p hl a.fl (hf.fl c) a.p ⟨⟨x.1,by omega⟩,⟨z.1,by omega⟩,⟨A.1,by omega⟩,λu=>by have:=B u;omega⟩ ⟨D,by omega⟩ (a:=q) (c:=r) a.S (λI hs=>(L I hs).1) J (t.owns n (λ_ _ M=>M)) (λd s=>hb d (n.lt d s).2);unfold fk fm
  rw[if_neg (by omega),if_neg (by omega),if_neg (by omega),if_neg (by omega),if_neg (by omega),if_neg (by omega),if_neg (by omega)];exact this
 ·rw[if_neg c] at hv;rw[hv];exact yj m p (by omega) a (hf.c c)
theorem JO{n:U} {k:Nat} {c:List (Int×V)} {es:List o} (i:bE n k c es):∀a,∃e f,a<c.length->∀(d:a<c.length),c[a].2=.iface e f:=λa=>by
 by_cases d:a<c.length
 ·obtain⟨e,f,j⟩:=(i.get a d (by rw[<-i.len];exact d)).2.iface;exact⟨e,f,λ_ _=>j⟩
 ·exact⟨0,.nilIface,λm=>absurd m d⟩
theorem JP{i:U} {now:Int} {j m q w:Nat} {d:List (Int×V)} {es:List o} (s:fh i w (C (E ⟨j,0,F⟩) m q) d) (r:bE i w d es) (hf:dy now es) (R:1<=es.length/\es.length<=21):Calls T 81 #[y K now,C (E ⟨j,0,F⟩) m q] i λL w'=>∃x,L=g x/\qt i w' x (ag now es):=by
 have P:=r.len;have S:m=d.length:=Ax s.row;have k:∀a,∃n p G,∀(e:a<d.length),d[a].2=.iface n p/\d[a].1=G:=λa=>by
  obtain⟨n,p,c⟩:=JO r a;by_cases e:a<d.length
  ·exact⟨n,p,d[a].1,λe=>⟨c e e,rfl⟩⟩
  ·exact⟨n,p,0,λc=>absurd c e⟩
 obtain⟨c,u⟩:∃c:Nat->TypeId×V×Int,∀a (e:a<d.length),d[a].2=.iface (c a).1 (c a).2.1/\d[a].1=(c a).2.2:=
  ⟨λa=>((k a).choose,(k a).choose_spec.choose,(k a).choose_spec.choose_spec.choose),λa e=>(k a).choose_spec.choose_spec.choose_spec e⟩
 refine yi now j 0 m q i es (by omega) (by omega) (λa=>(c a).2.2) (λa=>(c a).1) (λa=>(c a).2.1) (λa hi=>?_) (s.row.lt j rfl).2 (λa hi=>?_) (λa hi M t aa xs X I=>?_)
 ·have hs:=u a (by omega);obtain⟨H,f,_,B,D⟩:=Aw s a (by omega);injection f with f;injection f with f _ _;subst f;rw[bg];exact⟨by rw[B,hs.2],by rw[D,hs.1]⟩
 ·have N:=Ay (hf.take a);have O:(es.take a).length<=21:=by rw[dj];omega
  unfold iv;omega
 ·have hs:=u a (by omega);obtain⟨z,A⟩:=r.get a (by omega) hi;rw[hs.1] at A;rw[hs.2] at z;rw[z];exact JM I (λY J=>bF t.size J) (by omega) (hf.at a hi) A t (λH Q c=>by omega)
open Go.RowKit Go.WideMaps
open Go.ChangeMaps (setBlock)
def dK(a:List B):List B:=a.filter λc=>c.st !=0
theorem vJ(c:List B) (a:Nat) (hi:a<c.length):dK (c.take (a+1))=dK (c.take a)++(if c[a].st≠0 then[c[a]] else[]):=by
 unfold dK;rw[take_succ c a hi,List.filter_append];by_cases d:c[a].st=0
 ·simp[d]
 ·simp[d]
structure jq (w wr:U) (b m clock cb:Nat) (p:O) (l:List B) (es:List t) (v:V) (i:Nat):Prop where
 fl:bo wr b p l m es clock
 box:X wr cb (j4 p v).toArray 196
 row:wr.ownsRow 0 202 6 v (dK (l.take i)).length ((dK (l.take i)).flatMap dm)
 new:∀k,v.ownBlock=E k->w.heap.size<=k/\k≠cb
 mod:G No w wr
 Az:w.heap.size<=cb
theorem jq.still{o wr w2:U} {e m i f:Nat} {p:O} {k:List B} {es:List t} {n:V} {j:Nat} (a:jq o wr e m i f p k es n j) (d:G No wr w2):jq o w2 e m i f p k es n j:=
 ⟨⟨d.has a.fl.has (λc=>c),d.map a.fl.map (λc=>c),a.fl.ok,a.fl.rel⟩,d.has a.box (λc=>c),d.owns a.row (λ_ _ c=>c),a.new,a.mod.trans d,a.Az⟩
theorem jq.free{m wr:U} {e j i f:Nat} {p:O} {c:List B} {es:List t} {k:V} {a:Nat} (d:jq m wr e j i f p c es k a) (hi:a<c.length) (o:c[a].st=0):jq m wr e j i f p c es k (a+1):=by
 have n:dK (c.take (a+1))=dK (c.take a):=by rw[vJ c a hi,if_neg (by simp[o]),dR]
 exact⟨d.fl,d.box,by rw[n];exact d.row,d.new,d.mod,d.Az⟩
theorem jq.put{k wr w6:U} {m o x c:Nat} {p:O} {e:List B} {es:List t} {i v':V} {d:Nat} (I:jq k wr m o x c p e es i d) (hi:d<e.length) (J:e[d].st≠0) (hb:m<k.heap.size/\o<k.heap.size) (u:Obj) (N:w6.ownsRow 0 202 6 v' ((dK (e.take d)).length+1) (((dK (e.take d)).flatMap dm)++dm e[d])) (M:(wr.alloc u).grownBy w6 i.ownBlock) (hs:dY (wr.alloc u) i v'):jq k (w6.setCell ⟨c,7,F⟩ v') m o x c p e es v' (d+1):=by
 obtain⟨n,z,Q,q,A,L⟩:=I;have R:=A.size;have hc:=z.lt;have H:G (λa=>i.ownBlock=E a) wr w6:=((G.refl _ wr).alloc u).grown M (λa j=>.inl j);have s:G (λa=>i.ownBlock=E a\/a=c) wr (w6.setCell ⟨c,7,F⟩ v'):=(H.mono (λ_ _ P=>.inl P)).setCell (p:=⟨c,7,F⟩) (.inl (.inr rfl)) _;have r:∀a,a<k.heap.size->¬(i.ownBlock=E a\/a=c):=λa j=>by
  rintro(f|f)
  ·have:=(q a f).1;omega
  ·omega
 have D:∀a,v'.ownBlock=E a->k.heap.size<=a/\a≠c:=λa j=>by
  obtain w|w:=hs a j
  ·exact q a w
  ·rw[bj] at w;omega
 have f:dK (e.take (d+1))=dK (e.take d)++[e[d]]:=by rw[vJ e d hi,if_pos J]
 refine⟨⟨s.has n.has (r m hb.1),s.map n.map (r o hb.2),n.ok,n.rel⟩,?_,?_,D,A.trans' s (λa j hl=>absurd j (r a hl)),L⟩
 ·have hb:X w6 c (j4 p i).toArray 196:=H.has z (λf=>(q c f).2 rfl);exact hb.set 7 v'
 ·rw[f,aJ,lG];have:=gT N (a:=⟨c,7,F⟩) (λf=>(D c (by simpa using f)).2 rfl) v';simpa using this
theorem JQ{a:U} {c k f:Nat} {p:O} {j:List B} {es:List t} (d:bo a c p j k es f) (e:p.ep=1):Calls T 90 #[b (E ⟨c,0,F⟩)] a λi w'=>i=g (.iface 189 (l #[y K p.rows,y K p.w,y K p.front,y K p.I,y K p.R,y K p.n,y K p.f]))/\G No a w':=by
 have m:=d.has.lt;have f0:a.cell? ⟨c,0,F⟩=E (y K p.rows):=d.has.cell 0;have f1:a.cell? ⟨c,1,F⟩=E (y K p.w):=d.has.cell 1;have f2:a.cell? ⟨c,2,F⟩=E (y K p.front):=d.has.cell 2;have f3:a.cell? ⟨c,3,F⟩=E (y K p.I):=d.has.cell 3;have f4:a.cell? ⟨c,4,F⟩=E (y K p.R):=d.has.cell 4;have f5:a.cell? ⟨c,5,F⟩=E (y K p.n):=d.has.cell 5;have f6:a.cell? ⟨c,6,F⟩=E (y K p.f):=d.has.cell 6
 have f24:a.cell? ⟨c,24,F⟩=E (y K p.ep):=d.has.cell 24;rw[e] at f24;clear d e;go_enter func90,ntmps90;go_wp2_with fail;go_ret;exact⟨rfl,G.refl _ _⟩
theorem JR{e:U} {m ad ak:Nat} {p:O} {d:List B} {es:List t} (f:bo e m p d ad es ak) (Q:L p d) (w:p.ep≠1):Calls T 90 #[b (E ⟨m,0,F⟩)] e λJ w'=>∃a o,J=g (.iface 196 (l (j4 p (C a (dK d).length o)).toArray))/\w'.ownsRow 0 202 6 (C a (dK d).length o) (dK d).length ((dK d).flatMap dm)/\(∀j,(C a (dK d).length o).ownBlock=E j->e.heap.size<=j)/\G No e w':=by
 have bl:=f.has.lt;have f0:e.cell? ⟨m,0,F⟩=E (y K p.rows):=f.has.cell 0;have f1:e.cell? ⟨m,1,F⟩=E (y K p.w):=f.has.cell 1;have f2:e.cell? ⟨m,2,F⟩=E (y K p.front):=f.has.cell 2;have f3:e.cell? ⟨m,3,F⟩=E (y K p.I):=f.has.cell 3;have f4:e.cell? ⟨m,4,F⟩=E (y K p.R):=f.has.cell 4;have f5:e.cell? ⟨m,5,F⟩=E (y K p.n):=f.has.cell 5;have f6:e.cell? ⟨m,6,F⟩=E (y K p.f):=f.has.cell 6
 have f24:e.cell? ⟨m,24,F⟩=E (y K p.ep):=f.has.cell 24;have bQ:(p.ep==1)=false:=by simpa using w
 have bm:=(Array.getElem?_eq_some_iff.1 f.map).1;have aS:=Q.bounds;simp only at aS;have hlen:=Q.len;simp only at hlen;have aU:d.length<=120:=aM.wf.gU Q;have aW:K.wrap (p.rows* p.w)=p.rows* p.w:=aB _ (by omega) (by omega);have ay:=i λq (M:G No e q)=>xF m _ _ p.rows p.w q (M.has f.has (λs=>s)) rfl rfl aW;rw[<-hlen] at ay;obtain⟨av,aD⟩:∃av:Nat,p.w=(av:Int):=⟨p.w.toNat,by omega⟩
 have a2:=i λq (M:G No e q) (c:Nat) (hi:c<d.length)=>(show Calls T 113 #[b (E ⟨m,0,F⟩),y K (c:Int)] q λJ w'=>J=g (l #[y K d[c].row,y K d[c].P])/\G No q w' from by
  have:=rQ m _ _ av c q (M.has f.has (λs=>s)) (by rw[<-aD];rfl) (by omega) (by omega)
  have aE:=Q.place c hi
  simp only at aE
  rw[aE.1,aE.2,aD]
  exact this)
 have a4:=i λ(c:Nat) (hi:c<d.length)=>xG f.map f.ok f.rel Q c hi;have aa:jq e (e.alloc (v #[y K p.rows,y K p.w,y K p.front,y K p.I,y K p.R,y K p.n,y K p.f,C F 0 0,y K p.ep] 196)).drew m ad ak e.heap.size p d es (C F 0 0) 0:=by
  have N:G No e (e.alloc (v #[y K p.rows,y K p.w,y K p.front,y K p.I,y K p.R,y K p.n,y K p.f,C F 0 0,y K p.ep] 196)).drew:=((G.refl _ e).alloc _).drew;refine⟨⟨N.has f.has (λs=>s),N.map f.map (λs=>s),f.ok,f.rel⟩,(X.new e _ _).drew,?_,λbV bh=>by simp[az] at bh,N,bK _⟩;simpa [dK] using cJ _ _ _ _
 have aa:=i aa;have a3:=i λ(wr aH:U) (bz v':V) (c:Nat) (hS:jq e wr m ad ak e.heap.size p d es bz c) (hi:c<d.length) (u:d[c].st≠0)=>jq.put (w6:=aH) (v':=v') hS hi u ⟨bl,bm⟩;obtain⟨bt,bu,bv,bw,bx⟩:=info_parts zt;clear f Q aS aD w aW hlen;go_enter func90,ntmps90;go_wp2_with fail;go_region;go_wp2_with fail;refine((k ay) _ (k aa).mod).mono ?_;rintro J au ⟨rfl,ae⟩;have aQ:=i ((k aa).still ae)
 clear aa ae ay f0 f1 f2 f3 f4 f5 f6 f24;have bB:=i aU;go_wp2_with fail;go_loopw [30] (λag wr=>∃(c:Nat) (a:Option Addr) (z:Nat),ag=y K (c:Int)/\c<=d.length/\Hid (jq e wr m ad ak e.heap.size p d es (C a (dK (d.take c)).length z) c)) (λag _=>d.length - (intOf ag).toNat)
 case atStart=>exact⟨0,F,0,rfl,by omega,aQ⟩
 case round=>
  obtain⟨c,a,z,rfl,hi,n⟩:=hrel;clear aQ;by_cases w:c<d.length
  ·have bc:(c:Int)<(d.length:Int):=by omega
   have bU:K.wrap ((c:Int)+1)=((c+1:Nat):Int):=by rw[aB _ (by omega) (by omega)];rfl
   have aL:=i ((k a2) _ (k n).mod c w);have aw:=i ((k a4) c w);have aI:=i λq (M:G No wr q) (aH:U) v'=>(k a3) q aH _ v' c ((k n).still M) w;have aK:=i λq (M:G No wr q) (u:d[c].st=0)=>((k n).still M).free w u;have bR:(dK (d.take c)).length<=120:=by
    have:(dK (d.take c)).length<=(d.take c).length:=oZ _ _;rw[dj] at this;omega
   have Y:=i (vJ d c w);generalize hs:d[c]=ag at *;obtain⟨D,o,st,A,x,H⟩:=ag;simp only at aL aw aI aK Y;have bA:=i hi;have ai:=i w;clear hs w hi aU;go_wp2_with fail;refine(k aL).mono ?_;rintro J au ⟨rfl,ae⟩;have a5:=i ae;clear ae;go_upto_region 8 with fail;have N:=i (((k a5).alloc (v #[y K D,y K o] 36)));have S:=i ((k n).still (k N));have af:=X.new au #[y K D,y K o] 36;have aO:=i af
   generalize bq:au.alloc (v #[y K D,y K o] 36)=I at *;generalize bT:au.heap.size=aq at *;clear bq;have a9:I.cell? ⟨m,7,F⟩=E (.map (E ad)):=(k S).fl.has.cell 7;have a8:=(k S).fl.has.lt;have aX:I.cell? ⟨aq,0,F⟩=E (y K D):=af.cell 0;have aY:I.cell? ⟨aq,1,F⟩=E (y K o):=af.cell 1;have aZ:=af.lt;have bi:=(k aw) I.drew ((k S).mod.drew)
   have bk:=(k aw) (I.alloc (v #[y K 0,y K 0,y K 0,y K 0] 199)).drew (((k S).mod.alloc _).drew);clear af;go_region
   all_goals
    have aF:=i (((k N).alloc (v #[y K st,y K A,y K x,y K H] 199)).drew);have P:=i ((k n).still (k aF));have ap:=((k aO).alloc (v #[y K st,y K A,y K x,y K H] 199)).drew;have R:=(X.new I #[y K st,y K A,y K x,y K H] 199).drew;clear bi bk a9 a8 aX aY aZ S N aO;generalize bs:(I.alloc (v #[y K st,y K A,y K x,y K H] 199)).drew=r at *;generalize bp:I.heap.size=ar at *;clear bs bp
    have aX:r.cell? ⟨aq,0,F⟩=E (y K D):=ap.cell 0;have aY:r.cell? ⟨aq,1,F⟩=E (y K o):=ap.cell 1;have aZ:=ap.lt;have bW:r.cell? ⟨ar,0,F⟩=E (y K st):=R.cell 0;have bY:r.cell? ⟨ar,1,F⟩=E (y K A):=R.cell 1;have bZ:r.cell? ⟨ar,2,F⟩=E (y K x):=R.cell 2;have b1:r.cell? ⟨ar,3,F⟩=E (y K H):=R.cell 3;have sl:=R.lt;have ba:r.cell? ⟨e.heap.size,7,F⟩=E (C a (dK (d.take c)).length z):=(k P).box.cell 7
    have bN:=(k P).box.frozen;have bb:=(k P).box.lt;clear ap R;by_cases u:st=0
    ·have aN:=i u;subst u;have ab:=(k aK) _ (k aF) rfl;have ao:=k Y;rw[if_neg (by simp),dR] at ao;rw[<-ao] at ab;have ah:=i ab;have aj:=i (congrArg List.length ao);clear ab ao Y;go_wp2_with fail;exact⟨⟨c+1,a,z,rfl,by have:=k ai;omega,by rw[k aj];rw[k aj] at ah;exact ah⟩,by simp[intOf];have:=k ai;omega⟩
    ·have aN:=i u;have bS:(st !=0)=true:=by simp[u]
     have a1:=i (((G.refl No r).alloc (v #[y K D,y K o,y K st,y K A,y K x,y K H] 202)).owns (k P).row (λ_ _ s=>s));have ax:=i (zu r ⟨D,o,st,A,x,H⟩);have a0:=i (((G.refl No r).alloc (v #[y K D,y K o,y K st,y K A,y K x,y K H] 202)).has (k P).box (λs=>s));have a6:=i (show E e.heap.size≠(C a (dK (d.take c)).length z).ownBlock from λJ=>((k P).new _ J.symm).2 rfl)
     have aj:=i (show(dK (d.take (c+1))).length=(dK (d.take c)).length+1 by
      rw[k Y,if_pos u]
      simp)
     unfold dm at ax;simp only at ax;clear u Y
     go_wp2_with (first|(at_builtin;refine eI rfl (.tmp 47) (.tmp 51) 194 rfl 202 bt _ 6 48 underlying194 bu bv bw bx rfl (by decide) (C a (dK (d.take c)).length z) (dK (d.take c)).length _ (by simp[Z]) (by exact k a1) (C (E ⟨r.heap.size,0,F⟩) 1 1) 1 [y K D,y K o,y K st,y K A,y K x,y K H] (by simp[Z]) (by exact k ax) rfl (by intro b2 hu;simp at hu;obtain rfl|rfl|rfl|rfl|rfl|rfl:=hu<;>rfl) (by unfold maxLen;omega) (by omega) ?_;intro v' w3 aV aT bn;obtain⟨a7,aR,rfl⟩:=aC aV;have aA:=i (X.grown (k a0) aT (k a6));have bL:w3.cell? ⟨e.heap.size,7,F⟩=E (C a (dK (d.take c)).length z):=(k aA).cell 7;have bO:=(k aA).frozen;have bP:=(k aA).lt))
     have ab:=(k aI) r (k aF) w3 _ (k aN) _ aV aT bn;have ah:=i ab;exact⟨⟨c+1,a7,aR,rfl,by have:=k ai;omega,by rw[k aj];exact ah⟩,by simp[intOf];have:=k ai;omega⟩
  ·have bd:c=d.length:=by omega
   subst bd;have bc:¬((d.length:Nat):Int)<(d.length:Int):=by omega
   have bC:wr.cell? ⟨e.heap.size,0,F⟩=E (y K p.rows):=(k n).box.cell 0;have bD:wr.cell? ⟨e.heap.size,1,F⟩=E (y K p.w):=(k n).box.cell 1;have bE:wr.cell? ⟨e.heap.size,2,F⟩=E (y K p.front):=(k n).box.cell 2;have aR:wr.cell? ⟨e.heap.size,3,F⟩=E (y K p.I):=(k n).box.cell 3;have bG:wr.cell? ⟨e.heap.size,4,F⟩=E (y K p.R):=(k n).box.cell 4
   have bH:wr.cell? ⟨e.heap.size,5,F⟩=E (y K p.n):=(k n).box.cell 5;have bJ:wr.cell? ⟨e.heap.size,6,F⟩=E (y K p.f):=(k n).box.cell 6;have ba:wr.cell? ⟨e.heap.size,7,F⟩=E (C a (dK (d.take d.length)).length z):=(k n).box.cell 7;have bM:wr.cell? ⟨e.heap.size,8,F⟩=E (y K p.ep):=(k n).box.cell 8;have bb:=(k n).box.lt;go_wp2_with fail;go_ret;have am:=k n;rw[eA] at am
   exact⟨a,z,rfl,by have:=am.row;rw[eA] at this;exact this,λj bf=>(am.new j bf).1,am.mod⟩
theorem JS{d:U} {j z q:Nat} {p:O} {a:List B} {es:List t} (k:bo d j p a z es q) (x:L p a) (i:Nat):Calls T 90 #[b (E ⟨j,0,F⟩)] d λe w'=>∃m,e=g m/\cO w' d.heap.size m (dq i (p,a))/\G No d w':=by
 by_cases c:p.ep=1
 ·refine(JQ k c).mono ?_;rintro e w' ⟨rfl,w⟩;refine⟨_,rfl,?_,w⟩;unfold cO;have f:(dq i (p,a)).kind=1:=by unfold dq;simp[c]
  rw[if_neg (by omega)];unfold dh;rw[if_pos f];rfl
 ·refine(JR k x c).mono ?_;rintro e w' ⟨n,o,rfl,r,s,u⟩;refine⟨_,rfl,?_,u⟩;unfold cO;have f:(dq i (p,a)).kind=7:=by unfold dq;simp[c]
  rw[if_pos f];exact⟨n,o,rfl,r,s⟩
def ev(now:Int) (c:Y) (d:Nat):List o:=
 (if 0<now then[⟨0,6,⟨0,0,0,0,0,0,0,0⟩,jc,0,0,now,[]⟩] else[])++(iq d).filterMap λa=>(c a).map (dq a)
theorem jr(now:Int) (a:Y):ev now a 21=dH now a:=rfl
theorem oE{now:Int} {a:Y} {c:Nat} (d:a c=F):ev now a (c+1)=ev now a c:=by
 unfold ev;rw[List.range_succ,List.filterMap_append];simp[d]
theorem pE{now:Int} {c:Y} {a:Nat} {d:O×List B} (e:c a=E d):ev now c (a+1)=ev now c a++[dq a d]:=by
 unfold ev;rw[List.range_succ,List.filterMap_append];simp[e]
theorem nj(now:Int) (c:Y) (a:Nat):(ev now c a).length<=a+1:=by
 unfold ev;have e:=List.length_filterMap_le (λd=>(c d).map (dq d)) (iq a);rw[List.length_range] at e;rw[aJ];split
 ·simp;omega
 ·simp;omega
theorem JT{now:Int} {c:Y} (f:c 0=F) (a:Nat) (j:1<=a):(ev now c a).length<=a:=by
 induction a with
 |zero=>omega
 |succ a e=>
  by_cases i:a=0
  ·subst i;rw[oE f];exact nj now c 0
  ·cases d:c a with
   |none=>rw[oE d];have:=e (by omega);omega
   |some k=>rw[pE d,aJ];have:=e (by omega);simp;omega
structure jO (w wr:U) (v:V) (L:List (Int×V)) (es:List o):Prop where
 row:fh wr w.heap.size v L
 nd:bE wr w.heap.size L es
 mod:G No w wr
theorem jO.still{i wr j:U} {f:V} {e:List (Int×V)} {es:List o} (a:jO i wr f e es) (c:G No wr j):jO i j f e es:=
 ⟨a.row.mod c (λ_ _ d=>d),a.nd.mod c (λ_ _ d=>d),a.mod.trans c⟩
theorem jO.next{p wr w6:U} {k v':V} {d:List (Int×V)} {es:List o} (r:jO p wr k d es) {e:o} {f:Int} {t:TypeId} {u:V} (hf:f=e.fl) (hv:cO wr p.heap.size (.iface t u) e) (n:Obj) (x:w6.ownsRow 0 125 2 v' (d.length+1) ((d.flatMap eG)++[y K f,.iface t u])) (w:(wr.alloc n).grownBy w6 k.ownBlock) (hs:dY (wr.alloc n) k v'):jO p w6 v' (d++[(f,.iface t u)]) (es++[e]):=by
 obtain⟨i,s,q⟩:=r;have B:=q.size;have m:G (λc=>k.ownBlock=E c) wr w6:=((G.refl _ wr).alloc n).grown w (λc j=>.inl j);refine⟨⟨?_,λc j=>?_,λA z=>?_⟩,?_,q.trans' m (λc j hl=>by have:=i.own c j;omega)⟩
 ·have e:(d++[(f,Value.iface t u)]).flatMap eG=d.flatMap eG++[y K f,.iface t u]:=by rw[lG];simp[eG]
  rw[e,aJ];exact x
 ·obtain a|a:=hs c j
  ·exact i.own c a
  ·rw[bj] at a;omega
 ·obtain a|a:=List.mem_append.1 z
  ·exact i.one A a
  ·simp at a;subst a;rfl
 ·exact bE.append (L':=[(f,.iface t u)]) (es':=[e]) ⟨⟨hf,hv.app i.row (by exact m)⟩,trivial⟩ (bE.app i.row m s)
theorem AB(e:U) (a:Int) (c:TypeId) (d:V):Reads (e.alloc (v #[y K a,.iface c d] 125)) (C (E ⟨e.heap.size,0,F⟩) 1 1) 1 [y K a,.iface c d]:=zS e (a,.iface c d)
theorem tg{f:U} {a1:Nat->Nat} {B:Nat} {now:Int} {pt:Nat->Option Nat} {c:Y} (x:cF f a1 B now pt c) (aj:c 0=F) (hf:dy 0 (dH now c)):Calls T 57 #[b (E ⟨B,0,F⟩)] f λp w'=>∃m,p=g m/\qt f w' m (ay now c):=by
 have bh:=x.has.lt;have a7:f.cell? ⟨B,0,F⟩=E (y K now):=x.has.cell 0;have L:=i x;have aI:=i hf;have aK:=i aj;obtain⟨ar,ax,aA,aD,aE⟩:=info_parts vt;clear x hf aj;go_enter func57,ntmps57;go_upto_if 10 with fail;go_cut [3] from 10 to 20 (λw a3=>∃m d,w=m/\Hid (jO f a3 m d (ev now c 0)))
 case first=>
  by_cases j:0<now
  ·have aW:now>0:=j;have X:=i (show ev now c 0=[]++[⟨0,6,⟨0,0,0,0,0,0,0,0⟩,jc,0,0,now,[]⟩] by unfold ev;rw[if_pos j];rfl);have o:jO f f (C F 0 0) [] []:=⟨⟨cJ _ _ _ _,λa0 ab=>by simp[az] at ab,λn ad=>by simp at ad⟩,trivial,G.refl _ _⟩;have M:=i (((G.refl No f).alloc (v #[y K 0,.iface 159 (l #[y K now])] 125)).owns o.row.row (λ_ _ n=>n));have N:=i (AB f 0 159 (l #[y K now]))
   have P:=i (λ(J:U) (v':V)=>jO.next (w6:=J) (v':=v') o (e:=⟨0,6,⟨0,0,0,0,0,0,0,0⟩,jc,0,0,now,[]⟩) (f:=0) (t:=159) (u:=l #[y K now]) rfl rfl);clear o
   go_wp2_with (first|(at_builtin;refine eI rfl (.tmp 11) (.tmp 19) 111 rfl 125 ar _ 2 24 underlying111 ax aA aD aE rfl (by decide) (C F 0 0) 0 [] (by simp[Z]) (by exact k M) (C (E ⟨f.heap.size,0,F⟩) 1 1) 1 [y K 0,.iface 159 (l #[y K now])] (by simp[Z]) (by exact k N) rfl (by intro aF hu;simp at hu;obtain rfl|rfl:=hu<;>rfl) (by unfold maxLen;omega) (by omega) ?_;intro v' w3 am aT aX;obtain⟨a5,a8,rfl⟩:=aC am))
   go_meet;exact⟨_,_,rfl,by rw[k X];exact(k P) _ _ _ am aT aX⟩
  ·have aW:¬now>0:=j;have X:=i (show ev now c 0=[] by unfold ev;rw[if_neg j];rfl);go_wp2_with fail;go_meet;exact⟨_,[],rfl,by rw[k X];exact⟨⟨cJ _ _ _ _,λa0 ab=>by simp[az] at ab,λn ad=>by simp at ad⟩,trivial,G.refl _ _⟩⟩
 case rest=>
  obtain⟨bl,a4,rfl,o⟩:=hcut;have ap:=yP ((k o).mod.has (k L).has (λn=>n));go_wp2_with (refine wpList_load_mid rfl 115 _ rfl B 1 rfl (qB pt) (.array 21 114) ap yM rfl yN ?_);go_loopw [3,25] (λw a2 wr=>∃(a:Nat) (m:V) (d:List (Int×V)),w=m/\a2=y K a/\a<=21/\Hid (jO f wr m d (ev now c a))) (λ_ w _=>21 - (intOf w).toNat)
  case atStart=>exact⟨0,_,_,rfl,rfl,by omega,o⟩
  case round=>
   obtain⟨a,m,d,rfl,rfl,A,e⟩:=hrel;clear o ap;have q:d.length=(ev now c a).length:=(k e).nd.len;have aa:=nj now c a;obtain⟨Q,ai,rfl⟩:=aC (k e).row.row;by_cases S:a<21
   ·have aV:(a:Int)<21:=by omega
    have bf:K.wrap ((a:Int)+1)=((a+1:Nat):Int):=by rw[aB _ (by omega) (by omega)];rfl
    have z:=yO pt a S wr
    cases r:c a with
    |none=>
     have u:=(k L).gone a S r;rw[u] at z;rw[show aL F=b F from rfl] at z;have aM:=i (show jO f wr (C Q d.length ai) d (ev now c (a+1)) by rw[oE r];exact k e);clear r u e;go_wp2_with fail;exact⟨⟨a+1,_,d,rfl,rfl,by omega,aM⟩,by simp[intOf];omega⟩
    |some n=>
     obtain⟨aw,au⟩:=n;obtain⟨t,u,aq,hf⟩:=(k L).here a aw au S r;rw[u] at z;rw[show aL (E t)=b (E ⟨t,0,F⟩) from rfl] at z;obtain⟨bk,es,ba,f1,f2,f3,f4,f5,f6⟩:=hf.aD (k e).mod;have af:=i (JS ⟨f1,f2,f3,f4⟩ aq a);have aH:=i (pE (now:=now) r);clear r u aq hf f1 f2 f3 f4 f5 f6;go_wp2_with fail;refine(k af).mono ?_;rintro p I ⟨aF,rfl,hv,av⟩;obtain⟨D,H,rfl⟩:=hv.iface;have ah:=i ((k e).still av)
     have M:=i (((G.refl No I).alloc (v #[y K a,.iface D H] 125)).owns (k ah).row.row (λ_ _ n=>n));have N:=i (AB I a D H);have P:=i (λ(J:U) (v':V)=>jO.next (w6:=J) (v':=v') (k ah) (e:=dq a (aw,au)) (f:=a) (t:=D) (u:=H) rfl (hv.low (k e).mod.size));have bi:d.length<=22:=by omega
     clear hv av af q aa
     go_wp2_with (first|(at_builtin;refine eI rfl (.tmp 31) (.tmp 36) 111 rfl 125 ar _ 2 24 underlying111 ax aA aD aE rfl (by decide) (C Q d.length ai) d.length _ (by simp[Z]) (by exact k M) (C (E ⟨I.heap.size,0,F⟩) 1 1) 1 [y K a,.iface D H] (by simp[Z]) (by exact k N) rfl (by intro aF hu;simp at hu;obtain rfl|rfl:=hu<;>rfl) (by unfold maxLen;omega) (by omega) ?_;intro v' J ao aU aY;obtain⟨a6,a9,rfl⟩:=aC ao))
     have aN:=i ((k P) _ _ _ ao aU aY);exact⟨⟨a+1,_,_,rfl,rfl,by omega,by rw[k aH];exact aN⟩,by simp[intOf];omega⟩
   ·have aV:¬(a:Int)<21:=by omega
    obtain rfl:a=21:=by omega
    rw[jr] at e q;by_cases ak:d.length=0
    ·have aZ:(d.length:Int)=0:=by omega
     have j:dH now c=[]:=fS (by omega);have O:=i (show ay now c=[] by unfold ay;rw[if_pos j]);clear aa q j;go_wp2_with fail;go_ret;exact⟨_,rfl,by rw[k O];exact⟨cJ _ _ _ _,λa A=>by simp[az] at A,(k e).mod⟩⟩
    ·have aS:d≠[]:=λp=>ak (by rw[p];rfl);have aZ:((d.length:Int)==0)=false:=by simpa using aS
     have j:dH now c≠[]:=λp=>ak (by rw[q,p];rfl);obtain⟨t,rfl⟩:∃t,Q=E ⟨t,0,F⟩:=by
      obtain⟨_,bd⟩|⟨aR,bb,bc,hv,_⟩:=(k e).row.row.2
      ·omega
      ·injection hv with aQ _ _;exact⟨aR,aQ⟩
     have R:=JT (now:=now) (k aK) 21 (by omega);rw[jr] at R;have ae:=i (JP (k e).row (k e).nd (k aI) ⟨by rw[<-q];omega,R⟩);have O:=i (show ay now c=ag 0 (dH now c) by unfold ay;rw[if_neg j]);clear aa q j R;go_wp2_with fail;refine(k ae).mono ?_;rintro p I ⟨m,rfl,s⟩;have aO:=i s;clear s ae;go_wp2_with fail;go_ret
     exact⟨_,rfl,by
      rw[k O]
      have s:=k aO
      exact⟨s.row,λa A=>bF (k e).mod.size (s.new a A),(k e).mod.trans s.mod⟩⟩
end Go.Proofs.YthhibagcpjeihaaGreat
