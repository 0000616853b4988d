import Derived.Test.YthhibagcpjeihaaGreatMRd7ToRd8
import Derived.Test.YthhibagcpjeihaaGreatMKeep3ToKeep8
import Derived.Test.YthhibagcpjeihaaGreatMRef14ToRef18
import Derived.Test.YthhibagcpjeihaaGreatMSto1ToRp3
open Go.Proofs.Tryz
open Go.Value renaming int->y,pointer->b,slice->C,bool->W,agg->l,tuple->h,ownBlock->az
open Go.IntKind renaming i64->K,wrap_i64->jB
open Option renaming none->F,some->E
open Go renaming World->U,Value->V
open Go.Proofs.Tryz renaming prog->T
open Go.Ending renaming returned->g
open Go.Obj renaming cells->v
open List renaming length_append->aJ,getElem?_eq_getElem->cK,append_assoc->bI,eq_nil_of_length_eq_zero->fS,length_take->dj,getElem_mem->dD,length_cons->dP,append_nil->dR,take_length->eA,getElem_of_mem->iP,length_set->iU,flatMap_append->lG,flatMap_cons->lh,take_add_one->lq,foldl_cons->kE,length_filter_le->oZ,getElem?_append_right->rz
open Go.World renaming size_alloc->bj,ownsRow_nil->cJ
open Go.Act renaming eval->Z
open Array renaming getElem?_toList->dE
open Nat renaming zero_add->bg,le_trans->bF,le_refl->bK
open Go.Instr renaming typeAssert->cU
open Go.Addr renaming add_mid->dx
namespace Go.Proofs.YthhibagcpjeihaaGreat
open Go.RowKit
open M
set_option linter.unusedVariables false
set_option linter.unusedSimpArgs false
set_option maxRecDepth 100000
set_option maxHeartbeats 4000000
def eG(a:Int×V):List V:=[y K a.1,a.2]
structure fh (w:U) (lo:Nat) (v:V) (L:List (Int×V)):Prop where
 row:w.ownsRow 0 125 2 v L.length (L.flatMap eG)
 own:∀j,v.ownBlock=E j->lo<=j
 one:∀x∈L,x.2.oneCell'=true
theorem fh.mod{w w':U} {d:Nat} {f:V} {e:List (Int×V)} {S:Nat->Prop} (c:fh w d f e) (j:G S w w') (hs:∀a,d<=a->¬S a):fh w' d f e:=⟨j.owns c.row (λa i=>hs a (c.own a i)),c.own,c.one⟩
theorem fh.low{i:U} {d e:Nat} {f:V} {c:List (Int×V)} (a:fh i d f c) (hl:e<=d):fh i e f c:=⟨a.row,λk j=>bF hl (a.own k j),a.one⟩
def bE(d:U) (c:Nat):List (Int×V)->List o->Prop
 |[],[]=>True
 |e::f,a::es=>(e.1=a.fl/\cO d c e.2 a)/\bE d c f es
 |[],_::_=>False
 |_::_,[]=>False
theorem bE.mod{w w':U} {d:Nat} {S:Nat->Prop} (e:G S w w') (hs:∀f,d<=f->¬S f):∀ {c:List (Int×V)} {es:List o},bE w d c es->bE w' d c es
 |[],[],_=>trivial
 |j::c,i::es,a=>⟨⟨a.1.1,a.1.2.mod e hs⟩,bE.mod e hs a.2⟩
 |[],_::_,a=>a.elim
 |_::_,[],a=>a.elim
theorem bE.low{f:U} {d e:Nat} (hl:e<=d):∀ {c:List (Int×V)} {es:List o},bE f d c es->bE f e c es
 |[],[],_=>trivial
 |j::c,i::es,a=>⟨⟨a.1.1,a.1.2.low hl⟩,bE.low hl a.2⟩
 |[],_::_,a=>a.elim
 |_::_,[],a=>a.elim
theorem bE.append{e:U} {d:Nat} {L':List (Int×V)} {es':List o} (f:bE e d L' es'):∀ {c:List (Int×V)} {es:List o},bE e d c es->bE e d (c++L') (es++es')
 |[],[],_=>f
 |j::c,i::es,a=>⟨a.1,bE.append f a.2⟩
 |[],_::_,a=>a.elim
 |_::_,[],a=>a.elim
theorem bE.len{e:U} {d:Nat}:∀ {c:List (Int×V)} {es:List o},bE e d c es->c.length=es.length
 |[],[],_=>rfl
 |i::c,f::es,a=>by simp[bE.len a.2]
 |[],_::_,a=>a.elim
 |_::_,[],a=>a.elim
theorem Ix{i j k:Type} (a:Option (i×List Int)) (c:i->List Int->Option (j×List Int)) (d:j->List Int->Option (k×List Int)):aw (aw a c) d=aw a (λf e=>aw (c f e) d):=by
 obtain _|⟨f,e⟩:=a<;>rfl
def pA(d:List o×Int) (a:List Int):Option ((List o×Int)×List Int):=aw (qv a) λc a=>if c=229 then E (d,a) else F
theorem zO(now:Int) (a:List Int):fO now a=aw (bc a 0 0) λc d=>aw (jL c.toNat now [] d) pA:=by
 unfold fO oe;rw[Ix];rfl
theorem zP{now:Int} {c:List Int} {f:o×Int} {d:List Int} (a:iy now c=E (f,d)):d.length<c.length:=by
 unfold iy at a
 cases c with
 |nil=>cases a
 |cons e c=>
  have a:cM now e c=E (f,d):=a;have:=(yE now e).le a;simp;omega
theorem zQ:∀(k:Nat) (now:Int) (f:List o) (e:List Int) {j:List o×Int} {i:List Int},jL k now f e=E (j,i)->j.1.length+i.length<=f.length+e.length
 |0,now,f,e,j,i,c=>by
  injection c with c;injection c with d n;subst d n;exact bK _
 |k+1,now,f,e,j,i,c=>by
  unfold jL at c;rcases d:iy now e with _|⟨q,p⟩
  ·rw[d] at c;cases c
  ·rw[d,fU] at c;have a:=zP d;have m:=zQ k _ _ _ c;simp at m;omega
theorem zR{now:Int} {e:List Int} {i:List o×Int} {f:List Int} (a:fO now e=E (i,f)):i.1.length+f.length+1<=e.length:=by
 rw[zO] at a;rcases c:bc e 0 0 with _|⟨p,q⟩
 ·rw[c] at a;cases a
 ·rw[c,fU] at a;have u:=qH c;rcases d:jL p.toNat now [] q with _|⟨t,r⟩
  ·rw[d] at a;cases a
  ·rw[d,fU] at a;have j:=zQ _ _ _ _ d
   cases r with
   |nil=>cases a
   |cons k s=>
    have a:(if k=229 then E (t,s) else F)=E (i,f):=a;split at a
    ·injection a with a;injection a with m n;subst m n;simp at j;omega
    ·cases a
theorem vt:(T.info? 125).map (λa=>(a.zero,a.size,a.bytes))=E (E (l #[y K 0,.nilIface]),2,24):=by kernel_rfl
theorem zS(c:U) (a:Int×V):Reads (c.alloc (v #[y K a.1,a.2] 125)) (C (E ⟨c.heap.size,0,F⟩) 1 1) 1 (eG a):=
 .inr ⟨⟨c.heap.size,0,F⟩,1,rfl,λe f hu=>by
  have d:=X.new c #[y K a.1,a.2] 125
  rw[dx,bg,d.cell,<-dE]
  exact hu⟩
theorem cO.app{m w':U} {p A:Nat} {q r:V} {a:o} {xs:List V} (d:cO m p q a) (hv:m.ownsRow 0 125 2 r A xs) (z:G (λj=>r.ownBlock=E j) m w'):cO w' p q a:=by
 unfold cO at d ⊢;split
 ·rename_i f;rw[if_pos f] at d;obtain⟨s,t,u,n,w⟩:=d;refine⟨s,t,u,z.owns n (λL e a=>?_),w⟩;obtain⟨_,i|⟨I,cap,D,i,_,x,_⟩⟩:=hv
  ·rw[i.1] at a;simp[az] at a
  ·obtain⟨_,k|⟨J,B,H,k,_,c,_⟩⟩:=n
   ·rw[k.1] at e;simp[az] at e
   ·rw[i] at a;rw[k] at e;simp[az] at a e;subst a;subst e;rw[x] at c;injection c with c;injection c with _ c _;exact absurd c (by decide)
 ·rename_i f;rw[if_neg f] at d;exact d
theorem bE.app{d w':U} {f k:Nat} {i:V} {xs:List V} (hv:d.ownsRow 0 125 2 i k xs) (e:G (λj=>i.ownBlock=E j) d w'):∀ {c:List (Int×V)} {es:List o},bE d f c es->bE w' f c es
 |[],[],_=>trivial
 |n::c,m::es,a=>⟨⟨a.1.1,a.1.2.app hv e⟩,bE.app hv e a.2⟩
 |[],_::_,a=>a.elim
 |_::_,[],a=>a.elim
structure pB (w wr:U) (rb gb:Nat) (v:V) (L:List (Int×V)) (acc:List o) (N k:Nat) (l:List Int) (t:Bool) (now:Int) (T:Option ((List o×Int)×List Int)):Prop where
 row:fh wr w.heap.size v L
 nd:t=false->bE wr w.heap.size L acc
 mod:G (· =rb) w wr
 at_:fg wr rb gb now T (λr=>aw (jL k now acc r) pA) l t
 len:L.length<=N+1/\(t=false->L.length+l.length<=N)
theorem pB.next{d wr p w6:U} {k q:Nat} {n v':V} {e:List (Int×V)} {s:List o} {L m:Nat} {z:List Int} {now:Int} {M:Option ((List o×Int)×List Int)} (ad:pB d wr k q n e s L (m+1) z false now M) (am:k<d.heap.size/\q<d.heap.size) {f:Int} {u:V} (ak:sJ wr p k q (iy now z) f u)
  (I:Obj) (aj:w6.ownsRow 0 125 2 v' (e.length+1) ((e.flatMap eG)++eG (f,u))) (ag:(p.alloc I).grownBy w6 n.ownBlock) (hs:dY (p.alloc I) n v'):∃ab aq t2 H,pB d w6 k q v' (e++[(f,u)]) ab L m aq t2 H M:=by
 obtain⟨aB,aC⟩:=am;obtain⟨t,ae,N,O,af⟩:=ad;obtain⟨ay,B,r⟩:=ak;have ao:=N.size;have A:G (λc=>n.ownBlock=E c) p w6:=((G.refl _ p).alloc I).grown ag (λc i=>.inl i);have x:∀c,n.ownBlock=E c->d.heap.size<=c/\c<wr.heap.size:=λc i=>⟨t.own c i,(t.row.lt c i).2⟩;have ai:∀c,v'.ownBlock=E c->d.heap.size<=c:=λc i=>by
  obtain j|j:=hs c i
  ·exact t.own c j
  ·have:=B.size;rw[bj] at j;omega
 have S:fh w6 d.heap.size v' (e++[(f,u)]):=by
  refine⟨?_,ai,λaA ap=>?_⟩
  ·have a:(e++[(f,u)]).flatMap eG=e.flatMap eG++eG (f,u):=by rw[lG];simp
   rw[a,aJ];exact aj
  ·obtain j|j:=List.mem_append.1 ap
   ·exact t.one aA j
   ·simp at j;subst j;exact ay
 have P:G (· =k) d w6:=(N.trans B).trans' A (λc i hl=>by have:=(x c i).1;omega);have R:¬(n.ownBlock=E k):=λa=>by have:=(x k a).1;omega
 have Q:¬(n.ownBlock=E q):=λa=>by have:=(x q a).1;omega
 have aD:=af.2 rfl;rcases w:iy now z with _|⟨⟨a,H⟩,J⟩
 ·rw[w] at r;obtain⟨J,ar,r⟩:=r;refine⟨s,J,true,ar,S,λa=>by simp at a,P,⟨r.mod A R Q,λa=>by simp at a,λ_=>?_⟩,by simp;omega,λa=>by simp at a⟩;rw[O.yes rfl];show aw (aw (iy now z) _) pA=F;rw[w];rfl
 ·rw[w] at r;obtain⟨au,av,ax⟩:=r;have aE:=zP w;refine⟨s++[a],J,false,H,S,λ_=>?_,P,⟨ax.mod A R Q,λ_=>?_,λa=>by simp at a⟩,by simp;omega,λ_=>by simp;omega⟩
  ·have ah:G (· =k) wr p:=B;have X:bE p d.heap.size e s:=(ae rfl).mod ah (λm D a=>by omega);have Y:cO w6 wr.heap.size u a:=av.mod A (λm D a=>by have:=(x m a).2;omega);have aa:bE w6 d.heap.size e s:=bE.app (B.owns t.row (λm D a=>by have:=(x m D).1;omega)) A X;exact bE.append (L':=[(f,u)]) (es':=[a]) ⟨⟨au,Y.low ao⟩,trivial⟩ aa
  ·rw[O.yes rfl];show aw (aw (iy now z) _) pA=_;rw[w];rfl
def vu(j w':U) (e d:Nat) (i:Option ((List o×Int)×List Int)) (f:List (Int×V)):Prop:=match i with
 |some ((es,a),c)=>aT w' e d c a false/\bE w' j.heap.size f es
 |none=>∃c a,aT w' e d c a true
theorem Iy{e wr c:U} {a p:Nat} {t:V} {j:List (Int×V)} {w:List o} {H q:Nat} {z:List Int} {m:Bool} {now u:Int} {n:Option ((List o×Int)×List Int)} (i:pB e wr a p t j w H q z m now n) (r:m=false->q=0) (M:a<e.heap.size) (hb:qh wr c a p z now m u):(u=229->fh c e.heap.size t j/\G (· =a) e c/\vu e c a p n j)/\(u≠229->fh (c.setCell ⟨a,2,F⟩ (W true)) e.heap.size t j/\G (· =a) e (c.setCell ⟨a,2,F⟩ (W true))/\vu e (c.setCell ⟨a,2,F⟩ (W true)) a p n j):=by
 obtain⟨N,s,hb⟩:=hb;have B:fh c e.heap.size t j:=i.row.mod s (λq r f=>by omega);have A:m=false->n=pA (w,now) z:=λf=>by
  rw[i.at_.yes f,r f];rfl
 constructor
 ·intro x;refine⟨B,i.mod.trans s,?_⟩;obtain⟨_,f,_⟩|⟨d,rfl,k⟩:=hb
  ·omega
  ·cases m with
   |false=>
    rw[A rfl,x];exact⟨k,(i.nd rfl).mod s (λq r f=>by omega)⟩
   |true=>rw[i.at_.no rfl];exact⟨d,now,k⟩
 ·intro x;have J:∃d,aT (c.setCell ⟨a,2,F⟩ (W true)) a p d now true/\G (· =a) c (c.setCell ⟨a,2,F⟩ (W true)):=by
   obtain⟨_,f,k⟩|⟨d,rfl,k⟩:=hb
   ·exact⟨_,k.va⟩
   ·exact⟨d,k.va⟩
  obtain⟨d,L,D⟩:=J;refine⟨B.mod D (λq r f=>by omega),(i.mod.trans s).trans D,?_⟩;have I:n=F:=by
   cases m with
   |true=>exact i.at_.no rfl
   |false=>
    rw[A rfl];obtain⟨rfl,_,_⟩|⟨d,rfl,_⟩:=hb
    ·rfl
    ·show(if u=229 then E ((w,now),d) else F)=F;rw[if_neg x]
  rw[I];exact⟨d,now,L⟩
theorem Iz{f:U} {c u:Nat} {r:List Int} {now:Int} (w:aT f c u r now false):Calls T 117 #[b (E ⟨c,0,F⟩)] f λe w'=>∃s a,e=g s/\fh w' f.heap.size s a/\G (· =c) f w'/\vu f w' c u (fO now r) a:=by
 have aH:=w.kz;have aA:=w.lt;have a2:=w.len;have L:=i ((w.start (fO now)).cont (c':=λI=>aw (bc I 0 0) λm I=>aw (jL m.toNat now [] I) pA) (zO now r));clear w;generalize fO now r=X at *;go_enter func117,ntmps117;go_wp2_with fail;refine(jF (k L).rd).mono ?_;rintro e aU ⟨m,rfl,fn,O⟩;obtain⟨aM,t1,aa,ae⟩:=(k L).next O.2
 have B:pB f aU c u (C F 0 0) [] [] r.length m.toNat aM t1 now X:=
  ⟨⟨cJ _ _ _ _,λa6 aB=>by simp[az] at aB,λn H=>by simp at H⟩,λ_=>trivial,O.1,aa,by simp,λe=>by have:=qH (ae e).1;simp;omega⟩
 have B:=i B;have M:=i (show c<f.heap.size/\u<f.heap.size from⟨aH,aA⟩);clear O aa ae L;go_wp2_with fail;go_loopw [3,4] (λP aS wr=>∃(m:Int) (s:V) (a:List (Int×V)) (ab:List o) (ai:List Int) (p:Bool) (aj:Int),P=s/\aS=y K m/\m<=9223372036854775807/\Hid (pB f wr c u s a ab r.length m.toNat ai p aj X)) (λ_ P _=>(intOf P).toNat)
 case atStart=>exact⟨m,_,_,_,_,_,_,rfl,rfl,fn.2,B⟩
 case round=>
  obtain⟨n',s,a,ab,ai,p,aj,rfl,rfl,a3,d⟩:=hrel;clear B;have aZ:wr.cell? ⟨c,2,F⟩=E (W p):=(k d).at_.rd.pw;have aY:=(k d).at_.rd.oq;by_cases D:0<n'/\p=false
  ·obtain⟨aE,rfl⟩:=D;have a1:n'>0:=aE;obtain⟨j,aD⟩:∃j,n'.toNat=j+1:=⟨n'.toNat - 1,by omega⟩;rw[aD] at d;have a5:K.wrap (n' - 1)=n' - 1:=by rw[jB];omega
   obtain⟨Y,ad,rfl⟩:=aC (k d).row.row;have a0:a.length<=1099511627776:=by have:=(k d).len.2 rfl;omega
   obtain⟨aL,aR,ak,am,ao⟩:=info_parts vt;go_wp2_with fail;refine(Hq (k d).at_.rd).mono ?_;rintro e q ⟨t,A,rfl,J⟩;have ag:∀j,(C Y a.length ad).ownBlock=E j->¬j=c:=λj e aX=>by have:=(k d).row.own j e;have:=(k M).1;omega
   have aq:=i (((G.refl No q).alloc (v #[y K t,A] 125)).owns (J.2.1.owns (k d).row.row ag) (λ_ _ n=>n));have ar:=i J;have af:=J.1
   have R:=i (λn (H:n∈eG (t,A))=>(show n.oneCell'=true from by
    simp[eG] at H
    obtain rfl|rfl:=H
    ·rfl
    ·exact af))
   have S:=i (zS q (t,A));unfold eG at S R;clear J ag af
   go_wp2_with (at_builtin;refine eI rfl (.tmp 18) (.tmp 21) 111 rfl 125 aL _ 2 24 underlying111 aR ak am ao rfl (by decide) (C Y a.length ad) a.length _ (by simp[Z]) (by exact k aq) (C (E ⟨q.heap.size,0,F⟩) 1 1) 1 [y K t,A] (by simp[Z]) (by exact k S) rfl (k R) (by unfold maxLen;omega) (by omega) ?_;intro a7 a8 ah ay aI;obtain⟨aV,aW,rfl⟩:=aC ah)
   obtain⟨au,aN,t9,aO,aK⟩:=(k d).next (k M) (k ar) _ ah ay aI
   refine⟨⟨n' - 1,_,a++[(t,A)],au,aN,t9,aO,rfl,rfl,by omega,i ?_⟩,by simp[intOf];omega⟩;rw[show(n' - 1).toNat=j by omega];exact aK
  ·have ap:=i (show p=false->n'.toNat=0 from λe=>by
    have:=D
    rw[e] at this
    simp at this
    omega)
   have ax:¬n'>0\/(n'>0/\p=true):=by
    by_cases x:n'>0
    ·refine .inr ⟨x,?_⟩
     cases p with
     |true=>rfl
     |false=>exact absurd ⟨x,rfl⟩ D
    ·exact .inl x
   clear D;obtain x|⟨x,rfl⟩:=ax
   all_goals
    go_wp2_with fail;refine(ui (k d).at_.rd).mono ?_;rintro e q ⟨n,rfl,hb⟩;have Q:=i (Iy (k d) (k ap) (k M).1 hb);have aF:(∃av,q.cell? ⟨c,2,F⟩=E (W av))/\(∀aQ,q.frozen? ⟨c,aQ,F⟩=false)/\c<q.heap.size:=by
     obtain⟨_,_,z⟩|⟨I,_,z⟩:=hb.2.2
     ·exact⟨⟨_,z.pw⟩,z.oq⟩
     ·exact⟨⟨_,z.pw⟩,z.oq⟩
    obtain⟨⟨tb,ak⟩,am,ao⟩:=aF;clear hb;by_cases N:n=229
    ·subst N;go_wp2_with fail;go_ret;exact⟨_,a,rfl,(k Q).1 (by trivial)⟩
    ·have a4:(n !=229)=true:=by simpa using N
     go_wp2_with fail;go_ret;exact⟨_,a,rfl,(k Q).2 N⟩
structure lW (w wr:U) (rb gb:Nat) (v:V) (L:List (Int×V)) (acc:List o) (N:Nat) (l:List Int) (now:Int) (T:List o×Bool):Prop where
 row:fh wr (rb+1) v L
 nd:bE wr (rb+1) L acc
 mod:G No w wr
 rd:aT wr rb gb l now false
 ge:rb=w.heap.size/\gb<w.heap.size
 eq:T=(acc++(gO l.length now l).1,(gO l.length now l).2)
 len:L.length+l.length<=N
theorem lW.next{M wr e w6:U} {d s:Nat} {q v':V} {i j:List (Int×V)} {r:List o} {H:Nat} {w:List Int} {now:Int} {I:List o×Bool} (Q:lW M wr d s q i r H w now I) {ag:V} (af:fh e wr.heap.size ag j) (t:G (· =d) wr e) {es:List o} {z:Int} {p:List Int} (A:fO now w=E ((es,z),p)) (D:aT e d s p z false) (L:bE e wr.heap.size j es)
  (ae:w6.ownsRow 0 125 2 v' (i.length+j.length) ((i.flatMap eG)++j.flatMap eG)) (aa:e.grownBy w6 q.ownBlock) (hs:dY e q v'):lW M w6 d s v' (i++j) (r++es) H p z I:=by
 obtain⟨m,R,J,S,X,Y,ah⟩:=Q;have ak:=J.size;have ai:=S.kz;have x:G (λa=>q.ownBlock=E a) e w6:=(G.refl _ e).grown aa (λa c=>.inl c);have n:∀a,q.ownBlock=E a->d+1<=a/\a<wr.heap.size:=λa c=>⟨m.own a c,(m.row.lt a c).2⟩;have ad:∀a,v'.ownBlock=E a->d+1<=a:=λa c=>by
  obtain k|k:=hs a c
  ·exact m.own a k
  ·have:=t.size;omega
 have hlen:j.length=es.length:=L.len;have ab:=zR A;have aj:=uI A;refine⟨⟨?_,ad,λN D=>?_⟩,?_,(J.trans' t (λa c hl=>by omega)).trans' x (λa c hl=>by have:=(n a c).1;omega),D.mod x (λf=>by have:=(n d f).1;omega) (λf=>by have:=(n s f).1;omega),X,?_,?_⟩
 ·rw[lG,aJ];exact ae
 ·obtain k|k:=List.mem_append.1 D
  ·exact m.one N k
  ·exact af.one N k
 ·have O:bE e (d+1) i r:=R.mod t (λu B f=>by omega);have P:bE w6 (d+1) i r:=bE.app (t.owns m.row (λu B f=>by have:=(n u B).1;omega)) x O;exact bE.append ((L.mod x (λu B f=>by have:=(n u f).2;omega)).low (by omega)) P
 ·obtain⟨a,c⟩:∃a,w.length=a+1:=⟨w.length - 1,by omega⟩;rw[Y,c,pj,if_neg (by rintro rfl;simp at c),A];simp only;rw[yJ a p.length z p (by omega) (bK _)];simp
 ·simp;simp at ab;omega
def vw(a w':U) (d:V) (c:List (Int×V)) (es:List o):Prop:=fh w' a.heap.size d c/\bE w' a.heap.size c es/\G No a w'
theorem lW.stop{r wr s:U} {p x:Nat} {q:V} {i:List (Int×V)} {u:List o} {t:Nat} {c:List Int} {now:Int} {d:List o×Bool} (a:lW r wr p x q i u t c now d) (hl:0<c.length) (e:G (· =p) wr s) (z:fO now c=F):d.2=false/\vw r s q i d.1:=by
 have A:=a.ge;obtain⟨m,j⟩:∃m,c.length=m+1:=⟨c.length - 1,by omega⟩;have f:=a.eq;rw[j,pj,if_neg (by rintro rfl;simp at j),z] at f;simp only[dR] at f;rw[f];exact⟨rfl,(a.row.mod e (λn k w=>by omega)).low (by omega),(a.nd.mod e (λn k w=>by omega)).low (by omega),a.mod.trans' e (λn k hl=>by omega)⟩
theorem lW.done{j wr:U} {p n:Nat} {i:V} {e:List (Int×V)} {m:List o} {k:Nat} {f:List Int} {now:Int} {c:List o×Bool} (a:lW j wr p n i e m k f now c) (hl:f.length=0):c.2=true/\vw j wr i e c.1:=by
 have q:=a.ge;obtain rfl:=fS hl;have d:=a.eq;rw[pk] at d;simp only[dR] at d;rw[d];exact⟨rfl,a.row.low (by omega),a.nd.low (by omega),a.mod⟩
theorem IA{d:U} {a:Option Addr} {r:Nat} {c:List Int} (hb:d.ownsRow 0 5 1 (C a c.length r) c.length (cg c)) (hl:c.length<=1099511627776) (ab:∀m∈c,0<=m/\m<256) (aW:0<d.heap.size):Calls T 94 #[C a c.length r] d λD w'=>∃a' c' f,D=g (h #[C a' f.length c',W (jM c).2])/\vw d w' (C a' f.length c') f (jM c).1:=by
 have P:G No d (d.alloc (v #[C a c.length r,y K 0,W false] 208)):=(G.refl _ _).alloc _;have t:∃n,lW d (d.alloc (v #[C a c.length r,y K 0,W false] 208)) d.heap.size n (C F 0 0) [] [] c.length c 0 (jM c):=by
  obtain⟨n,aO,ah⟩:∃n,n<d.heap.size/\(c.length<=r/\∀(w:Nat) (m:Int),c[w]? =E m->∃aj,a=E ⟨n,aj,F⟩/\(d.alloc (v #[C a c.length r,y K 0,W false] 208)).cell? ⟨n,aj+w,F⟩=E (.int .u8 m)):=by
   have ad:=hb;obtain⟨_,⟨a9,aL⟩|⟨N,cap,a6,hv,_,bb,aS,_⟩⟩:=hb
   ·refine⟨0,aW,by omega,λw m s=>?_⟩;obtain rfl:=fS aL;simp at s
   ·injection hv with aI L M;subst aI M;refine⟨N,(ad.lt N rfl).2,aS,λw m s=>⟨0,rfl,?_⟩⟩;have:=ad.cells (g:=N) rfl w (.int .u8 m) (by unfold cg;rw[List.getElem?_map,s];rfl);rw[dx] at this;exact qg P this (λm=>m)
  refine⟨n,⟨cJ _ _ _ _,λw aR=>by simp[az] at aR,λm s=>by simp at s⟩,trivial,P,⟨⟨a,r,X.new _ _ _,ah.1,ah.2⟩,by omega,by simp;omega,by omega,hl,ab⟩,⟨rfl,aO⟩,by unfold jM;simp,by simp⟩
 obtain⟨n,t⟩:=t;have t:=i t;clear hb P ab;generalize jM c=aB at *;go_enter func94,ntmps94;go_wp2_with fail;go_loopw [2] (λa3 wr=>∃(S:V) (f:List (Int×V)) (J:List o) (p:List Int) (Q:Int),a3=S/\Hid (lW d wr d.heap.size n S f J c.length p Q aB)) (λ_ wr=>lD wr d.heap.size)
 case atStart=>exact⟨_,_,_,_,_,rfl,t⟩
 case round=>
  obtain⟨S,f,J,p,Q,rfl,e⟩:=hrel;clear t;obtain⟨aE,aH,O,aU, -⟩:=(k e).rd.has;have a7:wr.cell? ⟨d.heap.size,0,F⟩=E (C aE p.length aH):=O.cell 0;have a8:=O.lt;have bc:p.length<=1099511627776:=by have:=(k e).len;omega
  have aq:=i (k e).rd.lD;clear O aU;by_cases aT:0<p.length
  ·have aQ:(p.length:Int)>0:=by omega
   go_wp2_with fail;refine(Iz (k e).rd).mono ?_;rintro D ao ⟨bf,u,rfl,x,B,j⟩;obtain⟨z,A,rfl⟩:=aC (k e).row.row;rcases q:fO Q p with _|⟨⟨es,aY⟩,ak⟩
   ·rw[q] at j;obtain⟨ak,bd,j⟩:=j;have L:ao.cell? ⟨d.heap.size,2,F⟩=E (W true):=j.pw;have M:=j.kz;have I:=i ((k e).stop aT B q);clear e j B x q;go_wp2_with fail;go_ret2;obtain⟨f1,f2⟩:=k I;exact⟨z,A,f,(by rw[f1];rfl),f2⟩
   ·rw[q] at j;obtain⟨j,R⟩:=j;have L:ao.cell? ⟨d.heap.size,2,F⟩=E (W false):=j.pw;have M:=j.kz;obtain⟨aD,aF,rfl⟩:=aC x.row;have aM:=(k e).len;have ai:=uI q;have ae:=zR q;have hlen:u.length=es.length:=R.len;have af:∀H,(C z f.length A).ownBlock=E H->¬H=d.heap.size:=λH D L=>by have:=(k e).row.own H D;omega
    have aw:=i (B.owns (k e).row.row af);have aA:=i (mn x.row)
    have ap:=i (show ∀am∈u.flatMap eG,am.oneCell'=true from λam hu=>by
     obtain⟨m,s,hu⟩:=List.mem_flatMap.1 hu
     simp[eG] at hu
     obtain rfl|rfl:=hu
     ·rfl
     ·exact x.one m s)
    obtain⟨aX,aZ,a0,a1,a2⟩:=info_parts vt;have aa:=i x;have av:=i B;have ar:=i q;have ax:=i j;have ay:=i R;have ba:f.length+u.length<=1099511627776:=by simp at ae;omega
    have au:=i ai;clear af x B q j R aM ae hlen ai;go_wp2_with (at_builtin;refine eI rfl (.tmp 16) (.tmp 17) 111 rfl 125 aX _ 2 24 underlying111 aZ a0 a1 a2 rfl (by decide) (C z f.length A) f.length _ (by simp[Z]) (by exact k aw) (C aD u.length aF) u.length _ (by simp[Z]) (by exact k aA) (k aa).row.1 (k ap) (by unfold maxLen;omega) (by omega) ?_;intro bh bi ag aN aV;obtain⟨a4,a5,rfl⟩:=aC ag)
    have Y:=(k e).next (k aa) (k av) (k ar) (k ax) (k ay) ag aN aV
    refine⟨⟨_,f++u,J++es,ak,aY,rfl,i Y⟩,?_⟩;rw[Y.rd.lD,k aq];exact k au
  ·have aK:p.length=0:=by omega
   have aQ:¬(p.length:Int)>0:=by omega
   obtain⟨z,A,rfl⟩:=aC (k e).row.row;have I:=i ((k e).done aK);clear e;go_wp2_with fail;go_ret2;obtain⟨f1,f2⟩:=k I;exact⟨z,A,f,(by rw[f1];rfl),f2⟩
theorem zU:∀(c:List B) (j a:Nat) (e:j<c.length) (d:a<6),(c.flatMap dm)[j* 6+a]? =(dm c[j])[a]?
 |f::c,0,a,_,d=>by
  rw[lh,Nat.zero_mul,bg,List.getElem?_append_left (by simpa [dm] using d)];rfl
 |f::c,j+1,a,e,d=>by
  rw[lh,rz (by simp[dm];omega)];have:=zU c j a (by simpa using e) d;rw[show(j+1)* 6+a - (dm f).length=j* 6+a by simp[dm];omega,this];rfl
theorem zV{e:U} {a:Option Addr} {len cap:Nat} {d:List B} (k:e.ownsRow 0 202 6 (C a len cap) d.length (d.flatMap dm)) (j:Nat) (o:j<d.length):∃c,a=E ⟨c,0,F⟩/\c<e.heap.size/\e.cell? ⟨c,j* 6,F⟩=E (y K d[j].row)/\e.cell? ⟨c,j* 6+1,F⟩=E (y K d[j].P)/\e.cell? ⟨c,j* 6+2,F⟩=E (y K d[j].st)/\e.cell? ⟨c,j* 6+3,F⟩=E (y K d[j].pa)/\e.cell? ⟨c,j* 6+4,F⟩=E (y K d[j].cl)/\e.cell? ⟨c,j* 6+5,F⟩=E (y K d[j].un):=by
 have n:=k;obtain⟨u,w⟩|⟨c,q,r,hv,x⟩:=k.2
 ·omega
 ·injection hv with i s t;have hc:=λf (p:f<6) m (hv:(dm d[j])[f]? =E m)=>k.cells (by rw[i];rfl) (j* 6+f) m (by rw[zU d j f o p];exact hv);refine⟨c,i,(n.lt c (by rw[i];rfl)).2,?_,?_,?_,?_,?_,?_⟩
  ·have:=hc 0 (by omega) _ rfl;rw[dx] at this;simpa using this
  all_goals first
   |(have:=hc 1 (by omega) _ rfl;rw[dx,bg] at this;exact this)
   |(have:=hc 2 (by omega) _ rfl;rw[dx,bg] at this;exact this)
   |(have:=hc 3 (by omega) _ rfl;rw[dx,bg] at this;exact this)
   |(have:=hc 4 (by omega) _ rfl;rw[dx,bg] at this;exact this)
   |(have:=hc 5 (by omega) _ rfl;rw[dx,bg] at this;exact this)
def gu(p:O) (a:List B) (d:List B):List B:=d.foldl (λa c=>a.set (p.idx c.row c.P) c) a
theorem IB(p:O) (c d:List B) (a:B):gu p c (d++[a])=(gu p c d).set (p.idx a.row a.P) a:=by
 unfold gu;rw[List.foldl_append];rfl
theorem IC(p:O) (c:List B):∀a,(gu p c a).length=c.length:=by
 intro a;unfold gu
 induction a generalizing c with
 |nil=>rfl
 |cons e a d=>rw[kE,d,iU]
def sS(p:O) (a:B):Prop:=a.wf/\p.has a.row a.P=true
theorem vx{p:O}:∀(e:List B) {c:List B},L p c->(∀d∈e,sS p d)->L p (gu p c e)
 |[],c,a,_=>a
 |d::e,c,a,hs=>by
  have f:=hs d (by simp);have hi:p.idx d.row d.P<c.length:=aM.wf.gV a f.2;have i:=aM.wf.nF a f.2;exact vx e (L.set a hi f.1 i.1.symm i.2.symm) (λk j=>hs k (by simp[j]))
theorem a9.ID{c:U} {S:Nat->Prop} {a:Nat} {p:O} {k:List B} (n:a9 c S a p k) (d:Int):a9 (c.setCell ⟨a,24,F⟩ (y K d)) S a (p.at d) k/\G S c (c.setCell ⟨a,24,F⟩ (y K d)):=by
 obtain⟨r,es,m,f,i,o,e,j,q⟩:=n;refine⟨⟨r,es,m,f.set 24 _,by rw[Below.heap_setCell _ _ _ _ (by exact f.mh i)];exact i,o,?_,j,q⟩,(G.refl _ c).setCell (p:=⟨a,24,F⟩) (.inl j) _⟩;exact⟨e.1,e.2,e.3⟩
theorem a9.IE{c:U} {S:Nat->Prop} {a:Nat} {p:O} {f:List B} (e:a9 c S a p f):c.cell? ⟨a,24,F⟩=E (y K p.ep)/\c.frozen? ⟨a,24,F⟩=false/\a<c.heap.size:=by
 obtain⟨j,es,i,d,_⟩:=e;exact⟨d.cell 24,d.frozen 24,d.lt⟩
theorem L.ep{p:O} {c:List B} (a:L p c) (d:Int):L (p.at d) c:=⟨a.sized,a.limited,a.len,a.place,a.cQ⟩
theorem IF{j:Nat} {p:O} {f:U} {a:Option Addr} {cap:Nat} {c:List B} (H:X f j (db 0 0 0 0 0 0 0 (.map F) 0 0 0 0 0 0 0 0 0 0 0 0 0 0 0 0 0) 164) (I:p.sized=true) (J:p.limited=true) (hs:∀m∈c,sS p m) (hl:c.length<=120) (am:f.ownsRow 0 202 6 (C a c.length cap) c.length (c.flatMap dm)) (hb:∀D,(C a c.length cap).ownBlock=E D->D≠j):
  Calls T 160 #[l #[y K p.rows,y K p.w,y K p.front,y K p.I,y K p.R,y K p.n,y K p.f,C a c.length cap,y K p.ep],b (E ⟨j,0,F⟩)] f λA w'=>A=g (h #[])/\a9 w' (λe=>e=j\/f.heap.size<=e) j p (gu p (q p) c)/\G (λe=>e=j) f w':=by
 have aL:=H.lt;have ad:=i λz (M:uc z j 0)=>ud (p:=p) 0 M I J;have ab:=i H;have ao:G No f (f.alloc (v #[y K p.rows,y K p.w,y K p.front,y K p.I,y K p.R,y K p.n,y K p.f,C a c.length cap,y K p.ep] 196)):=(G.refl _ _).alloc _;have Y:=i (X.new f #[y K p.rows,y K p.w,y K p.front,y K p.I,y K p.R,y K p.n,y K p.f,C a c.length cap,y K p.ep] 196);have ax:=i am;have av:=i hb;have ae:=i hs;have aA:=i (ly I J)
 have af:=i ao;clear H am hb hs ao I J;go_enter func160,ntmps160;go_wp2_with fail;refine((k ad) _ ⟨_,_,_,_,_,_,_,_,_,_,_,_,_,_,_,_,_,_,_,_,_,_,_,_,(k ab).alloc _⟩).mono ?_;rintro A aH ⟨rfl,f1,R⟩;have aa:=i (f1.wide (S':=λe=>e=j\/f.heap.size<e) (λe N=>by rw[bj] at N;omega));have aD:¬f.heap.size=j:=by omega
 have o:=i (R.has (k Y) aD);have ag:=i (((k af).mono (S':=λe=>e=j) λ_ _ n=>n.elim).trans R);have aC:aH.cell? ⟨f.heap.size,7,F⟩=E (C a c.length cap):=(k o).cell 7;have ah:=(k o).lt;clear f1 R ab ad Y af;go_wp2_with fail
 go_loopw [13] (λm wr=>∃d:Nat,m=y K d/\d<=c.length/\Hid (a9 wr (λe=>e=j\/f.heap.size<e) j (p.at 0) (gu p (q p) (c.take d)))/\Hid (G (λe=>e=j) f wr)/\Hid (X wr f.heap.size #[y K p.rows,y K p.w,y K p.front,y K p.I,y K p.R,y K p.n,y K p.f,C a c.length cap,y K p.ep] 196)) (λm _=>c.length - (intOf m).toNat)
 case atStart=>exact⟨0,rfl,by omega,aa,ag,o⟩
 case round=>
  obtain⟨d,rfl,hi,w,x,u⟩:=hrel;clear aa ag o aC ah;by_cases P:d<c.length
  ·have aE:(d:Int)<(c.length:Int):=by omega
   have ak:∀e,(C a c.length cap).ownBlock=E e->¬e=j:=k av;obtain⟨D,rfl,aN,aQ,aR,aS,aT,aU,aV⟩:=zV ((k x).owns (k ax) ak) d P;have r:=(k ae) c[d] (dD P);have s:L p (gu p (q p) (c.take d)):=vx _ (k aA) (λm hs=>(k ae) m (List.mem_of_mem_take hs));have aj:p.idx c[d].row c[d].P<(gu p (q p) (c.take d)).length:=aM.wf.gV s r.2;have Q:=aM.wf.nF s r.2
   have aw:=i λz (M:a9 z (λe=>e=j\/f.heap.size<e) j (p.at 0) (gu p (q p) (c.take d)))=>pV M (s.ep 0) (p.idx c[d].row c[d].P) aj c[d] r.1 Q.1.symm Q.2.symm
   have ay:=i (show(gu p (q p) (c.take d)).set (p.idx c[d].row c[d].P) c[d]=gu p (q p) (c.take (d+1)) by
    rw[<-IB,lq,cK P]
    rfl)
   have au:=i hl;clear r s aj Q ak;generalize aF:c[d]=m at *;clear aF;go_wp2_with fail;have t:G No wr (wr.alloc (v #[y K m.row,y K m.P,y K m.st,y K m.pa,y K m.cl,y K m.un] 202)):=(G.refl _ _).alloc _;refine((k aw) _ ((k w).aD t)).mono ?_;rintro A aW ⟨rfl,f5,S⟩;rw[k ay] at f5;have aq:=i f5;have aB:=i (((k x).trans (t.mono λ_ _ n=>n.elim)).trans' S (λe N hl=>by omega))
   have ap:=i (S.has (t.has (k u) (λn=>n)) (by show ¬(f.heap.size=j\/f.heap.size<f.heap.size);omega));have aI:=k au;clear f5 S t;go_wp2;exact⟨⟨d+1,rfl,by omega,aq,aB,ap⟩,by simp[intOf];omega⟩
  ·have aE:¬(d:Int)<(c.length:Int):=by omega
   obtain rfl:d=c.length:=by omega
   have aK:wr.cell? ⟨f.heap.size,8,F⟩=E (y K p.ep):=(k u).cell 8;have ah:=(k u).lt;obtain⟨f24,aX,aO⟩:=(k w).IE;have ar:=i ((k w).ID p.ep);go_wp2_with fail;go_end0;have ai:=(k ar).1;rw[eA] at ai;exact⟨rfl,ai.wide (λe N=>by omega),(k x).at 24 _⟩
open Go.ChangeMaps (setBlock)
set_option maxHeartbeats 2000000
theorem IG(c:V) (a:U):(cU (.iface 196 c) 123 159 true).run T a=.ok (h #[l #[y K 0],W false]) a:=by kernel_rfl
theorem IH(c:V) (a:U):(nilAhead 357 196 c "Do").run T a=.ok (E false) a:=by kernel_rfl
theorem IJ(a:V) (c:U):(method 357 196 a "Do").run T c=.ok (160,a) c:=by kernel_rfl
attribute [local go_sem] IG IH IJ
theorem IK(d c:Nat) (aa:1<=c/\c<=20) (now:Int) (pt:Nat->Option Nat) (p:O) (cH:V) (a:U) (w:U->Prop) (s:X a d (cD now pt) 121) (hc:pt c=F) (I:∀q,G (λab=>ab=d) a q->X q d (cD now (gD pt c (a.heap.size+2))) 121->X q (a.heap.size+2) (db 0 0 0 0 0 0 0 (.map F) 0 0 0 0 0 0 0 0 0 0 0 0 0 0 0 0 0) 164->
   Calls T 160 #[l #[y K p.rows,y K p.w,y K p.front,y K p.I,y K p.R,y K p.n,y K p.f,cH,y K p.ep],b (E ⟨a.heap.size+2,0,F⟩)] q λm w'=>m=g (h #[])/\w w'):Calls T 44 #[b (E ⟨d,0,F⟩),l #[y K c,.iface 196 (l #[y K p.rows,y K p.w,y K p.front,y K p.I,y K p.R,y K p.n,y K p.f,cH,y K p.ep])]] a λm w'=>m=g (h #[])/\w w':=by
 have N:=i I;have t:G No a ((a.alloc (v #[y K c,.iface 196 (l #[y K p.rows,y K p.w,y K p.front,y K p.I,y K p.R,y K p.n,y K p.f,cH,y K p.ep])] 125)).alloc (v #[y K 0] 159)):=((G.refl _ a).alloc _).alloc _;have H:=t.has s (λae=>ae)
 have b0:X ((a.alloc (v #[y K c,.iface 196 (l #[y K p.rows,y K p.w,y K p.front,y K p.I,y K p.R,y K p.n,y K p.f,cH,y K p.ep])] 125)).alloc (v #[y K 0] 159)) a.heap.size #[y K c,.iface 196 (l #[y K p.rows,y K p.w,y K p.front,y K p.I,y K p.R,y K p.n,y K p.f,cH,y K p.ep])] 125:=(X.new a _ _).alloc _;have j:=i H;have u:=i t;have f:=i b0
 have x:=i (show((a.alloc (v #[y K c,.iface 196 (l #[y K p.rows,y K p.w,y K p.front,y K p.I,y K p.R,y K p.n,y K p.f,cH,y K p.ep])] 125)).alloc (v #[y K 0] 159)).heap.size=a.heap.size+2 by simp);have af:(c:Int)<21:=by omega
 have ag:(0:Int)<=c:=by omega
 have Q:=i s;have P:=i hc;clear s hc I t H b0;go_enter func44,ntmps44;go_upto_region 4 with fail;generalize (a.alloc (v #[y K c,.iface 196 (l #[y K p.rows,y K p.w,y K p.front,y K p.I,y K p.R,y K p.n,y K p.f,cH,y K p.ep])] 125)).alloc (v #[y K 0] 159)=n at *;have A:=(k j).cell (1+c);rw[mM now pt c (by omega),k P,show aL F=b F from rfl] at A;have B:n.cell? ⟨a.heap.size,0,F⟩=E (y K c):=(k f).cell 0
 have D:n.cell? ⟨a.heap.size,1,F⟩=E (.iface 196 (l #[y K p.rows,y K p.w,y K p.front,y K p.I,y K p.R,y K p.n,y K p.f,cH,y K p.ep])):=(k f).cell 1;have L:=(k j).lt;have J:=(k f).lt;have Y:=(k j).frozen (1+c);have r:=k x;rw[r] at L J;have R:=i (show a.heap.size≠d from λm=>by have:=(k Q).lt;omega);go_quiet (fail);go_wp2_with fail;go_region
 have fI:=yT (w0:=n.drewN (nq+1)) aa ((k j).drewN _) ((k u).drewN _) r;have z:X (((n.drewN (nq+1)).setCell ⟨d,1+c,F⟩ (b (E ⟨a.heap.size+2,0,F⟩))).alloc (v mT 164)) a.heap.size _ _:=(((k f).drewN (nq+1)).dB (a:=⟨d,1+c,F⟩) (k R) _).alloc _;have e:=i fI;have o:=i z;clear fI z A B D L J Y r j u f x;unfold mT at e o
 generalize ((n.drewN (nq+1)).setCell ⟨d,1+c,F⟩ (b (E ⟨a.heap.size+2,0,F⟩))).alloc (v #[y K 0,y K 0,y K 0,y K 0,y K 0,y K 0,y K 0,.map F,y K 0,y K 0,y K 0,y K 0,y K 0,y K 0,y K 0,y K 0,y K 0,y K 0,y K 0,y K 0,y K 0,y K 0,y K 0,y K 0,y K 0] 164)=M at *;have S:=(k e).keep.cell (1+c);rw[mM now _ c (by omega),show aL (gD pt c (a.heap.size+2) c)=b (E ⟨a.heap.size+2,0,F⟩) by simp[gD,aL]] at S
 have B:M.cell? ⟨a.heap.size,0,F⟩=E (y K c):=(k o).cell 0;have D:M.cell? ⟨a.heap.size,1,F⟩=E (.iface 196 (l #[y K p.rows,y K p.w,y K p.front,y K p.I,y K p.R,y K p.n,y K p.f,cH,y K p.ep])):=(k o).cell 1;have ah:=(k e).keep.lt;have ai:=(k o).lt;go_wp2_with fail;go_region_with (go_at_call 160;refine((k N) _ (k e).mod.drew (k e).keep.drew (k e).ji.drew).mono ?_;rintro m aj ⟨rfl,ad⟩)
 all_goals go_wp2
 all_goals go_end0
 all_goals exact⟨rfl,ad⟩
theorem IL{e:U} {o:Nat->Nat} {s:Nat} {now:Int} {pt:Nat->Option Nat} {x:Nat->Option (O×List B)} (f:cF e o s now pt x) (i:Nat) (af:1<=i/\i<=20) (ab:x i=F) (p:O) (M:p.sized=true) (N:p.limited=true) {a:Option Addr} {cap:Nat} {m:List B} (hs:∀ai∈m,sS p ai) (hl:m.length<=120)
  (H:e.ownsRow 0 202 6 (C a m.length cap) m.length (m.flatMap dm)):Calls T 44 #[b (E ⟨s,0,F⟩),l #[y K i,.iface 196 (l (j4 p (C a m.length cap)).toArray)]] e λc w'=>c=g (h #[])/\lU e w' o s pt now (λj=>if j=i then E (p,gu p (q p) m) else x j):=by
 have ag:∀u,(C a m.length cap).ownBlock=E u->u≠s:=λu r c=>by
  obtain⟨_,L|⟨am,aj,ak,L,_,ad,_⟩⟩:=H
  ·rw[L.1] at r;simp[az] at r
  ·rw[L] at r;simp[az] at r;subst r;exact f.has.ne ad (by decide) c.symm
 refine IK s i af now pt p (C a m.length cap) e _ f.has (f.gone i (by omega) ab) (λt w A hb=>?_);have ap:e.heap.size<=t.heap.size:=w.size;have ao:=hb.lt;refine(IF hb M N hs hl (w.owns H ag) (λu r c=>by have:=(H.lt u r).2;omega)).mono ?_;rintro c w' ⟨rfl,hf,D⟩
 refine⟨rfl,⟨λd=>if d<e.heap.size then o d else if d=e.heap.size+2\/(t.heap.size<=d/\d<w'.heap.size) then i+2 else 0,gD pt i (e.heap.size+2),?_,λd A=>by simp[A],λR hi=>by simp only[gD];rw[if_neg (by omega)]⟩,?_⟩
 ·have ah:s<e.heap.size:=f.has.lt;have Q:G (λd=>d=e.heap.size+2) t w':=D;have aq:t.heap.size<=w'.heap.size:=D.size;refine⟨Q.has A (by omega),by simp[ah,f.aW],λd n=>?_,λj z k=>?_,λj J I z k=>?_⟩
  ·split at n
   ·omega
   ·split at n
    ·rename_i c;obtain c|c:=c<;>omega
    ·exact absurd rfl n
  ·by_cases c:j=i
   ·rw[if_pos c] at k;exact absurd k (by simp)
   ·rw[if_neg c] at k;simp only[gD,if_neg c];exact f.gone j z k
  ·by_cases c:j=i
   ·rw[if_pos c] at k;simp only[E.injEq,Prod.mk.injEq] at k;obtain⟨rfl,rfl⟩:=k;subst c;refine⟨e.heap.size+2,by simp[gD],vx _ (ly M N) hs,?_⟩;refine hf.narrow.wide (λd ⟨P,ae⟩=>?_);have:¬d<e.heap.size:=by obtain c|c:=P<;>omega
    have aa:d=e.heap.size+2\/(t.heap.size<=d/\d<w'.heap.size):=by obtain c|c:=P;exact .inl c;exact .inr ⟨c,ae⟩
    simp only[if_neg this,if_pos aa]
   ·rw[if_neg c] at k;obtain⟨b',S,X,Y⟩:=f.here j J I z k;refine⟨b',by simp only[gD,if_neg c];exact S,X,?_⟩;have f1:a9 t (λd=>o d=j+2) b' J I:=Y.mod w (λd n c=>by subst c;rw[f.aW] at n;omega)
    have f2:a9 w' (λd=>o d=j+2) b' J I:=f1.mod Q (λd n c=>by
     subst c
     have:=f.aU _ (show o (e.heap.size+2)≠0 by omega)
     omega)
    refine f2.wide (λd n=>?_);have:=f.aU d (by omega);simp only[if_pos this];exact n
 ·refine(w.mono (λd _ (c:d=s)=>by subst c;show o d≠0/\o d<30;rw[f.aW];omega)).trans' D (λR (c:R=e.heap.size+2) hl=>by omega)
theorem vy{p:O} {e:Nat}:∀(c d:List B),(∀a∈c,p.idx a.row a.P≠e)->(gu p d c)[e]? =d[e]?
 |[],_,_=>rfl
 |a::c,d,f=>by
  show(gu p (d.set (p.idx a.row a.P) a) c)[e]? =_;rw[vy c _ (λj i=>f j (by simp[i])),List.getElem?_set_ne (f a (by simp))]
theorem zW{p:O} {e:Nat} {d:B}:∀(a f:List B),e<f.length->d∈a->(∀c∈a,p.idx c.row c.P=e->c=d)->p.idx d.row d.P=e->(gu p f a)[e]? =E d
 |[],_,_,n,_,_=>by simp at n
 |c::a,f,hi,o,hu,k=>by
  show(gu p (f.set (p.idx c.row c.P) c) a)[e]? =_;by_cases hs:d∈a
  ·exact zW a _ (by simpa using hi) hs (λj hy=>hu j (by simp[hy])) k
  ·obtain rfl:d=c:=by
    obtain i|i:=List.mem_cons.1 o
    ·exact i
    ·exact absurd i hs
   rw[vy a _ (λj hy m=>hs (by rw[<-hu j (by simp[hy]) m];exact hy)),k,List.getElem?_set_self hi]
theorem sU{p:O} {a:List B} (c:L p a):(q p).length=a.length:=by
 have d:=c.len;simp only at d;simp[q];omega
theorem IM{p:O} {a:List B} (d:L p a):gu p (q p) (a.filter λj=>j.st !=0)=a:=by
 apply List.ext_getElem?;intro e;by_cases hi:e<a.length
 ·have o:=aM.wf.jd d hi;simp only at o;have s:∀c (f:c<a.length),p.idx a[c].row a[c].P=e->c=e:=λc f k=>by
   have:=(aM.wf.jd d f).2;simp only at this;omega
  rw[cK hi];by_cases i:a[e].st=0
  ·rw[vy _ _ (λj hs k=>by
    obtain⟨n,r⟩:=List.mem_filter.1 hs
    obtain⟨c,f,rfl⟩:=iP n
    obtain rfl:=s c f k
    simp[i] at r)]
   have m:=d.place e hi;have hb:=(d.cQ a[e] (dD hi)).bare (.inl i);simp only at m;rw[cK (by rw[sU d];exact hi)];simp only[q,List.getElem_map,List.getElem_range,E.injEq];rw[<-m.1,<-m.2];generalize a[e]=j at *;obtain⟨x,t,st,w,u,z⟩:=j;simp only at i hb;rw[i,hb.1,hb.2.1,hb.2.2]
  ·exact zW _ _ (by rw[sU d];exact hi) (List.mem_filter.2 ⟨dD hi,by simpa using i⟩) (λj hs k=>by
    obtain⟨n,r⟩:=List.mem_filter.1 hs
    obtain⟨c,f,rfl⟩:=iP n
    obtain rfl:=s c f k
    rfl) o.2
 ·rw[List.getElem?_eq_none (by rw[IC,sU d];omega),List.getElem?_eq_none (by omega)]
theorem zX{p:O} {e:List B} (c:L p e):∀a∈e.filter (λa=>a.st !=0),sS p a:=λa hs=>by
 obtain⟨d,_⟩:=List.mem_filter.1 hs;obtain⟨i,f,rfl⟩:=iP d;exact⟨c.cQ _ d,(aM.wf.jd c f).1⟩
theorem IP{p:U} {o:Nat->Nat} {n:Nat} {now I:Int} {pt:Nat->Option Nat} {s fl':Nat->Option (O×List B)} (k:cF p o n now pt s) (Q:0<=now/\now<=4611686018427387000) (a:N) (hd:aA now s a=(0,I,fl')) (r:Int) (hf:a.kind≠8->r=a.m):Calls T 44 #[b (E ⟨n,0,F⟩),l #[y K r,dh (J now a)]] p λq w'=>q=g (h #[])/\lU p w' o n pt I fl':=by
 unfold aA at hd;by_cases D:a.kind<1\/a.kind>9
 ·rw[if_pos D] at hd;exact absurd hd (by simp)
 rw[if_neg D] at hd;by_cases m:a.kind=8
 ·rw[if_pos m] at hd;by_cases H:1<=a.time/\a.time<=100
  ·rw[if_pos H] at hd;injection hd with _ hd;injection hd with d e;subst d e;rw[vj m];exact uN n r (now+a.time) p _ (λX A=>(uM (k.mod A (λ_ _ j=>j)) (now+a.time)).mono (λq w' ⟨z,R,w⟩=>⟨z,⟨o,pt,R,λ_ _=>rfl,λ_ _=>rfl⟩,(A.mono (λ_ _ j=>j.elim)).trans w⟩))
  ·rw[if_neg H] at hd;exact absurd hd (by simp)
 rw[if_neg m] at hd;by_cases G:1<=a.m/\a.m<=20
 case neg=>rw[if_pos G] at hd;exact absurd hd (by simp)
 rw[if_neg (by simpa using G)] at hd;obtain rfl:=hf m;have u:((a.m.toNat:Nat):Int)=a.m:=by omega
 cases f:s a.m.toNat with
 |none=>
  rw[f] at hd;simp only at hd;by_cases c:a.kind=1
  ·rw[if_pos c] at hd;by_cases hs:a.p.sized=true/\a.p.limited=true
   ·rw[if_pos hs] at hd;injection hd with _ hd;injection hd with d e;subst d e;rw[vh c];have:=za k a.m.toNat (by omega) f a.p hs.1 hs.2;rw[u] at this;exact this
   ·rw[if_neg hs] at hd;exact absurd hd (by simp)
  ·rw[if_neg c] at hd;exact absurd hd (by simp)
 |some j=>
  obtain⟨x,S⟩:=j;rw[f] at hd;simp only at hd;by_cases c:a.kind=1
  ·rw[if_pos c] at hd;exact absurd hd (by simp)
  rw[if_neg c] at hd;by_cases i:aH x S a now=0
  ·rw[if_pos i] at hd;injection hd with _ hd;injection hd with d e;subst d e;have P:2<=a.kind/\a.kind<=9/\a.kind≠8:=by omega
   rw[vm P];by_cases t:a.kind=9
   ·have:=zd k a.m.toNat (by omega) f a t i;rw[u] at this;exact this
   have:=yU k a.m.toNat (by omega) f Q a (by omega) i t;rw[u] at this;refine this.mono ?_;rintro q w' ⟨z,M,w⟩;have L:fT x a=x.next:=by unfold fT;rw[if_neg t]
   rw[L];exact⟨z,⟨o,pt,M,λ_ _=>rfl,λ_ _=>rfl⟩,w⟩
  ·rw[if_neg i] at hd;exact absurd (congrArg (·.1) hd) i
abbrev Y:=Nat->Option (O×List B)
def sV(now:Int) (a:Y) (f:o) (e:Int) (fl':Y):Prop:=
 (∃k,canon f=canon (J now k)/\aA now a k=(0,e,fl'))\/
 (canon f=mQ 0 e/\(∀d,a d=F)/\fl'=a/\now<=e)\/
 (∃(c:Nat) (j:O) (i:List B),canon f=mR c j (i.filter λm=>m.st !=0)/\1<=c/\c<=20/\a c=F/\L j i/\e=now/\fl'=λd=>if d=c then E (j,i) else a d)
def iB:Int->Y->List o->Int->Y->Prop
 |now,a,[],c,fl'=>c=now/\fl'=a
 |now,a,e::es,c,fl'=>∃d f1,sV now a e d f1/\iB d f1 es c fl'
theorem IQ(a:o) (c:1<=a.kind/\a.kind<=7):(canon a).kind=a.kind:=by
 unfold canon ph qw qx qy qA mQ mR
 repeat' split
 all_goals simp only
 all_goals omega
theorem vz(now:Int) (a:N):1<=(J now a).kind/\(J now a).kind<=6:=by
 unfold J;simp only
 repeat' split
 all_goals omega
theorem IU(d:o) (j:1<=d.kind/\d.kind<=6):dh (canon d)=dh d:=by
 unfold canon;by_cases a:d.kind=1
 ·rw[if_pos a];unfold dh;rw[if_pos a];rfl
 by_cases c:d.kind=2
 ·rw[if_neg a,if_pos c];unfold dh;rw[if_neg a,if_pos c];rfl
 by_cases e:d.kind=3
 ·rw[if_neg a,if_neg c,if_pos e];unfold dh;rw[if_neg a,if_neg c,if_pos e];rfl
 by_cases f:d.kind=4
 ·rw[if_neg a,if_neg c,if_neg e,if_pos f];unfold dh;rw[if_neg a,if_neg c,if_neg e,if_pos f];rfl
 by_cases i:d.kind=5
 ·rw[if_neg a,if_neg c,if_neg e,if_neg f,if_pos i];unfold dh;rw[if_neg a,if_neg c,if_neg e,if_neg f,if_pos i];rfl
 ·rw[if_neg a,if_neg c,if_neg e,if_neg f,if_neg i,if_pos (by omega)];unfold dh;rw[if_neg a,if_neg c,if_neg e,if_neg f,if_neg i];rfl
theorem IV(now:Int) (a:N) (c:a.kind≠8):(canon (J now a)).fl=a.m:=by
 have d:(J now a).kind≠6:=by
  unfold J;simp only
  repeat' split
  all_goals omega
 unfold canon ph qw qx qy qA mQ mR
 repeat' split
 all_goals first|rfl|contradiction
theorem IY{e:U} {r:Nat->Nat} {k M:Nat} {now d:Int} {pt:Nat->Option Nat} {n fl':Y} (q:cF e r k now pt n) (L:0<=now/\now<=4611686018427387000) {a:o} (hs:sV now n a d fl') {H:V} (hv:cO e M H (canon a)):Calls T 44 #[b (E ⟨k,0,F⟩),l #[y K (canon a).fl,H]] e λs w'=>s=g (h #[])/\lU e w' r k pt d fl':=by
 obtain⟨m,f,i⟩|⟨f,i,p,w⟩|⟨c,G,D,f,i,p,w,j,rfl,rfl⟩:=hs
 ·have z:=vz now m;rw[f] at hv ⊢;unfold cO at hv;rw[if_neg (by rw[IQ _ ⟨z.1,by omega⟩];omega)] at hv;rw[hv,IU _ z];exact IP q L m i _ (λJ=>IV now m J)
 ·rw[p];rw[f] at hv ⊢;unfold cO at hv;rw[if_neg (by simp[mQ])] at hv;rw[hv];show Calls T 44 #[b (E ⟨k,0,F⟩),l #[y K 0,my d]] e _;refine uN k 0 d e _ (λO x=>(uM (q.mod x (λ_ _ u=>u)) d).mono (λa w' ⟨s,A,N⟩=>⟨s,⟨r,pt,?_,λ_ _=>rfl,λ_ _=>rfl⟩,(x.mono (λ_ _ u=>u.elim)).trans N⟩));have a:(λc=>(n c).map (gZ d))=n:=by
   funext c;rw[i c];rfl
  rw[a] at A;exact A
 ·rw[f] at hv ⊢;unfold cO at hv;rw[if_pos (show(mR (c:Int) G (D.filter λt=>t.st !=0)).kind=7 from rfl)] at hv;obtain⟨P,m,rfl,I,Q⟩:=hv;have hl:=aM.wf.gU j;have:=IL q c ⟨i,p⟩ w G j.sized j.limited (zX j) (by have:=oZ (λt:B=>t.st !=0) D;simp only at hl;omega) I;rw[IM j] at this;exact this
set_option maxHeartbeats 4000000
theorem zY(now:Int):∀(c:List B) (a:B),fK now (c++[a])=fK now c++gi now a
 |[],a=>by simp[fK]
 |d::c,a=>by
  show gi now d++fK now (c++[a])=_;rw[zY now c a];simp[fK]
theorem vA(now:Int):∀(a:List B),(fK now a).length<=36* a.length
 |[]=>by simp[fK]
 |c::a=>by
  have:=xQ now c;have:=vA now a;simp only[fK,aJ,dP];omega
theorem zZ(p:O):(gA p).length<=63:=by
 have a:=rU p;have c:=(dk p.I).2;have d:=(dk p.R).2;have e:=(dk p.n).2;have f:=(dk p.f).2;unfold gA;simp only[aJ];omega
theorem IZ{r:Nat->Prop} {j:U} {z:Nat} {xs:List Int} {now:Int} (L:∃n,bM r j z n xs now) (ad:eB r j) (hl:xs.length<1099511600000) (p:O) (a1:O.fit p) (aW:0<=p.ep/\p.ep<9223372036854775808) {a:Option Addr} {o:Nat} (c:List B) (aB:∀d∈c,jJ now d) (a3:c.length<=120)
  (aA:j.ownsRow 0 202 6 (C a c.length o) c.length (c.flatMap dm)) (hb:∀ab,(C a c.length o).ownBlock=E ab->¬r ab):Calls T 129 #[b (E ⟨z,0,F⟩),l #[y K p.rows,y K p.w,y K p.front,y K p.I,y K p.R,y K p.n,y K p.f,C a c.length o,y K p.ep]] j λm w'=>m=g (h #[])/\dp r j w' z (xs++jD now p c) now:=by
 obtain⟨n,L⟩:=L;have bc:=zZ p;have a9:=(dk p.ep).2;have bb:=(dk (c.length:Int)).2;have af:G No j (j.alloc (v #[y K p.rows,y K p.w,y K p.front,y K p.I,y K p.R,y K p.n,y K p.f,C a c.length o,y K p.ep] 196)):=(G.refl _ _).alloc _;have ah:=i (X.new j #[y K p.rows,y K p.w,y K p.front,y K p.I,y K p.R,y K p.n,y K p.f,C a c.length o,y K p.ep] 196)
 have P:=i (ad.box (v #[y K p.rows,y K p.w,y K p.front,y K p.I,y K p.R,y K p.n,y K p.f,C a c.length o,y K p.ep] 196));have am:=i (xP ⟨n,L.box (v #[y K p.rows,y K p.w,y K p.front,y K p.I,y K p.R,y K p.n,y K p.f,C a c.length o,y K p.ep] 196)⟩ (k P) (by omega) p a1);have aq:=i (af.owns aA (λ_ _ t=>t));have I:=i hb;have aH:=i aB;have aL:=i af;have a7:=i ad;clear L ad aA hb aB af
 go_enter func129,ntmps129;go_wp2_with fail;refine(k am).mono ?_;rintro m aC ⟨rfl,u⟩;have D:=u.mod.has (k ah) (λq=>q.2 rfl);have aS:aC.cell? ⟨j.heap.size,7,F⟩=E (C a c.length o):=D.cell 7;have aV:aC.cell? ⟨j.heap.size,8,F⟩=E (y K p.ep):=D.cell 8;have H:=D.lt;have Q:=i ((k P).mod u.mod);have ao:=i (jI u.ex (k Q) (by simp only[aJ];omega) p.ep aW)
 have av:=i (u.mod.owns (k aq) (λf s m=>(k I) f s m.1));have ar:=i u.mod;have ai:=i D;clear u D am ah aq P;go_wp2_with fail;refine(k ao).mono ?_;rintro m a5 ⟨rfl,w⟩;have J:=w.mod.has (k ai) (λq=>q.2 rfl);have aT:a5.cell? ⟨j.heap.size,7,F⟩=E (C a c.length o):=J.cell 7;have aZ:=J.lt;have R:=i ((k Q).mod w.mod);have ap:=i (jI w.ex (k R) (by simp only[aJ];omega) (c.length:Int) (by omega))
 have aw:=i (w.mod.owns (k av) (λf s m=>(k I) f s m.1));have au:=i ((k ar).trans w.mod);have aj:=i J;clear w J ao ai av Q ar aS aV H;go_wp2_with fail;refine(k ap).mono ?_;rintro m w3 ⟨rfl,x⟩;have aa:=x.mod.has (k aj) (λq=>q.2 rfl);have aU:w3.cell? ⟨j.heap.size,7,F⟩=E (C a c.length o):=aa.cell 7;have a0:=aa.lt;have aE:=i ((k R).mod x.mod);have aQ:=i (x.mod.owns (k aw) (λf s m=>(k I) f s m.1))
 have aO:=i ((k au).trans x.mod);have ax:=i x.ex;clear x aa ap aj aw R au aT aZ;generalize ae:xs++gA p++aN p.ep++aN (c.length:Int)=Y at *;have a8:Y.length<1099511601000:=by rw[<-ae];simp only[aJ];omega
 have aI:=i ae;clear ae;go_wp2_with fail;go_loopw [22] (λd wr=>∃e:Nat,d=y K e/\e<=c.length/\Hid (∃n,bM (λf=>r f/\f≠j.heap.size) wr z n (Y++fK now (c.take e)) now)/\Hid (G (λf=>r f/\f≠j.heap.size) w3 wr)) (λd _=>c.length - (intOf d).toNat)
 case atStart=>exact⟨0,rfl,by omega,by rw[List.take_zero];show Hid (∃n,bM _ w3 z n (Y++[]) now);rw[dR];exact ax,G.refl _ _⟩
 case round=>
  obtain⟨e,rfl,hi,S,A⟩:=hrel;clear ax aU a0;by_cases H:e<c.length
  ·have aY:(e:Int)<(c.length:Int):=by omega
   obtain⟨ab,rfl,ba,d0,d1,d2,d3,d4,d5⟩:=zV ((k A).owns (k aQ) (λf s m=>(k I) f s m.1)) e H;have ay:=(k aH) c[e] (dD H);have aX:=vA now (c.take e);have aF:=i (show fK now (c.take (e+1))=fK now (c.take e)++gi now c[e] from by rw[<-zY,lq,cK H];rfl);have a4:(c.take e).length<=120:=by rw[dj];omega
   generalize a2:c[e]=d at *;have M:G No wr (wr.alloc (v #[y K d.row,y K d.P,y K d.st,y K d.pa,y K d.cl,y K d.un] 202)):=(G.refl _ _).alloc _
   have ak:=i (xR (O:=λf=>r f/\f≠j.heap.size) (w:=wr.alloc (v #[y K d.row,y K d.P,y K d.st,y K d.pa,y K d.cl,y K d.un] 202)) (by
    obtain⟨n,hv⟩:=k S
    exact⟨n,hv.mod M (λ_ _ t=>t)⟩) (((k aE).mod (k A)).mod M) (by simp only[aJ];omega) d ay)
   have aM:=i M;have aD:=i a3;clear a2 ay aX a4 M;go_wp2_with fail;refine(k ak).mono ?_;rintro m bd ⟨rfl,ag⟩;have aR:=i ag.ex;have aK:=i (((k A).trans ((k aM).mono λ_ _ t=>t.elim)).trans ag.mod);have a6:=k aD;clear ag ak;go_wp2;refine⟨⟨e+1,rfl,by omega,?_,aK⟩,by simp[intOf];omega⟩;rw[k aF,<-bI];exact aR
  ·have aY:¬(e:Int)<(c.length:Int):=by omega
   obtain rfl:e=c.length:=by omega
   have N:dp r j wr z (xs++jD now p c) now:=by
    obtain⟨n,hv⟩:=k S;rw[eA,<-k aI] at hv;refine⟨⟨n,?_⟩,((k aL).mono λ_ _ t=>t.elim).trans (((k aO).trans (k A)).mono λ_ _ q=>q.1)⟩;unfold jD;rw[<-bI,<-bI,<-bI];exact hv.wide (λf q=>q.1)
   have N:=i N;clear S A;go_wp2_with fail;go_end0;exact⟨rfl,k N⟩
end Go.Proofs.YthhibagcpjeihaaGreat
