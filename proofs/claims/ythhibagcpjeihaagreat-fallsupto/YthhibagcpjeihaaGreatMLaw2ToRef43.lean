import Derived.Test.YthhibagcpjeihaaGreatMRef28ToRef32
import Derived.Test.YthhibagcpjeihaaGreatMRef26ToFol4
import Derived.Test.YthhibagcpjeihaaGreatMPg6ToBook6N
import Derived.Test.YthhibagcpjeihaaGreatMRef10ToOpArgs
import Derived.Test.YthhibagcpjeihaaGreatMFMapToBook4S
open Go.Proofs.Tryz
open Go.Value renaming int->y,pointer->b,slice->C,bool->W,agg->l,tuple->h,ownBlock->az
open Go.IntKind renaming i64->K
open Option renaming none->F,some->E
open Go renaming World->U,Value->V
open Go.Proofs.Tryz renaming prog->T,underlying61->nW
open Go.Ending renaming returned->g
open Go.Obj renaming cells->v
open Nat renaming lt_of_lt_of_le->aG,zero_add->bg,le_trans->bF,zero_le->fJ
open Go.World renaming size_alloc->bj,ownsRow_nil->cJ,block_lt_of_cell?->jA
open Option.some renaming inj->br
open List renaming eq_nil_of_length_eq_zero->fS,length_take->dj,getElem_mem->dD,take_length->eA,getElem_of_mem->iP,flatMap_append->lG,foldl_cons->kE,length_drop->lX,find?_cons->kZ,getElem_take->oy,setIfInBounds_toArray->sD
open Array renaming getElem?_toList->dE
open Go.Addr renaming add_mid->dx
open Bool renaming false_eq_true->kg
namespace Go.Proofs.YthhibagcpjeihaaGreat
open Go.RowKit
open M
set_option linter.unusedVariables false
set_option linter.unusedSimpArgs false
set_option maxRecDepth 100000
set_option maxHeartbeats 4000000
theorem KY{a:U} {n:Nat->Nat} {m:Nat} {k:V} {xs:List e} {now:Int} (f:aF a n m k xs now) (hv:xs=[]->k=C F 0 0):Calls T 26 #[b (E ⟨m,0,F⟩)] a λc w'=>c=g (b (E ⟨a.heap.size,0,F⟩))/\∃v' ys d,oA a w' a.heap.size xs now xs.length v' ys d/\(ys=[]->v'=C F 0 0):=by
 by_cases j:xs=[]
 ·subst j;obtain rfl:=hv rfl;refine(Ab f.has).mono ?_;rintro c w' ⟨rfl,rfl⟩;exact⟨rfl,_,_,_,sW a now [],λ_=>rfl⟩
 ·refine(Je f).mono ?_;rintro c w' ⟨v',ys,d,rfl,i⟩;exact⟨rfl,v',ys,d,i,λc=>by have:=i.len;rw[c] at this;exact absurd (fS this.symm) j⟩
theorem Bi:∀(xs ys:List e),ys.map (·.f)=xs.map (·.f)->∀c,dW ys c=dW xs c
 |[],[],_,_=>rfl
 |[],i::ys,a,_=>by simp at a
 |f::xs,[],a,_=>by simp at a
 |f::xs,i::ys,a,c=>by
  simp only[List.map_cons,List.cons.injEq] at a;have d:=Bi xs ys a.2 c;unfold dW at d ⊢;simp only[kZ,a.1]
  cases (f.f.num==(c:Int))
  ·exact d
  ·simp[a.1]
theorem dt.congr{xs ys:List e} {f:Nat->Option (O×List B)} (a:dt xs f) (hl:ys.length=xs.length) (hf:∀j (a:j<ys.length) (s:j<xs.length),ys[j].f=xs[j].f):dt ys f:=by
 have p:ys.map (·.f)=xs.map (·.f):=by
  apply List.ext_getElem
  ·simpa using hl
  ·intro j i k;simp only[List.getElem_map];exact hf j (by simpa using i) (by simpa using k)
 refine⟨?_,λt hy=>?_,λr q=>?_⟩
 ·rw[List.pairwise_iff_getElem];intro c d m hb n;rw[hf c m (by omega),hf d hb (by omega)];exact(List.pairwise_iff_getElem.1 a.sort) c d (by omega) (by omega) n
 ·obtain⟨j,o,rfl⟩:=iP hy;rw[hf j o (by omega)];exact a.gP _ (dD (by omega))
 ·rw[Bi xs ys p];exact a.eq r q
def pH(vs:Nat->V) (a:Nat->Bool):Array V:=#[vs 0,vs 1,vs 2,vs 3,vs 4,vs 5,vs 6,vs 7,W (a 0),W (a 1),W (a 2),W (a 3),W (a 4),W (a 5),W (a 6),W (a 7)]
structure nr (w:U) (ow:Nat->Nat) (tob:Nat) (vs:Nat->V) (ns:Nat->List sq) (bs:Nat->Bool):Prop where
 has:X w tob (pH vs bs) 76
 rows:∀i,i<8->w.ownsRow 0 68 3 (vs i) (ns i).length ((ns i).flatMap GG)
 own:∀i,i<8->∀k,(vs i).ownBlock=E k->ow k=i+2
 aW:ow tob=1
theorem nr.mod{w w':U} {d:Nat->Nat} {k:Nat} {vs:Nat->V} {j:Nat->List sq} {e:Nat->Bool} {S:Nat->Prop} (a:nr w d k vs j e) (f:G S w w') (hs:∀c,d c≠0->¬S c):nr w' d k vs j e:=
 ⟨f.has a.has (hs _ (by rw[a.aW];omega)),λi hi=>f.owns (a.rows i hi) (λc m=>hs c (by rw[a.own i hi c m];omega)),a.own,a.aW⟩
structure qP where
 wb:Nat
 ow:Nat->Nat
 v:V
 xs:List e
 now:Int
 fl:Nat->Option (O×List B)
structure iZ (w:U) (I:qP):Prop where
 aR:aF w I.ow I.wb I.v I.xs I.now
 same:dt I.xs I.fl
 tidy:I.xs=[]->I.v=C F 0 0
theorem iZ.mod{w w':U} {I:qP} {S:Nat->Prop} (a:iZ w I) (d:G S w w') (hs:∀c,I.ow c≠0->¬S c):iZ w' I:=⟨a.aR.mod d hs,a.same,a.tidy⟩
structure z where
 kb:Option Nat
 W:qP
 mb:Option qP
 tob:Nat
 okp:Nat->Nat
 owt:Nat->Nat
 om:Nat->Nat
 now:Int
 fl:Nat->Option (O×List B)
 K:aO
 most:Int
 ch:Int
 sh:Bool
 n0:Int
 n1:Int
 n2:Int
 tl:Nat->Option (List ia)
 vs:Nat->V
 ns:Nat->List sq
 bs:Nat->Bool
def fj(c:Option Nat):V:=.pointer (c.map λa=>⟨a,0,F⟩)
def dA(I:z):Array V:=#[b (E ⟨I.K.tb,0,F⟩),fj I.kb,b (E ⟨I.W.wb,0,F⟩),fj (I.mb.map (·.wb)),b (E ⟨I.tob,0,F⟩),y K I.most,y K I.ch,W I.sh,y K I.n0,y K I.n1,y K I.n2]
structure oG (w:U) (ow om:Nat->Nat) (kb:Option Nat) (now:Int) (fl:Nat->Option (O×List B)) (K:aO) (tl:Nat->Option (List ia)):Prop where
 some:∀b,kb=E b->(∃pt,cW w ow b now pt fl K)/\Km w ow om b tl
 none:kb=F->ae w (λk=>ow k=30) K.tb K.T/\∀k,ow k≠0->k<w.heap.size
theorem oG.mod{w w':U} {o n:Nat->Nat} {t:Option Nat} {now:Int} {r:Nat->Option (O×List B)} {q:aO} {x:Nat->Option (List ia)} {S:Nat->Prop} (s:oG w o n t now r q x) (d:G S w w') (hs:∀a,o a≠0->¬S a) (N:∀a,n a≠0->¬S a):oG w' o n t now r q x:=by
 refine⟨λe hb=>?_,λM=>?_⟩
 ·obtain⟨⟨pt,i⟩,c⟩:=s.some e hb;refine⟨⟨pt,i.mod d hs⟩,?_⟩;have J:¬S e:=hs e (by rw[i.keep.aW];omega);have hc:∀m p,w.cell? ⟨e,m,F⟩=E p->w'.cell? ⟨e,m,F⟩=E p:=λm p hc=>by
   have L:=jA w _ hc;rw[World.cell?_of_block (w:=w) (d.block _ L J)];exact hc
  exact⟨λk hi j=>hc _ _ (c.un k hi j),λk hi es j=>by
   obtain⟨u,I,z,A,D,H⟩:=c.is k hi es j
   exact⟨u,I,hc _ _ z,A,uS d D (N u (by omega)),H⟩,λa f=>⟨aG (c.aU a f).1 d.size,(c.aU a f).2⟩⟩
 ·obtain⟨i,c⟩:=s.none M;exact⟨i.mod d (λa f=>hs a (by omega)),λa f=>aG (c a f) d.size⟩
structure ai (w:U) (O:Nat->Prop) (ob:Nat) (I:z):Prop where
 has:X w ob (dA I) 55
 keep:oG w I.okp I.om I.kb I.now I.fl I.K I.tl
 aR:iZ w I.W
 may:∀M,I.mb=E M->iZ w M
 told:nr w I.owt I.tob I.vs I.ns I.bs
 ex:∃cls:Nat->Nat,cls ob=1/\(∀k,I.okp k≠0->cls k=2)/\(∀k,I.W.ow k≠0->cls k=3)/\(∀k,I.owt k≠0->cls k=4)/\(∀k,I.om k≠0->cls k=5)/\(∀M,I.mb=E M->∀k,M.ow k≠0->cls k=6)/\∀k,cls k≠0->O k
 lt:∀k,O k->k<w.heap.size
def grow(c:Nat->Prop) (d w':U):Nat->Prop:=λa=>c a\/(d.heap.size<=a/\a<w'.heap.size)
theorem ai.mod{w w':U} {i S:Nat->Prop} {u:Nat} {I:z} (d:ai w i u I) (f:G S w w') (hs:∀a,i a->¬S a):ai w' i u I:=by
 obtain⟨s,k,m,n,o,p,q,r⟩:=d.ex;have e:∀a j,s a=j->j≠0->¬S a:=λa j x A=>hs a (r a (by omega))
 exact⟨f.has d.has (e _ _ k (by omega)),d.keep.mod f (λa c=>e _ _ (m a c) (by omega)) (λa c=>e _ _ (p a c) (by omega)),d.aR.mod f (λa c=>e _ _ (n a c) (by omega)),
  λM t=>(d.may M t).mod f (λa c=>e _ _ (q M t a c) (by omega)),d.told.mod f (λa c=>e _ _ (o a c) (by omega)),⟨s,k,m,n,o,p,q,r⟩,λa c=>aG (d.lt a c) f.size⟩
structure gR (w w':U) (O:Nat->Prop) (ob:Nat) (R:z->Prop):Prop where
 ex:∃I',ai w' (grow O w w') ob I'/\R I'
 mod:G O w w'
structure KZ (w w':U) (ob:Nat) (I:z) (wt:Int):Prop where
 ex:X w' ob (dA { I with most:=max I.most wt }) 55
 mod:G (λk=>k=ob) w w'
theorem Bj{f:U} {c:Nat} {I:z} (j:X f c (dA I) 55) (m:iZ f I.W) (a:Int) (s:bB I.W.xs=a):Calls T 29 #[b (E ⟨c,0,F⟩)] f λr w'=>r=g (h #[])/\KZ f w' c I a:=by
 have d:=AV m.aR m.tidy;rw[s] at d;have d:=i d;have u:f.cell? ⟨c,2,F⟩=E (b (E ⟨I.W.wb,0,F⟩)):=j.cell 2;have G:=j.lt;have t:=i j;clear j m s;go_enter func29,ntmps29;go_wp2_with fail;refine(k d).mono ?_;rintro r x ⟨rfl,n⟩;have e:=n.has (k t) (λo=>o);have A:x.cell? ⟨c,5,F⟩=E (y K I.most):=e.cell 5;have f1:=e.frozen;have D:=e.lt;have q:=i (n.mono (S':=λw=>w=c) (λ_ _ o=>o.elim));have p:=i e
 clear n e d u;by_cases B:a>I.most
 ·go_wp2;go_end0;refine⟨rfl,?_,(k q).at 5 _⟩;rw[show max I.most a=a by omega];exact(k p).set 5 (y K a)
 ·go_wp2;go_end0;refine⟨rfl,?_,k q⟩;rw[show max I.most a=I.most by omega];exact k p
set_option maxHeartbeats 8000000
theorem eg.box{d:U} {c:Nat} {a:e} (hb:X d c (aV a) 134) (j:aE d a.g a.cap a.f.S) (k:L a.f.p a.f.S) (i:c≠a.g):eg d c 0 a.g a.cap a.f.p a.f.S:=by
 refine⟨j,bF (gF k) (by omega),i,hb.cell 8,λm f=>?_⟩;rw[hb.cell]
 match m,f with|0,_=>rfl|1,_=>rfl|2,_=>rfl|3,_=>rfl
structure dX (w wx:U) (x:e) (pb:Nat) (D:List B) (r c:Int) (more:Bool) (v:V) (i j:Nat):Prop where
 mod:G No w wx
 res:X wx (w.heap.size+1) iG 146
 box:X wx (w.heap.size+1+1) (aV x) 134
 cq:X wx pb #[v,y K (eE r c (D.take j)).1,y K (eE r c (D.take j)).2,y K x.f.ep,W more] 146
 row:wx.ownsRow 0 63 6 v i ((D.take i).flatMap aX)
 new:∀k,v.ownBlock=E k->w.heap.size<=k/\k≠pb/\k≠w.heap.size+1/\k≠w.heap.size+1+1
 gI:w.heap.size<=pb/\pb≠w.heap.size+1/\pb≠w.heap.size+1+1
theorem dX.still{p q r:U} {a:e} {m:Nat} {f:List B} {n i:Int} {more:Bool} {o:V} {k j:Nat} (c:dX p q a m f n i more o k j) (d:G No q r):dX p r a m f n i more o k j:=
 ⟨c.mod.trans d,d.has c.res (λa=>a),d.has c.box (λa=>a),d.has c.cq (λa=>a),d.owns c.row (λ_ _ a=>a),c.new,c.gI⟩
theorem dX.start{w a:U} {d:e} {D:List B} {r c:Int} {more:Bool} (f:G No w a) (i:X a (w.heap.size+1) iG 146) (hb:X a (w.heap.size+1+1) (aV d) 134):dX w (a.alloc (v #[C F 0 0,y K r,y K c,y K d.f.ep,W more] 146)) d a.heap.size D r c more (C F 0 0) 0 0:=
 ⟨f.alloc _,i.alloc _,hb.alloc _,X.new a _ _,cJ _ _ _ _,λk j=>by simp[az] at j,f.size,by have:=i.lt;omega,by have:=hb.lt;omega⟩
theorem dX.end_{r j:U} {s:e} {f:Nat} {d:List B} {o n:Int} {more:Bool} {q:V} {c:Nat} (a:dX r j s f d o n more q (c+1) c) (hi:c<d.length):dX r ((j.setCell ⟨f,1,F⟩ (y K d[c].row)).setCell ⟨f,2,F⟩ (y K d[c].P)) s f d o n more q (c+1) (c+1):=by
 have k:G (λm=>m=f) j ((j.setCell ⟨f,1,F⟩ (y K d[c].row)).setCell ⟨f,2,F⟩ (y K d[c].P)):=((G.refl _ j).at 1 _).at 2 _;refine⟨a.mod.trans' k (λm p hl=>by have:=a.gI.1;omega),k.has a.res (λi=>a.gI.2.1 i.symm),k.has a.box (λi=>a.gI.2.2 i.symm),?_,k.owns a.row (λm p i=>(a.new m p).2.1 i),a.new,a.gI⟩;rw[zJ o n d c hi];exact(a.cq.set 1 _).set 2 _
theorem dX.told{d r:U} {n:e} {u:Nat} {c:List B} {i f:Int} {more:Bool} {a:Option Addr} {o:Nat} (m:dX d r n u c i f more (C a c.length o) c.length c.length):Told d (((((r.setCell ⟨d.heap.size+1,0,F⟩ (C a c.length o)).setCell ⟨d.heap.size+1,1,F⟩ (y K (eE i f c).1)).setCell ⟨d.heap.size+1,2,F⟩ (y K (eE i f c).2)).setCell ⟨d.heap.size+1,3,F⟩ (y K n.f.ep)).setCell ⟨d.heap.size+1,4,F⟩ (W more))
   (g (h #[l #[C a c.length o,y K (eE i f c).1,y K (eE i f c).2,y K n.f.ep,W more],y K 0])) ⟨c,(eE i f c).1,(eE i f c).2,n.f.ep,more,0⟩:=by
 have j:∀q,No (⟨d.heap.size+1,q,F⟩:Addr).block\/d.heap.size<=(⟨d.heap.size+1,q,F⟩:Addr).block:=λq=>.inr (by simp);have s:=m.row;rw[eA] at s;refine⟨⟨_,rfl,?_,λk p=>(m.new k p).1⟩,((((m.mod.setCell (j 0) _).setCell (j 1) _).setCell (j 2) _).setCell (j 3) _).setCell (j 4) _⟩;exact((((G.refl (λk=>k=d.heap.size+1) r).at 0 _).at 1 _).at 2 _|>.at 3 _|>.at 4 _).owns s (λk p t=>(m.new k p).2.2.1 t)
set_option maxHeartbeats 16000000
noncomputable def K0(a:Nat):Code:=((j9 (f64.body.getD .skip))[a]?).getD .skip
noncomputable def Bk:TypeDesc:=(T.underlying 63).getD (.slice 0)
theorem K5:T.underlying 63=E Bk:=by kernel_rfl
theorem dX.app{s o m:U} {t:e} {q:Nat} {k:List B} {r p:Int} {more:Bool} {i:V} {f j:Nat} (a:dX s o t q k r p more i f j) (d:G (λn=>i.ownBlock=E n) o m) (w:m.ownsRow 0 63 6 i f ((k.take f).flatMap aX)):dX s m t q k r p more i f j:=
 ⟨a.mod.trans' d (λn u hl=>by have:=(a.new n u).1;omega),d.has a.res (λc=>(a.new _ c).2.2.1 rfl),d.has a.box (λc=>(a.new _ c).2.2.2 rfl),d.has a.cq (λc=>(a.new _ c).2.1 rfl),w,a.new,a.gI⟩
theorem dX.py{k j:U} {s:e} {i:Nat} {d:List B} {r o:Int} {more:Bool} {u v':V} {a:Nat} (f:dX k j s i d r o more u a a) (hi:a<d.length) (t:j.ownsRow 0 63 6 v' (a+1) (((d.take a).flatMap aX)++aX d[a])) (q:∀c,v'.ownBlock=E c->k.heap.size<=c/\c≠i/\c≠k.heap.size+1/\c≠k.heap.size+1+1):dX k (j.setCell ⟨i,0,F⟩ v') s i d r o more v' (a+1) a:=by
 have m:G (λc=>c=i) j (j.setCell ⟨i,0,F⟩ v'):=(G.refl (λc=>c=i) j).setCell (p:=⟨i,0,F⟩) (.inl rfl) _;refine⟨f.mod.trans' m (λc p hl=>by have:=f.gI.1;omega),m.has f.res (λn=>f.gI.2.1 n.symm),m.has f.box (λn=>f.gI.2.2 n.symm),f.cq.set 0 v',?_,q,f.gI⟩;have:(d.take (a+1)).flatMap aX=(d.take a).flatMap aX++aX d[a]:=by rw[take_succ d a hi,lG];simp
 rw[this];exact m.owns t (λc p=>(q c p).2.1)
def kA(d:U) (f:e) (n p o:Nat) (q:List B) (j:B) (m:V) (r:Nat) (a:V) (k:U):Prop:=
 match r with
 |0|9=>a=b (E ⟨n,0,F⟩)
 |1=>a=m
 |2=>a=b (E ⟨d.heap.size+1+1,8,F⟩)
 |3=>a=C (E ⟨f.g,0,F⟩) f.f.S.length f.cap
 |4=>a=y K (p:Int)
 |5=>a=b (E ⟨f.g,p* 6,F⟩)
 |6=>a=l (dc j)
 |7=>∃i,a=C (E ⟨i,0,F⟩) 1 1/\X k i (dc j) 63/\m.ownBlock≠E i
 |8=>k.ownsRow 0 63 6 a (o+1) (((q.take o).flatMap aX)++aX j)/\∀c,a.ownBlock=E c->d.heap.size<=c/\c≠n/\c≠d.heap.size+1/\c≠d.heap.size+1+1
 |_=>True
structure eH (q:Nat) (D:List B) (sd:B) (l:V) (W W':U):Prop where
 has:∀b cs T',X W b cs T'->l.ownBlock≠E b->X W' b cs T'
 row:∀u,W.ownsRow 0 63 6 u (q+1) (((D.take q).flatMap aX)++aX sd)->W'.ownsRow 0 63 6 u (q+1) (((D.take q).flatMap aX)++aX sd)
theorem eH.refl(f:Nat) (d:List B) (i:B) (e:V) (c:U):eH f d i e c c:=⟨λ_ _ _ a _=>a,λ_ a=>a⟩
theorem kA.j2{r:U} {s:e} {o p f:Nat} {c:List B} {i:B} {d:V} (n:Nat) (q:V) (j k:U) (hs:eH f c i d j k) (a:kA r s o p f c i d n q j):kA r s o p f c i d n q k:=by
 unfold kA at a ⊢;split at a
 all_goals first
  |exact a
  |(obtain⟨t,u,w,m⟩:=a;exact⟨t,u,hs.has _ _ _ w m,m⟩)
  |exact⟨hs.row _ a.1,a.2⟩
theorem Bl{r c0:U} {f:e} {q first:Nat} {p:List B} {P N ag ap:Int} {more:Bool} (a4:Hid (aE r f.g f.cap f.f.S)) (aW:Hid (∀j (aZ:j<p.length),∃hi:first+j<f.f.S.length,f.f.S[first+j]=p[j])) (aV:Hid (first+p.length<=120)) (au:Hid (ag=(first:Int)+(p.length:Int))) (hF:Hid (ap=(first:Int))) (aL:Exit->Act->U->Prop)
  (d:Hid (dX r c0 f q p P N more (C F 0 0) 0 0)) (a7 a8 bn bA bO b1 cc cn cz cM a9 bf bi bk bl bm bo bp bq bs bt bu bv bw bx bz bB bC bD bE bG bH bJ bL bM bN bP bQ bR bS bT bU bV bW bY bZ b2 b3 b4 b5 b6 b7 b8 b9 ca cb cd ce cf cg ch ci cj ck cl cm co cp cq cr ct cu cv cw cx cy cA cB cC cD cE cF cG cH cI cL cN cO cP cQ cR cS cT cV cW cX ba bb bc bd dr dt du dv dw dy dz dA dB dC dF dG dH dI dJ dK dL dM dN dO dQ dS dT bh:V)
  (aY:∀(ek dV dW dY d0 d1 d2 d3 d4 d5 d6 d7 d8 d9 ea eb ec ed ee ef eg eh ei ej:V) (a:Option Addr) (c9:Nat) (ao:U),Hid (dX r ao f q p P N more (C a p.length c9) p.length p.length)->aL (.exit 1) ⟨#[a7,a8,bn,bA,bO,b1,cc,cn,cz,cM,a9,b (E ⟨r.heap.size+1+1,0,F⟩),bf,bi,bk,y K ag,b (E ⟨q,0,F⟩),ek,bl,bm,bo,bp,bq,bs,bt,bu,bv,bw,bx,bz,bB,bC,bD,bE,bG,bH,bJ,bL,bM,bN,bP,bQ,bR,bS,bT,bU,bV,bW,bY,bZ,b2,b3,b4,b5,b6,b7,b8,b9,ca,cb,cd,ce,cf,cg,ch,ci,cj,ck,cl,cm,co,cp,cq,cr,ct,cu,cv,cw,cx,cy,cA,cB,cC,cD,cE,cF,cG,cH,cI,cL,cN,cO,cP,cQ,cR,cS,cT,cV,cW,cX,ba,bb,bc,bd,dV,dW,dY,d0,d1,d2,d3,d4,d5,d6,d7,d8,d9,ea,eb,ec,ed,ee,ef,eg,eh,ei,ej,bh],[]⟩ ao):
  Code.wp T (K0 0) aL ⟨#[a7,a8,bn,bA,bO,b1,cc,cn,cz,cM,a9,b (E ⟨r.heap.size+1+1,0,F⟩),bf,bi,bk,y K ag,b (E ⟨q,0,F⟩),y K ap,bl,bm,bo,bp,bq,bs,bt,bu,bv,bw,bx,bz,bB,bC,bD,bE,bG,bH,bJ,bL,bM,bN,bP,bQ,bR,bS,bT,bU,bV,bW,bY,bZ,b2,b3,b4,b5,b6,b7,b8,b9,ca,cb,cd,ce,cf,cg,ch,ci,cj,ck,cl,cm,co,cp,cq,cr,ct,cu,cv,cw,cx,cy,cA,cB,cC,cD,cE,cF,cG,cH,cI,cL,cN,cO,cP,cQ,cR,cS,cT,cV,cW,cX,ba,bb,bc,bd,dr,dt,du,dv,dw,dy,dz,dA,dB,dC,dF,dG,dH,dI,dJ,dK,dL,dM,dN,dO,dQ,dS,dT,bh],[]⟩ c0:=by
 conv=>arg 4;dsimp only
 conv=>arg 2;whnf
 obtain⟨dl,dm,dn,dp,dq⟩:=info_parts pY;have db:ap=(first:Int):=k hF;subst db;have A:=a4;have I:=aW;have aH:=i aY;clear a4 aW aY;go_loopw [17] (λaD ao=>∃(c n:Nat) (ae:V),Hid (n=first+c)/\aD=y K (n:Int)/\c<=p.length/\Hid (dX r ao f q p P N more ae c c)) (λaD _=>first+p.length - (intOf aD).toNat)
 case atStart=>exact⟨0,first,C F 0 0,by simp[Hid],rfl,fJ _,d⟩
 case round=>
  obtain⟨c,n,ae,Y,rfl,eJ,s⟩:=hrel;have ew:=k aV;clear d;by_cases ax:c<p.length
  ·have ey:(n:Int)<ag:=by have:=k au;have:=k Y;omega
   have dh:n<first+p.length:=by have:=k Y;omega
   have eF:n<120:=by omega
   obtain⟨O,am⟩:∃z:n<f.f.S.length,f.f.S[n]=p[c]:=by have R:=k Y;subst R;exact(k I) _ ax
   have eI:(n:Int)<(f.f.S.length:Int):=by omega
   have eC:(0:Int)<=n:=by omega
   have eD:K.wrap ((n:Int)+1)=((n+1:Nat):Int):=by rw[aB _ (by omega) (by omega)];rfl
   have aa:=(k A).mod (k s).mod (λf=>f);have aj:=aa.row n O;have aO:=aa.P n O;have aQ:=aa.st n O;have aR:=aa.pa n O;have aS:=aa.cl n O;have aT:=aa.un n O;rw[am] at aj aO aQ aR aS aT;obtain⟨t,u,rfl⟩:=aC (k s).row;have H:=i λ(dU:U) (ae:V) (z:dX r dU f q p P N more ae (c+1) c)=>z.end_ ax;have J:=i λ(m:U) (v':V) (z:dX r m f q p P N more (C t c u) c c)=>z.py (v':=v') ax;have eK:c+1<=120:=by omega
   have eN:=(k s).mod.size;have eG:=(k s).cq.lt;have eM:=(k s).res.lt;have eu:=(k s).box.lt;have a3:=(k s).row;have aM:∀m,dX r m f q p P N more (C t c u) c c->m.rangeAt f.g (n* 6) (dc p[c]).toList:=λm de j ae hv=>by
    have c7:=(k A).mod de.mod (λf=>f);have aZ:j<6:=by have:=(List.getElem?_eq_some_iff.1 hv).1;simpa [dc] using this
    rw[c7.cell n O j aZ,am,<-dE];exact hv
   have aI:=i am;generalize a5:p[c]=x at *;have c6:=i a5;have L:=i aM;have el:=i au;clear aa am a5 dh aV aj aO aQ aR aS aT aM;go_upto_region 23 with fail
   refine GK (n:=128) 10 (λm=>dX r m f q p P N more (C t c u) c c) (eH c p x (C t c u)) (kA r f q n c p x (C t c u)) (by kernel_rfl) rfl (by kernel_rfl) (by kernel_rfl) (λw ae m c8 hs z=>z.j2 w ae m c8 hs) ?_ ?_ ((k s).still (G.refl No wr).drew) ⟨_,rfl⟩
   ·intro w aA a m ez S ad d hd;have hi:w<11:=(Array.getElem?_eq_some_iff.1 S).1;have af:a.tmps[11]?.getD undef=b (E ⟨r.heap.size+1+1,0,F⟩):=by simpa using ad.rest 11 (by kernel_rfl)
    have ah:a.tmps[16]?.getD undef=b (E ⟨q,0,F⟩):=by simpa using ad.rest 16 (by kernel_rfl)
    have Q:a.eval (.tmp 17)=y K (n:Int):=ad.rest 17 (by kernel_rfl);clear aH ad;have df:w=0\/w=1\/w=2\/w=3\/w=4\/w=5\/w=6\/w=7\/w=8\/w=9:=by omega
    obtain rfl|rfl|rfl|rfl|rfl|rfl|rfl|rfl|rfl|rfl:=df
    all_goals
     replace S:=br (show E _=E aA from S);subst S
    ·have o:=i d;clear hd d H J L s A I Q af;go_simp
     first|exact k o|exact⟨_,rfl,k o,eH.refl _ _ _ _ _,rfl⟩|exact⟨k o,eH.refl _ _ _ _ _,rfl⟩|exact⟨k o,eH.refl _ _ _ _ _⟩
    ·have em:a.tmps[109]?.getD undef=b (E ⟨q,0,F⟩):=by simpa using (show a.tmps.getD 109 undef=_ from hd ⟨0,.data⟩ (by simp) rfl)
     have aj:m.cell? ⟨q,0,F⟩=E (C t c u):=d.cq.cell 0;have o:=i d;clear hd d H J L s A I Q af ah;go_simp
     first|exact k o|exact⟨_,rfl,k o,eH.refl _ _ _ _ _,rfl⟩|exact⟨k o,eH.refl _ _ _ _ _,rfl⟩|exact⟨k o,eH.refl _ _ _ _ _⟩
    ·have o:=i d;clear hd d H J L s A I Q ah;go_simp
     first|exact k o|exact⟨_,rfl,k o,eH.refl _ _ _ _ _,rfl⟩|exact⟨k o,eH.refl _ _ _ _ _,rfl⟩|exact⟨k o,eH.refl _ _ _ _ _⟩
    ·have en:a.tmps[111]?.getD undef=b (E ⟨r.heap.size+1+1,8,F⟩):=by simpa using (show a.tmps.getD 111 undef=_ from hd ⟨2,.data⟩ (by simp) rfl)
     have aj:m.cell? ⟨r.heap.size+1+1,8,F⟩=E (C (E ⟨f.g,0,F⟩) f.f.S.length f.cap):=d.box.cell 8;have o:=i d;clear hd d H J L s A I Q ah af;go_simp
     first|exact k o|exact⟨_,rfl,k o,eH.refl _ _ _ _ _,rfl⟩|exact⟨k o,eH.refl _ _ _ _ _,rfl⟩|exact⟨k o,eH.refl _ _ _ _ _⟩
    ·clear hd;refine ib _ rfl ?_;exact⟨_,rfl,d,eH.refl _ _ _ _ _,Q⟩
    ·have eo:a.tmps[112]?.getD undef=C (E ⟨f.g,0,F⟩) f.f.S.length f.cap:=by simpa using (show a.tmps.getD 112 undef=_ from hd ⟨3,.data⟩ (by simp) rfl)
     have ep:a.tmps[113]?.getD undef=y K (n:Int):=by simpa using (show a.tmps.getD 113 undef=_ from hd ⟨4,.data⟩ (by simp) rfl)
     have o:=i d;clear hd d H J L s A I Q ah af;go_simp
     first|exact k o|exact⟨_,rfl,k o,eH.refl _ _ _ _ _,rfl⟩|exact⟨k o,eH.refl _ _ _ _ _,rfl⟩|exact⟨k o,eH.refl _ _ _ _ _⟩
    ·have c2:a.eval (.tmp 114)=b (E ⟨f.g,n* 6,F⟩):=hd ⟨5,.data⟩ (by simp) rfl;clear hd;refine wp_load_mid _ _ rfl f.g (n* 6) c2 (dc x).toList Bk ((k L) m d) K5 (by kernel_rfl) (by kernel_rfl) ?_;exact⟨_,rfl,d,eH.refl _ _ _ _ _,by simp[kA]⟩
    ·have c3:a.tmps[115]?.getD undef=l (dc x):=by simpa using (show a.tmps.getD 115 undef=_ from hd ⟨6,.data⟩ (by simp) rfl)
     have o:=i d;have ay:G No m (m.alloc (v (dc x) 63)):=(G.refl No m).alloc _;have aN:=i (⟨λ_ _ _ z _=>z.alloc _,λ_ z=>ay.owns z (λ_ _ f=>f)⟩:eH c p x (C t c u) m (m.alloc (v (dc x) 63)));have aK:=i (d.still ay);have aF:=i (show kA r f q n c p x (C t c u) 7 (C (E ⟨m.heap.size,0,F⟩) 1 1) (m.alloc (v (dc x) 63)) from⟨m.heap.size,rfl,X.new m _ _,λR=>by have:=iX d.row _ R;omega⟩)
     clear hd d H J L s A I Q ah af ay a3 o;unfold dc at c3 aN aK aF;go_simp;exact⟨_,rfl,k aK,k aN,k aF⟩
    ·have c1:a.eval (.tmp 110)=C t c u:=hd ⟨1,.data⟩ (by simp) rfl;obtain⟨ab,c4,hb,ev⟩:∃ab,a.eval (.tmp 116)=C (E ⟨ab,0,F⟩) 1 1/\X m ab (dc x) 63/\(C t c u).ownBlock≠E ab:=hd ⟨7,.data⟩ (by simp) rfl;have a2:=d.row
     have dd:Reads m (C (E ⟨ab,0,F⟩) 1 1) 1 (aX x):=.inr ⟨⟨ab,0,F⟩,1,rfl,λj cY hu=>by
      rw[dx,bg,hb.cell,<-dE]
      exact hu⟩
     refine sy _ _ 61 rfl 63 dl _ 6 48 nW dm dn dp dq rfl (by decide) (C t c u) c _ c1 a2 _ 1 (aX x) c4 dd rfl (by intro cY hu;simp[aX,dc] at hu;obtain rfl|rfl|rfl|rfl|rfl|rfl:=hu<;>rfl) (by unfold maxLen;omega) (by omega) ?_;intro v' w' a1 av hs a6 dg;have di:G (λD=>(C t c u).ownBlock=E D) m w':=(G.refl _ m).grown av (λD aw=>.inl aw)
     refine⟨v',rfl,d.app di a6,⟨λab cs eq z hb=>z.grown av (λR=>hb R.symm),λcY hu=>GN (by decide) (by omega) a2 a1 av dg a6 hu⟩,a1,λD aw=>?_⟩;obtain R|R:=hs D aw
     ·exact d.new D R
     ·have eS:=d.mod.size;have eU:=d.cq.lt;have eV:=d.res.lt;have eW:=d.box.lt;exact⟨by omega,by omega,by omega,by omega⟩
    ·have o:=i d;clear hd d H J L s A I Q af;go_simp
     first|exact k o|exact⟨_,rfl,k o,eH.refl _ _ _ _ _,rfl⟩|exact⟨k o,eH.refl _ _ _ _ _,rfl⟩|exact⟨k o,eH.refl _ _ _ _ _⟩
   ·intro aA a m S ad d hF;replace S:=br (show E _=E aA from S);subst S;obtain⟨f8,f9⟩:=hF 8 (by decide) (by decide);have aU:a.tmps.getD 118 undef=b (E ⟨q,0,F⟩):=hF 9 (by decide) (by decide);have f8:m.ownsRow 0 63 6 (a.tmps.getD 117 undef) (c+1) (((p.take c).flatMap aX)++aX x):=f8;have f9:∀D,(a.tmps.getD 117 undef).ownBlock=E D->r.heap.size<=D/\D≠q/\D≠r.heap.size+1/\D≠r.heap.size+1+1:=f9
    obtain⟨cZ,ar⟩:∃cZ,a.tmps.getD 117 undef=cZ:=⟨_,rfl⟩;rw[ar] at f8 f9;obtain⟨ai,ak,rfl⟩:=aC f8;have M:=i ((k J) m _ d f8 f9);have a0:=ad.lit;rw[a0];clear a0;simp only[List.filterMap_cons,List.filterMap_nil,kE,List.foldl_nil,sD,List.set_cons_zero,List.set_cons_succ,ar,aU];have eY:m.cell? ⟨q,0,F⟩=E (C t c u):=d.cq.cell 0;have eZ:=d.cq.frozen;have e0:=d.cq.lt
    have aq:=(k A).mod (k M).mod (λf=>f);have c':=aq.row n O;have da:=aq.P n O;rw[k aI] at c' da;have er:(m.setCell ⟨q,0,F⟩ (C ai (c+1) ak)).cell? ⟨r.heap.size+1+1,8,F⟩=E (C (E ⟨f.g,0,F⟩) f.f.S.length f.cap):=(k M).box.cell 8;have et:=(k M).box.lt;have eQ:=(k M).cq.frozen;have eO:(m.setCell ⟨q,0,F⟩ (C ai (c+1) ak)).cell? ⟨q,1,F⟩=E (y K (eE P N (p.take c)).1):=(k M).cq.cell 1
    have eP:(m.setCell ⟨q,0,F⟩ (C ai (c+1) ak)).cell? ⟨q,2,F⟩=E (y K (eE P N (p.take c)).2):=(k M).cq.cell 2;have eR:=(k M).cq.lt;have c5:=i ((k H) _ _ (k M));clear aq M J H s aI I A c6 L f8 f9 d hF ar aU ad a3;go_simp;generalize m.setCell ⟨q,0,F⟩ (C ai (c+1) ak)=eX at *;go_wp2;exact⟨⟨c+1,n+1,_,by have:=k Y;show n+1=first+(c+1);omega,rfl,by omega,c5⟩,by have:=k Y;simp[intOf];omega⟩
  ·have eB:¬(n:Int)<ag:=by have:=k au;have:=k Y;omega
   obtain rfl:c=p.length:=by omega
   obtain⟨t,u,rfl⟩:=aC (k s).row;have dk:n=first+p.length:=k Y
   clear Y;go_wp2;subst dk;exact(k aH) _ _ _ _ _ _ _ _ _ _ _ _ _ _ _ _ _ _ _ _ _ _ _ _ _ _ _ s
theorem K7{f:U} {bJ:Nat->Nat} {bo gf cap:Nat} {xs:List e} {now:Int} (aB:aF f bJ bo (C (E ⟨gf,0,F⟩) xs.length cap) xs now) (aN d c m size:Int) (p:Nat) (hi:p<xs.length) (bm:cT xs aN=p):Calls T 64 #[b (E ⟨bo,0,F⟩),y K aN,l #[y K d,y K c,y K m],y K size] f λbA w'=>Told f w' bA (eP (xs[p].f.p.at xs[p].f.ep) xs[p].f.S d c m size):=by
 have au:G No f ((f.alloc (v #[y K d,y K c,y K m] 43)).alloc (v #[C F 0 0,y K 0,y K 0,y K 0,W false] 146)):=((G.refl _ f).alloc _).alloc _;have aa:=aB.mod au (λ_ _ a=>a);have aH:=aa.find aN;rw[bm] at aH;have aU:=i aH;clear aH;obtain⟨bH,bn⟩:=aa.parts rfl (by omega);obtain⟨aR,os,wf⟩:=aB.S p hi;have hc:=aa.has.cell
 have w:∀o,o<10->((f.alloc (v #[y K d,y K c,y K m] 43)).alloc (v #[C F 0 0,y K 0,y K 0,y K 0,W false] 146)).cell? ⟨gf,p* 10+o,F⟩=(aV xs[p])[o]? :=λo ad=>bn.cell p hi o ad;have cm:xs[p].g<f.heap.size:=aR.lt;have av:=X.new (f.alloc (v #[y K d,y K c,y K m] 43)) iG 146;rw[bj] at av;have aT:=(X.new f #[y K d,y K c,y K m] 43).alloc (v iG 146)
 have aS:=X.new ((f.alloc (v #[y K d,y K c,y K m] 43)).alloc (v iG 146)) (aV xs[p]) 134;rw[bj,bj] at aS;have Q:=i (au.alloc (v (aV xs[p]) 134));have aw:=i (av.alloc (v (aV xs[p]) 134));have L:=i (aT.alloc (v (aV xs[p]) 134));have ag:=i aS;clear aS;have D:=i aR;have A:=i wf;have co:xs[p].f.S.length<=120:=gF wf;have ck:¬(p:Int)<0:=by omega
 clear aB aa bn aR os wf bH au av aT;generalize xs[p]=a at *;have bv:=i (show f.heap.size+1+1≠a.g by omega);have aA:=w 0 (by omega);have a7:=w 1 (by omega);have a8:=w 2 (by omega);have a9:=w 3 (by omega);have ba:=w 4 (by omega);have bb:=w 5 (by omega);have bc:=w 6 (by omega);have bd:=w 7 (by omega);have bf:=w 8 (by omega);have bh:=w 9 (by omega);simp only[Nat.add_zero] at aA
 have aX:(aV a)[0]? =E (y K a.f.num):=rfl;have aY:(aV a)[1]? =E (y K a.f.p.rows):=rfl;have aZ:(aV a)[2]? =E (y K a.f.p.w):=rfl;have a0:(aV a)[3]? =E (y K a.f.p.front):=rfl;have a1:(aV a)[4]? =E (y K a.f.p.I):=rfl;have ay:(aV a)[5]? =E (y K a.f.p.R):=rfl;have a2:(aV a)[6]? =E (y K a.f.p.n):=rfl;have a3:(aV a)[7]? =E (y K a.f.p.f):=rfl;have a4:(aV a)[8]? =E (C (E ⟨a.g,0,F⟩) a.f.S.length a.cap):=rfl
 have a5:(aV a)[9]? =E (y K a.f.ep):=rfl;rw[aX] at aA;rw[aY] at a7;rw[aZ] at a8;rw[a0] at a9;rw[a1] at ba;rw[ay] at bb;rw[a2] at bc;rw[a3] at bd;rw[a4] at bf;rw[a5] at bh;clear w aX aY aZ a0 a1 ay a2 a3 a4 a5 bm;have aa:(p:Int)<(xs.length:Int):=by omega
 replace Q:=i (show G No f (((f.alloc (v #[y K d,y K c,y K m] 43)).alloc (v iG 146)).alloc (v (aV a) 134)) from k Q);unfold aV iG at Q aw L ag;go_enter func64,ntmps64;go_wp2_with fail;refine(k aU).mono ?_;rintro m cr ⟨rfl,rfl⟩;go_upto_region 6 with fail;clear aA a7 a8 a9 ba bb bc bd bf bh hc aU
 generalize (((f.alloc (v #[y K d,y K c,y K m] 43)).alloc (v #[C F 0 0,y K 0,y K 0,y K 0,W false] 146)).alloc (v #[y K a.f.num,y K a.f.p.rows,y K a.f.p.w,y K a.f.p.front,y K a.f.p.I,y K a.f.p.R,y K a.f.p.n,y K a.f.p.f,C (E ⟨a.g,0,F⟩) a.f.S.length a.cap,y K a.f.ep] 134))=w3 at *;have b0:w3.cell? ⟨f.heap.size,0,F⟩=E (y K d):=(k L).cell 0;have ah:w3.cell? ⟨f.heap.size,1,F⟩=E (y K c):=(k L).cell 1
 have ai:w3.cell? ⟨f.heap.size,2,F⟩=E (y K m):=(k L).cell 2;have aj:=(k L).lt;go_cut [13] (λbO bQ=>bO=W (nY d c m)/\bQ=w3)
 case first=>
  by_cases aK:d=0
  ·subst aK;by_cases aD:c=0
   ·subst aD;go_wp2;go_meet;exact⟨by simp[nY],rfl⟩
   ·have cl:(c==0)=false:=by simp[aD]
    go_wp2;go_meet;exact⟨by simp[nY,aD],rfl⟩
  ·have cp:(d==0)=false:=by simp[aK]
   go_wp2;go_meet;exact⟨by simp[nY,aK],rfl⟩
 case rest=>
  obtain⟨rfl,rfl⟩:=hcut
  apply_assumption
  have ap:=i λ(bw:U) (bi:G No wc bw)=>eg.box (bi.has (k ag) (λa=>a)) ((k D).mod ((k Q).trans bi) (λa=>a)) (k A) (k bv);obtain⟨O,aI⟩:∃O:Int,O=if a.f.p.has d c=true then((a.f.p.idx d c:Nat):Int) else -1:=⟨_,rfl⟩
  have aW:=i (show Calls T 85 #[b (E ⟨f.heap.size+1+1,0,F⟩),l #[y K d,y K c]] wc λm w'=>m=g (y K O)/\G No wc w' from by
   rw[aI]
   cases B:a.f.p.has d c with
   |true=>rw[if_pos rfl];exact sE ((k ap) wc (G.refl _ _)) (k A) d c B
   |false=>rw[if_neg (by simp)];exact sF ((k ap) wc (G.refl _ _)) (k A) d c B)
  have P:=i aI;clear aI ap;go_wp2_with fail;refine(k aW).mono ?_;rintro ay r ⟨rfl,af⟩;have t:=i ((k Q).trans af);have q:=i (af.has (k aw) (λa=>a));have z:=i (af.has (k L) (λa=>a));have u:=i (af.has (k ag) (λa=>a));clear aW af Q aw L ag b0 ah ai aj;have b0:r.cell? ⟨f.heap.size,0,F⟩=E (y K d):=(k z).cell 0;have ah:r.cell? ⟨f.heap.size,1,F⟩=E (y K c):=(k z).cell 1
  have ai:r.cell? ⟨f.heap.size,2,F⟩=E (y K m):=(k z).cell 2;have aj:=(k z).lt;have bp:r.cell? ⟨f.heap.size+1+1,8,F⟩=E (C (E ⟨a.g,0,F⟩) a.f.S.length a.cap):=(k u).cell 8;have bq:r.cell? ⟨f.heap.size+1+1,9,F⟩=E (y K a.f.ep):=(k u).cell 9;have bs:=(k u).lt;have d0:r.cell? ⟨f.heap.size+1,0,F⟩=E (C F 0 0):=(k q).cell 0;have d1:r.cell? ⟨f.heap.size+1,1,F⟩=E (y K 0):=(k q).cell 1
  have d2:r.cell? ⟨f.heap.size+1,2,F⟩=E (y K 0):=(k q).cell 2;have d3:r.cell? ⟨f.heap.size+1,3,F⟩=E (y K 0):=(k q).cell 3;have d4:r.cell? ⟨f.heap.size+1,4,F⟩=E (W false):=(k q).cell 4;have ak:=(k q).frozen;have am:=(k q).lt;have S:∀aO,No (⟨f.heap.size+1,aO,F⟩:Addr).block\/f.heap.size<=(⟨f.heap.size+1,aO,F⟩:Addr).block:=λaO=>.inr (by show f.heap.size<=f.heap.size+1;omega)
  have R:=i λ(a6:Int)=>(show Told f (((((r.setCell ⟨f.heap.size+1,0,F⟩ (C F 0 0)).setCell ⟨f.heap.size+1,1,F⟩ (y K 0)).setCell ⟨f.heap.size+1,2,F⟩ (y K 0)).setCell ⟨f.heap.size+1,3,F⟩ (y K 0)).setCell ⟨f.heap.size+1,4,F⟩ (W false)) (g (h #[l #[C F 0 0,y K 0,y K 0,y K 0,W false],y K a6])) ⟨[],0,0,0,false,a6⟩ from
   ⟨⟨C F 0 0,rfl,cJ _ _ _ _,λcq bB=>by simp[az] at bB⟩,(((((k t).setCell (S 0) _).setCell (S 1) _).setCell (S 2) _).setCell (S 3) _).setCell (S 4) _⟩)
  clear S;by_cases bD:size<1
  ·have x:eP (a.f.p.at a.f.ep) a.f.S d c m size=⟨[],0,0,0,false,12⟩:=by unfold eP;rw[if_pos (.inl bD)]
   have s:=i x;clear x z u q t A D;go_wp2;refine bodyPost_ret (by simp[results,results64,go_sem,d0,d1,d2,d3,d4];try rfl) rfl ?_;rw[k s];exact(k R) 12
  by_cases bE:size>30
  ·have x:eP (a.f.p.at a.f.ep) a.f.S d c m size=⟨[],0,0,0,false,12⟩:=by unfold eP;rw[if_pos (.inr bE)]
   have s:=i x;clear x z u q t A D;go_wp2;refine bodyPost_ret (by simp[results,results64,go_sem,d0,d1,d2,d3,d4];try rfl) rfl ?_;rw[k s];exact(k R) 12
  have J:=i (show(bY (a.f.p.at a.f.ep) d c m)=if nY d c m=true then(0,0) else if m≠a.f.ep then(0,13) else if a.f.p.has d c=false then(0,5) else((a.f.p.idx d c:Int)+1,0) from by
   unfold bY nY
   by_cases ae:d=0/\c=0/\m=0
   ·obtain⟨rfl,rfl,rfl⟩:=ae
    rfl
   ·have bG:((d==0&&c==0)&&m==0)=false:=by simp;omega
    rw[if_neg ae,bG]
    simp only[kg,if_false]
    rfl)
  generalize ae:nY d c m=ci at *;have cj:=i ae;clear ae;have refuse:True:=trivial
  cases ci with
  |false=>
   by_cases aE:m=a.f.ep
   case neg=>
    have x:eP (a.f.p.at a.f.ep) a.f.S d c m size=⟨[],0,0,0,false,13⟩:=by
     have hb:bY (a.f.p.at a.f.ep) d c m=(0,13):=by rw[k J,if_neg (by simp),if_pos aE]
     unfold eP;rw[if_neg (by omega),hb,if_pos (show(13:Int)≠0 by decide)]
    have s:=i x;clear x z u q t A D J;go_wp2;refine bodyPost_ret (by simp[results,results64,go_sem,d0,d1,d2,d3,d4];try rfl) rfl ?_;rw[k s];exact(k R) 13
   cases B:a.f.p.has d c with
   |false=>
    have bl:O= -1:=by rw[k P,B];rfl
    have x:eP (a.f.p.at a.f.ep) a.f.S d c m size=⟨[],0,0,0,false,5⟩:=by
     have hb:bY (a.f.p.at a.f.ep) d c m=(0,5):=by rw[k J,if_neg (by simp),if_neg (by simpa using aE),if_pos B]
     unfold eP;rw[if_neg (by omega),hb,if_pos (show(5:Int)≠0 by decide)]
    have s:=i x;subst bl;clear x z u q t A D J P;go_wp2;refine bodyPost_ret (by simp[results,results64,go_sem,d0,d1,d2,d3,d4];try rfl) rfl ?_;rw[k s];exact(k R) 5
   |true=>
    have hb:bY (a.f.p.at a.f.ep) d c m=((((a.f.p.idx d c+1):Nat):Int),0):=by rw[k J,if_neg (by simp),if_neg (by simpa using aE),if_neg (by rw[B];simp)];simp
    have ao:(a.f.p.idx d c+1)<=a.f.S.length:=by have:=aM.wf.gV (k A) B;exact this
    obtain⟨first,bk⟩:∃first:Nat,first=(a.f.p.idx d c+1):=⟨_,rfl⟩
    rw[<-bk] at hb ao;obtain⟨j,H⟩:∃j,j=(a.f.S.drop first).take size.toNat:=⟨_,rfl⟩;have aC:j.length=min size.toNat (a.f.S.length - first):=by rw[H,dj,lX]
    have ar:=i (show ∀o (ad:o<j.length),∃hi:first+o<a.f.S.length,a.f.S[first+o]=j[o] from λo ad=>by
     subst H
     have:first+o<a.f.S.length:=by omega
     refine⟨this,?_⟩
     simp only[oy,List.getElem_drop])
    have s:=i (show eP (a.f.p.at a.f.ep) a.f.S d c m size=⟨j,(eE d c j).1,(eE d c j).2,a.f.ep,decide ((first:Int)+(j.length:Int)<(a.f.S.length:Int)),0⟩ from by
     subst H
     unfold eP
     rw[if_neg (by omega),hb,if_neg (show ¬((0:Int)≠0) by decide),fG.mk.injEq]
     exact⟨rfl,rfl,rfl,rfl,decide_eq_decide.2 (by simp only[Int.toNat_natCast];omega),rfl⟩)
    have aL:K.wrap ((first:Int)+size)=(first:Int)+size:=ey _ (by omega) (by omega);have bl:K.wrap (O+1)=(first:Int):=by
     have bC:O=((a.f.p.idx d c:Nat):Int):=by rw[k P,B];rfl
     rw[bC,ey _ (by omega) (by omega)];omega
    have cn:¬O<0:=by rw[k P,B];simp
    clear bk hb J P R B;have M:=i (show((first:Int)+size>(a.f.S.length:Int)->(a.f.S.length:Int)=(first:Int)+(j.length:Int))/\(¬(first:Int)+size>(a.f.S.length:Int)->(first:Int)+size=(first:Int)+(j.length:Int)) from⟨λaQ=>by omega,λaQ=>by omega⟩);have aq:=i (show first+j.length<=120 from by omega);have bt:=i (show(first:Int)+(j.length:Int)=((first:Nat):Int)+(j.length:Int) from by omega)
    have bu:=i (show(first:Int)=((first:Nat):Int) from by omega);clear aC ao H;go_upto_region 17 with fail;by_cases ab:(first:Int)+size>(a.f.S.length:Int)
    all_goals
     (first|(have N:=(k M).1 ab)|(have N:=(k M).2 (by omega)))
     clear M;go_upto_region 19 with fail
     try rw[N]
     clear N ab aL;have Y:=i (dX.start (D:=j) (r:=d) (c:=c) (more:=decide ((first:Int)+(j.length:Int)<(a.f.S.length:Int))) (k t) (k q) (k u));have ax:=i ((k D).mod (k t) (λa=>a));go_upto_region 20 with fail;generalize decide ((first:Int)+(j.length:Int)<(a.f.S.length:Int))=more at *;generalize (r.alloc (v #[C F 0 0,y K d,y K c,y K a.f.ep,W more] 146))=bP at *;generalize r.heap.size=bL at *
     clear t q z u ax b0 ah ai aj bp bq bs d0 d1 d2 d3 d4 ak am A;go_upto_block 1 with fail;refine wp_block ?_
     refine Bl D ar aq (i (by first|rfl|simp)) (i (by first|rfl|simp)) _ Y _ _ _ _ _ _ _ _ _ _ _ _ _ _ _ _ _ _ _ _ _ _ _ _ _ _ _ _ _ _ _ _ _ _ _ _ _ _ _ _ _ _ _ _ _ _ _ _ _ _ _ _ _ _ _ _ _ _ _ _ _ _ _ _ _ _ _ _ _ _ _ _ _ _ _ _ _ _ _ _ _ _ _ _ _ _ _ _ _ _ _ _ _ _ _ _ _ _ _ _ _ _ _ _ _ _ _ _ _ _ _ _ _ _ _ _ _ _ _ _ _ _ _ _ ?_
     intro ch bR bS bT bU bV bW bZ b1 b2 b3 b4 b5 b6 b7 b8 b9 ca cb cc cd ce cf cg bx bz wr n;have I:=(k n).cq;rw[eA] at I;have bM:=I.cell;have bN:=I.lt;have d0:wr.cell? ⟨f.heap.size+1,0,F⟩=E (C F 0 0):=(k n).res.cell 0;have d1:wr.cell? ⟨f.heap.size+1,1,F⟩=E (y K 0):=(k n).res.cell 1;have d2:wr.cell? ⟨f.heap.size+1,2,F⟩=E (y K 0):=(k n).res.cell 2
     have d3:wr.cell? ⟨f.heap.size+1,3,F⟩=E (y K 0):=(k n).res.cell 3;have d4:wr.cell? ⟨f.heap.size+1,4,F⟩=E (W false):=(k n).res.cell 4;have ak:=(k n).res.frozen;have am:=(k n).res.lt;clear I Y;go_wp2;refine bodyPost_ret (by simp[results,results64,go_sem,d0,d1,d2,d3,d4];try rfl) rfl ?_;rw[k s];exact dX.told (k n)
  |true=>
   have hb:bY (a.f.p.at a.f.ep) d c m=(((0:Nat):Int),0):=by rw[k J,if_pos rfl];rfl
   have ao:0<=a.f.S.length:=fJ _;obtain⟨j,H⟩:∃j,j=(a.f.S.drop 0).take size.toNat:=⟨_,rfl⟩;have aC:j.length=min size.toNat (a.f.S.length - 0):=by rw[H,dj,lX]
   have ar:=i (show ∀o (ad:o<j.length),∃hi:0+o<a.f.S.length,a.f.S[0+o]=j[o] from λo ad=>by
    subst H
    have:0+o<a.f.S.length:=by omega
    refine⟨this,?_⟩
    simp only[oy,List.getElem_drop])
   have s:=i (show eP (a.f.p.at a.f.ep) a.f.S d c m size=⟨j,(eE d c j).1,(eE d c j).2,a.f.ep,decide (j.length<a.f.S.length),0⟩ from by
    subst H
    unfold eP
    rw[if_neg (by omega),hb,if_neg (show ¬((0:Int)≠0) by decide),fG.mk.injEq]
    exact⟨rfl,rfl,rfl,rfl,decide_eq_decide.2 (by simp only[Int.toNat_natCast];omega),rfl⟩)
   have aL:K.wrap (size)=size:=ey _ (by omega) (by omega);clear hb J P R;have M:=i (show(size>(a.f.S.length:Int)->(a.f.S.length:Int)=(j.length:Int))/\(¬size>(a.f.S.length:Int)->size=(j.length:Int)) from⟨λaQ=>by omega,λaQ=>by omega⟩);have aq:=i (show 0+j.length<=120 from by omega);have bt:=i (show(j.length:Int)=((0:Nat):Int)+(j.length:Int) from by omega)
   have bu:=i (show(0:Int)=((0:Nat):Int) from by omega);clear aC ao H;go_upto_region 17 with fail;by_cases ab:size>(a.f.S.length:Int)
   all_goals
    (first|(have N:=(k M).1 ab)|(have N:=(k M).2 (by omega)))
    clear M;go_upto_region 19 with fail
    try rw[N]
    clear N ab aL;have Y:=i (dX.start (D:=j) (r:=d) (c:=c) (more:=decide (j.length<a.f.S.length)) (k t) (k q) (k u));have ax:=i ((k D).mod (k t) (λa=>a));go_upto_region 20 with fail;generalize decide (j.length<a.f.S.length)=more at *;generalize (r.alloc (v #[C F 0 0,y K d,y K c,y K a.f.ep,W more] 146))=bP at *;generalize r.heap.size=bL at *
    clear t q z u ax b0 ah ai aj bp bq bs d0 d1 d2 d3 d4 ak am A;go_upto_block 1 with fail;refine wp_block ?_
    refine Bl D ar aq (i (by first|rfl|simp)) (i (by first|rfl|simp)) _ Y _ _ _ _ _ _ _ _ _ _ _ _ _ _ _ _ _ _ _ _ _ _ _ _ _ _ _ _ _ _ _ _ _ _ _ _ _ _ _ _ _ _ _ _ _ _ _ _ _ _ _ _ _ _ _ _ _ _ _ _ _ _ _ _ _ _ _ _ _ _ _ _ _ _ _ _ _ _ _ _ _ _ _ _ _ _ _ _ _ _ _ _ _ _ _ _ _ _ _ _ _ _ _ _ _ _ _ _ _ _ _ _ _ _ _ _ _ _ _ _ _ _ _ _ ?_
    intro ch bR bS bT bU bV bW bZ b1 b2 b3 b4 b5 b6 b7 b8 b9 ca cb cc cd ce cf cg bx bz wr n;have I:=(k n).cq;rw[eA] at I;have bM:=I.cell;have bN:=I.lt;have d0:wr.cell? ⟨f.heap.size+1,0,F⟩=E (C F 0 0):=(k n).res.cell 0;have d1:wr.cell? ⟨f.heap.size+1,1,F⟩=E (y K 0):=(k n).res.cell 1;have d2:wr.cell? ⟨f.heap.size+1,2,F⟩=E (y K 0):=(k n).res.cell 2
    have d3:wr.cell? ⟨f.heap.size+1,3,F⟩=E (y K 0):=(k n).res.cell 3;have d4:wr.cell? ⟨f.heap.size+1,4,F⟩=E (W false):=(k n).res.cell 4;have ak:=(k n).res.frozen;have am:=(k n).res.lt;clear I Y;go_wp2;refine bodyPost_ret (by simp[results,results64,go_sem,d0,d1,d2,d3,d4];try rfl) rfl ?_;rw[k s];exact dX.told (k n)
end Go.Proofs.YthhibagcpjeihaaGreat
