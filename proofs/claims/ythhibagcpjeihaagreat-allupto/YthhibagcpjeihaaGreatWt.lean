import Derived.Test.YthhibagcpjeihaaGreatWr
import Derived.Test.YthhibagcpjeihaaGreatWs
import Derived.Test.YthhibagcpjeihaaGreatWo
open Go.Proofs.Tryz
open Go.Addr renaming mk->u
open Go.Value renaming int->F,pointer->g,slice->C,bool->L,agg->t,tuple->aq,ownBlock->aV
open Go.IntKind renaming i64->K
open Option renaming none->J,some->E
open Go renaming World->U,Value->V
open Go.Proofs.Tryz renaming prog->h
open Go.Ending renaming returned->q
open Go.Obj renaming cells->m
open Go.Act renaming eval->aM,put->bN
set_option linter.unusedVariables false
set_option linter.unusedSimpArgs false
set_option maxRecDepth 100000
set_option maxHeartbeats 8000000
namespace Go.Proofs.YthhibagcpjeihaaGreat
open Go.RowKit
open M
def A8:aK:=⟨8,0,0,0,0,0,0,0,7,⟨0,0,0,0,0,0,0,0⟩⟩
variable {w Q P:Nat} {p S o:U} {j k:Int} {I:Nat->Prop} {W:Nat->Nat} {N:List Nat} {B:List Int} {i:Option Addr} {n:bU}
theorem lC.mb{I:aG}(j:lC w I):∀d b,(I.mb.map λM=>(M.now,M.fl))=E (d,b)->cJ (w:Int) d b:=λd b a=>by
 cases c:I.mb with
 |none=>rw[c] at a;cases a
 |some M=>
  rw[c] at a;injection a with a;injection a with e i;subst e;subst i;exact(j.b.may M c).1
theorem aO.copy{d:Nat->Prop}{I:aG}(e:aO p d w I):Calls h 47 #[g (E (u I.K.tb 0 J))] p λc w'=>∃a:Nat,c=q (g (E (u a 0 J)))/\p.heap.size<=a/\aS w' (λb=>(if p.heap.size<=b/\b<w'.heap.size then 30 else 0)=30) a I.K.T/\G No p w':=by
 refine(QY e.j2).mono ?_;rintro c w' ⟨a,rfl,i,j,k⟩;exact⟨a,rfl,i,j.narrow.wide (λb l=>D l),k⟩
theorem oq{w':U}(a:Nat)(b:(if p.heap.size<=a/\a<w'.heap.size then 30 else 0)=30):p.heap.size<=a/\a<w'.heap.size:=by
 by_cases c:p.heap.size<=a/\a<w'.heap.size
 .exact c
 .rw[f c] at b;cases b
theorem Tt{af:Nat->Prop}{I:aG}(v:aO p af w I)(o:lC Q I):Calls h 46 #[g (E (u w 0 J))] p λa w'=>a=q (aq #[])/\G No p w':=by
 have N:=l v.copy;have e:=o.b;have aC:=e.ch;have aE:=e.most;have aD:=e.fg
 have s:=l (λ(d r:U) (i:Nat) (k:G No p r) (y:aS d (λc=>(if p.heap.size<=c/\c<r.heap.size then 30 else 0)=30) i (uZ I.K.T (-1))) (H:G (λc=>p.heap.size<=c) r d)=>(show Calls h 20 #[g (E (u i 0 J))] d λa w3=>∃n,a=q (aq #[g (E (u n 0 J)),F K 0])/\G No p w3/\
   Calls h 25 #[g (E (u n 0 J)),t (aw A8)] w3 λa M=>∃ad,a=q (F K ad)/\G No p M from by
  obtain⟨ay,ah,ap,ao⟩:=AZ (N:=(Q:Int)) y (λc j=>by have:=(oq c j).2;have:=H.size;omega) (o.yd.fuse (-1)) e.ok o.mb e.ay (by omega) (by omega) (by omega)
  have T:cJ (Q:Int) ay ah:=by
   obtain⟨rfl,rfl⟩|a:=ap
   .exact e.ok
   .exact o.mb _ _ a
  have aI:=k.size
  have aJ:=H.size
  have Y:G No p d:=k.trans' H (λc j X=>by omega)
  refine ao.mono ?_
  rintro a w3 (⟨n,B,aA,A,rfl,aj,S,aB⟩|⟨_,ak,_⟩)
  .obtain⟨⟨aN,aP,ar,au,aK⟩,aL,av⟩:=aj
   have Z:G No p w3:=Y.trans' av (λc j X=>by have:=oq c j;omega)
   refine⟨n,rfl,Z,?_⟩
   have aF:=T.time
   have aH:((A.b B).length:Int)<=I.most+60* I.ch:=S.size
   refine(xO ar (by omega) (A5 (K:=⟨i,B,aA,true,A⟩) T S) (by show(A.b B).length+42<=17592186044416;omega) A8).mono ?_
   rintro a M ⟨rfl,_,am⟩
   exact⟨_,rfl,Z.trans' am (λc j X=>j (by rw[au c (by have:=Y.size;omega),f (λa=>by have:=oq c a;omega)]))⟩
  .exact absurd ak (by show ¬(0:Int)<= -1;omega)))
 have ag:p.cell? (u w 0 J)=E (g (E (u I.K.tb 0 J))):=v.e.T 0;have az:=v.e.lt;clear v o e;go_enter func46,ntmps46;go_wp2_with fail;refine(b N).mono ?_;rintro a r ⟨i,rfl,W,y,k⟩;have O:=l (Ay y (-1) (by omega));have s:=l (λd x ai=>(b s) d r i k x ai);have P:=l W;clear N ag az k y W;go_wp2_with fail;refine(b O).mono ?_;rintro a d ⟨rfl,x,aa⟩
 have R:=l ((b s) d x (aa.mono (λc _ (a:c=i)=>by have:=b P;omega)));clear O s x aa P;go_wp2_with fail;refine(b R).mono ?_;rintro a w3 ⟨n,rfl,ax,hd⟩;have z:=l hd;clear R hd ax;unfold A8 aw at z;go_wp2_with fail;refine(b z).mono ?_;rintro a M ⟨ad,rfl,ab⟩;have ae:=l ab;clear ab z;go_wp2;go_end0;exact⟨rfl,b ae⟩
structure vo (w w':U) (O:Nat->Prop) (ob:Nat) (I:aG):Prop where
 ex:∃I',aO w' (grow O w w') ob I'/\I'.W.now=I.now/\I'.W.fl=I.fl/\I'.kb=I.kb/\I'.now=I.now/\I'.fl=I.fl/\I'.K=I.K/\I'.ch=I.ch/\I'.sh=false/\I'.mb=J/\I.most<=I'.most/\cO I'.W.xs<=I'.most/\(I'.most<=max I.most (cO I'.W.xs))/\I'.tl=I.tl/\(I'.ns=λ_=>[])/\(I'.bs=λ_=>false)
 mod:G O w w'
theorem Tu(a:U)(S:Array V)(c:S=lr (λ_=>C J 0 0) (λ_=>false)):oc (a.alloc (m S 76)) (λb=>if b=a.heap.size then 1 else 0) a.heap.size (λ_=>C J 0 0) (λ_=>[]) (λ_=>false):=by
 subst c;exact⟨X.new a _ _,λe hi=>dx _ _ _ _,λe hi b d=>by simp[aV] at d,D rfl⟩
variable {R:aG}
theorem Ic{w2 w3 w':U}{I':aG}(k:aO w3 (grow I p w2) w R)(s:p.heap.size<=w2.heap.size)(v:w2.heap.size<=w3.heap.size)(d:G (λb=>b=w) w3 w')(o:G I p w3)(r:I w)(n:∀b,I b->b<p.heap.size)(l:X w' w (dO I') 55)(i:I'.kb=R.kb/\I'.okp=R.okp/\I'.om=R.om/\I'.now=R.now/\I'.fl=R.fl/\I'.K=R.K/\I'.tl=R.tl)(e:(I'.W=R.W/\(I'.mb=R.mb\/I'.mb=J))\/(R.mb=E I'.W/\I'.mb=J))(j:I'.owt=R.owt/\I'.tob=R.tob/\I'.vs=R.vs/\I'.ns=R.ns/\I'.bs=R.bs):aO w' (grow I p w') w I'/\G I p w':=by
 have x:=d.size;refine⟨(k.yg d (λb _ c=>c) l (.inl i) e (.inl j)).kt (λb a=>?_) (λb a=>?_),o.trans (d.mono (λb _ (c:b=w)=>by rw[c];exact r))⟩
 .obtain(a|a)|a:=a
  .exact .inl a
  .exact .inr ⟨a.1,by omega⟩
  .exact .inr ⟨by omega,a.2⟩
 .obtain a|a:=a
  .have:=n b a;omega
  .exact a.2
theorem Tv{R:Nat->Prop}{N:Int}{I:aG}(k:aO p R w I)(ao:I.kb=E Q)(hF:cJ N I.now I.fl)(aU:cJ N I.W.now I.W.fl)(a2:cO I.W.xs<=I.most)(aW:(I.W.now=I.now/\I.W.fl=I.fl)\/(∃M,I.mb=E M/\M.now=I.now/\M.fl=I.fl/\Diff I.now I.fl I.W.now I.W.fl)):Calls h 48 #[g (E (u w 0 J))] p λi w'=>i=q (L true)/\vo p w' R w I:=by
 have ax:=k.vn;have aw:=k.lt;have bg:=k.e.lt;have a7:=l k;have ar:G (λa=>a=w) p (((p.setCell (u w 7 J) (L false)).setCell (u w 4 J) (g (E (u p.heap.size 0 J)))).alloc (m (lr (λ_=>C J 0 0) (λ_=>false)) 76)):=(((G.refl _ p).at 7 _).at 4 _).alloc _
 have aX:X (((p.setCell (u w 7 J) (L false)).setCell (u w 4 J) (g (E (u p.heap.size 0 J)))).alloc (m (lr (λ_=>C J 0 0) (λ_=>false)) 76)) w (dO { I with sh:=false,tob:=p.heap.size,owt:=λa=>if a=p.heap.size then 1 else 0,vs:=λ_=>C J 0 0,ns:=λ_=>[],bs:=λ_=>false }) 55:=((k.e.set 7 (L false)).set 4 _).alloc _
 have az:=Tu ((p.setCell (u w 7 J) (L false)).setCell (u w 4 J) (g (E (u p.heap.size 0 J)))) _ rfl;rw[show((p.setCell (u w 7 J) (L false)).setCell (u w 4 J) (g (E (u p.heap.size 0 J)))).heap.size=p.heap.size by simp] at az
 have n:=l (k.yg (I':={ I with sh:=false,tob:=p.heap.size,owt:=λa=>if a=p.heap.size then 1 else 0,vs:=λ_=>C J 0 0,ns:=λ_=>[],bs:=λ_=>false }) ar (λa _ i=>i) aX (.inl ⟨rfl,rfl,rfl,rfl,rfl,rfl,rfl⟩) (.inl ⟨rfl,.inl rfl⟩) (.inr ⟨az,λa o=>by
  have o:(if a=p.heap.size then 1 else 0)≠0:=o
  by_cases e:a=p.heap.size
  .refine⟨by omega,by simp;omega,?_⟩
   by_cases i:I.okp a=0
   .exact i
   .have:=aw a (k.oo a i);omega
  .rw[f e] at o;exact absurd rfl o⟩))
 have ai:=l (ar.mono (S':=R) (λa _ (i:a=w)=>by rw[i];exact ax));have aQ:=l ar.size;have bi:=k.e.aC;have bf:p.cell? (u w 7 J)=E (L I.sh):=k.e.T 7;have bd:p.cell? (u w 4 J)=E (g (E (u I.tob 0 J))):=k.e.T 4;have O:=l hF;have af:=l aU;have Z:=l a2;have P:=l aW;have aI:=l aw;have aK:=l ax;clear k ar aX az hF aU a2 aW aw ax;unfold lr at *;go_enter func48,ntmps48;go_upto_region 3 with fail
 generalize bh:World.alloc _ _=y at *;clear bh bi bg a7 bf bd;have v:y.cell? (u w 3 J)=E (gL (I.mb.map (·.wb))):=(b n).e.T 3;have ad:=(b n).e.lt
 cases B:I.mb with
 |none=>
  rw[B] at v;unfold gL at v;simp only[xF] at v;have x:I.W.now=I.now/\I.W.fl=I.fl:=by
   obtain e|⟨M,e,_⟩:=b P
   .exact e
   .rw[B] at e;cases e
  have Y:=l (show vo p y R w I from⟨⟨_,b n,x.1,x.2,rfl,rfl,rfl,rfl,rfl,rfl,B,rF _,b Z,by show I.most<=max I.most (cO I.W.xs);omega,rfl,rfl,rfl⟩,b ai⟩);clear O af Z P n ai B x;go_wp2;go_ret;exact⟨rfl,b Y⟩
 |some M=>
  rw[B] at v;unfold gL at v;simp only[uN] at v;have r:=l B;clear B;obtain⟨H,ay⟩:∃H:Bool,(H=true/\I.now=I.W.now/\I.fl=I.W.fl)\/(H=false/\Diff I.now I.fl I.W.now I.W.fl):=by
   obtain⟨ae,T⟩|⟨A,_,_,_,e⟩:=b P
   .exact⟨true,.inl ⟨rfl,ae.symm,T.symm⟩⟩
   .exact⟨false,.inr ⟨rfl,e⟩⟩
  have ag:=l ay
  have aF:=l (λ(c:gZ y)=>(show Calls h 74 #[g (E (u Q 0 J)),g (E (u I.W.wb 0 J))] c.W λi w'=>i=q (L H)/\G No c.W w' from by
   have S:=(b n).mod c.h (λ_ _ d=>d)
   obtain⟨⟨aB,o⟩,_⟩:=S.keep.some Q ao
   exact Ib (N:=N) ⟨aB,o.keep⟩ S.bM.bM S.bM.same (b O) (b af) H ay))
  clear ay;have au:∀(c:gZ y),c.W.cell? (u w 1 J)=E (g (E (u Q 0 J))):=λc=>by
   have:=(c.h.e (b n).e (λd=>d)).T 1;rw[this];show E (gL I.kb)=_;rw[ao];rfl
  have a8:∀(c:gZ y),c.W.cell? (u w 2 J)=E (g (E (u I.W.wb 0 J))):=λc=>(c.h.e (b n).e (λd=>d)).T 2;have av:∀(c:gZ y),w<c.W.heap.size:=λc=>(c.h.e (b n).e (λd=>d)).lt;go_upto_region 5 with fail;go_cut [3] from 17 to 25 (λaC aE=>aC=L H/\Hid (G No y aE))
  case first=>
   haveI:=vH y
   refine qG (w0:=y) (by kernel_rfl) (by kernel_rfl) (G.refl _ _) ?_
   repeat (go_big_quiet_step ((go_at_call 74;exact Calls.wd _ ((b aF) _))))
   refine sJ ?_;rintro w3 ⟨⟨_,ab⟩,rfl⟩;have z:=l ab;clear ab;go_wp2;go_meet;exact⟨rfl,z⟩
  case rest=>
   obtain⟨rfl,z⟩:=hcut
   apply_assumption
   have j:=l ((b n).mod (b z) (λ_ _ d=>d));have aR:=l (b z).size;have aj:=l ((b ai).trans ((b z).mono (λ_ _ d=>d.elim)));clear aF au a8 av v ad n z ai;have ad:=(b j).e.lt;have of:=(b j).e.aC;have d3:wc.cell? (u w 3 J)=E (g (E (u M.wb 0 J))):=by
    rw[(b j).e.T 3];show E (gL (I.mb.map (·.wb)))=_;rw[b r];rfl
   cases H with
   |true=>
    have x:I.now=I.W.now/\I.fl=I.W.fl:=by
     obtain⟨_,e⟩|⟨e,_⟩:=b ag
     .exact e
     .cases e
    have aS:=(b j).e.set 3 (g J);obtain⟨a5,a3⟩:=Ic (I':={ I with sh:=false,tob:=p.heap.size,owt:=λa=>if a=p.heap.size then 1 else 0,vs:=λ_=>C J 0 0,ns:=λ_=>[],bs:=λ_=>false,mb:=J }) (b j) (b aQ) (b aR) ((G.refl (λa=>a=w) wc).at 3 (g J)) (b aj) (b aK) (b aI) aS ⟨rfl,rfl,rfl,rfl,rfl,rfl,rfl⟩ (.inl ⟨rfl,.inr rfl⟩) ⟨rfl,rfl,rfl,rfl,rfl⟩
    have Y:=l (show vo p (wc.setCell (u w 3 J) (g J)) R w I from⟨⟨_,a5,x.1.symm,x.2.symm,rfl,rfl,rfl,rfl,rfl,rfl,rfl,rF _,b Z,by show I.most<=max I.most (cO I.W.xs);omega,rfl,rfl,rfl⟩,a3⟩);clear aS a5 a3 O af Z P j aj ag x;go_wp2;go_ret;exact⟨rfl,b Y⟩
   |false=>
    have x:∃A,I.mb=E A/\A.now=I.now/\A.fl=I.fl:=by
     obtain⟨ae,T⟩|⟨A,ae,T,bk,_⟩:=b P
     .obtain⟨e,_⟩|⟨_,e⟩:=b ag
      .cases e
      .obtain e|⟨_,br,_,_,_,e|⟨bu,bp,bv,bq,bl,W,bm⟩⟩:=e
       .exact absurd ae.symm e
       .rw[T] at e;exact absurd e.2 e.1
       .rw[T,bl] at W;injection W with W;injection W with W _;exact absurd (by rw[W]) bm
     .exact⟨A,ae,T,bk⟩
    obtain⟨A,ak,ap,am⟩:=x;rw[b r] at ak;injection ak with ak;subst ak;have aJ:=l (show M.now=I.now/\M.fl=I.fl from⟨ap,am⟩)
    have aH:=l (λ(c:gZ wc)=>(show Calls h 74 #[g (E (u Q 0 J)),g (E (u M.wb 0 J))] c.W λi w'=>i=q (L true)/\G No c.W w' from by
     have S:=(b j).mod c.h (λ_ _ d=>d)
     obtain⟨⟨aB,o⟩,_⟩:=S.keep.some Q ao
     have a0:=S.may M (b r)
     exact Ib (N:=N) ⟨aB,o.keep⟩ a0.bM a0.same (b O) (by rw[ap,am];exact b O) true (.inl ⟨rfl,ap.symm,am.symm⟩)))
    have au:∀(c:gZ wc),c.W.cell? (u w 1 J)=E (g (E (u Q 0 J))):=λc=>by
     have:=(c.h.e (b j).e (λd=>d)).T 1;rw[this];show E (gL I.kb)=_;rw[ao];rfl
    have a9:∀(c:gZ wc),c.W.cell? (u w 3 J)=E (g (E (u M.wb 0 J))):=λc=>by
     have:=(c.h.e (b j).e (λd=>d)).T 3;rw[this];show E (gL (I.mb.map (·.wb)))=_;rw[b r];rfl
    have av:∀(c:gZ wc),w<c.W.heap.size:=λc=>(c.h.e (b j).e (λd=>d)).lt;clear ap am;go_upto_region 7 with fail;go_cut [3] from 26 to 36 (λaC aE=>aC=L true/\Hid (G No wc aE))
    case first=>
     haveI:=vH wc
     refine qG (w0:=wc) (by kernel_rfl) (by kernel_rfl) (G.refl _ _) ?_
     repeat (go_big_quiet_step ((go_at_call 74;exact Calls.wd _ ((b aH) _))))
     refine sJ ?_;rintro w3 ⟨⟨_,ab⟩,rfl⟩;have z:=l ab;clear ab;go_wp2;go_meet;exact⟨rfl,z⟩
    case rest=>
     obtain⟨rfl,ah⟩:=hcut
     apply_assumption
     have s:=l ((b j).mod (b ah) (λ_ _ d=>d));have ba:=l (cC (b aR) (b ah).size);have aP:=l ((b aj).trans ((b ah).mono (λ_ _ d=>d.elim)));clear aH au a9 av j ah aj ad of d3;have bb:wc.cell? (u w 2 J)=E (g (E (u I.W.wb 0 J))):=(b s).e.T 2;have v:wc.cell? (u w 3 J)=E (g (E (u M.wb 0 J))):=by
      rw[(b s).e.T 3];show E (gL (I.mb.map (·.wb)))=_;rw[b r];rfl
     have ad:=(b s).e.lt;have of:=(b s).e.aC;have aA:G (λa=>a=w) wc (wc.setCell (u w 2 J) (g (E (u M.wb 0 J)))):=(G.refl _ wc).at 2 _;have aY:X (wc.setCell (u w 2 J) (g (E (u M.wb 0 J)))) w (dO { I with sh:=false,tob:=p.heap.size,owt:=λa=>if a=p.heap.size then 1 else 0,vs:=λ_=>C J 0 0,ns:=λ_=>[],bs:=λ_=>false,W:=M }) 55:=(b s).e.set 2 (g (E (u M.wb 0 J)))
     have a1:kO (wc.setCell (u w 2 J) (g (E (u M.wb 0 J)))) M:=((b s).may M (b r)).mod aA (λa o (i:a=w)=>by
      obtain⟨bo,bn,_,_,_,_,bc,_⟩:=(b s).ex
      have:=bc M (b r) a o
      rw[i] at this;omega)
     have aL:=l (Gr (I:={ I with sh:=false,tob:=p.heap.size,owt:=λa=>if a=p.heap.size then 1 else 0,vs:=λ_=>C J 0 0,ns:=λ_=>[],bs:=λ_=>false,W:=M }) aY a1 (cO M.xs) rfl);have aN:=l aA;clear aA aY a1;go_wp2_with fail;refine(b aL).mono ?_;rintro i aD ⟨rfl,aa,aZ⟩;have aT:=aa.set 3 (g J);have d3:aD.cell? (u w 3 J)=E (g (E (u M.wb 0 J))):=by
      rw[aa.T 3];show E (gL (I.mb.map (·.wb)))=_;rw[b r];rfl
     have bs:=aa.aC;have bt:=aa.lt;obtain⟨a6,a4⟩:=Ic (I':={ I with sh:=false,tob:=p.heap.size,owt:=λa=>if a=p.heap.size then 1 else 0,vs:=λ_=>C J 0 0,ns:=λ_=>[],bs:=λ_=>false,W:=M,most:=max I.most (cO M.xs),mb:=J }) (b s) (b aQ) (b ba) (((b aN).trans aZ).trans ((G.refl (λa=>a=w) aD).at 3 (g J))) (b aP) (b aK) (b aI) aT ⟨rfl,rfl,rfl,rfl,rfl,rfl,rfl⟩ (.inr ⟨b r,rfl⟩) ⟨rfl,rfl,rfl,rfl,rfl⟩
     have Y:=l (show vo p (aD.setCell (u w 3 J) (g J)) R w I from⟨⟨_,a6,(b aJ).1,(b aJ).2,rfl,rfl,rfl,rfl,rfl,rfl,rfl,by show I.most<=max I.most (cO M.xs);omega,by show cO M.xs<=max I.most (cO M.xs);omega,rF _,rfl,rfl,rfl⟩,a4⟩);clear aa aZ aT a6 a4 aL O af Z P s aP ag aN bb v ad of;go_wp2;go_ret;exact⟨rfl,b Y⟩
structure vp (w w':U) (O:Nat->Prop) (ob n:Nat) (I:aG):Prop where
 ex:∃I',aO w' (grow O w w') ob I'/\dw n I'/\(((∃b,I'.kb=E b)/\(I'.tl=λ_=>J)/\(I'.ns=λ_=>[])/\I'.bs=λ_=>false)\/(I'.kb=J/\0<=I.K.T.fuse))
 mod:G O w w'
theorem Tw{w2 w3 w4:U}{v:Nat->Prop}{e z:Nat}{Y:Bool}{I:aG}{x:aH}{A:aQ}(k:aO p v w I)(ar:lC Q I)(r:G No p w2)(am:p.heap.size<=P)(l:w3=w2.setCell (u w 0 J) (g (E (u P 0 J))))(aa:uV w3 w4 (λa=>if p.heap.size<=a/\a<w2.heap.size then 30 else 0) e P z Y x j A)(n:S=w4.setCell (u w 1 J) (g (E (u e 0 J)))):
  ∃i,aO S (grow v p S) w { I with kb:=E e,okp:=i,om:=λ_=>0,now:=j,fl:=A,K:=⟨P,z,Y,true,x⟩,tl:=λ_=>J }/\G (λa=>a=w) p S:=by
 obtain⟨⟨i,aj,O,T,ag⟩,ap,o⟩:=aa;have ao:=k.e.lt;have au:=r.size;have av:w3.heap.size=w2.heap.size:=by rw[l];simp
 have aw:=o.size;have ax:S.heap.size=w4.heap.size:=by rw[n];simp
 have ah:G (λa=>a=w) p w3:=by
  rw[l];exact(r.mono (λ_ _ s=>s.elim)).at 0 _
 have ai:G (λa=>a=w) p w4:=ah.trans' o (λa b ad=>by have:=oq a b;omega);have W:G (λa=>a=w) w4 S:=by rw[n];exact(G.refl _ _).at 1 _
 have X:=ai.trans W;have M:(if p.heap.size<=w/\w<w2.heap.size then 30 else 0)=0:=f (by omega);have how:i w=0:=by rw[T w (by omega),M];rfl
 have B:=(r.e k.e (λs=>s)).set 0 (g (E (u P 0 J)));rw[<-l] at B;have ab:=o.e B (by rw[M];omega);have H:=ab.set 1 (g (E (u e 0 J)));rw[<-n] at H;have R:=O.mod W (λa b (c:a=w)=>by rw[c] at b;exact b how);refine⟨i,k.yg X (λa _ c=>c) H (.inr ⟨⟨λZ d=>?_,λae=>by cases ae⟩,λa b=>?_,λ_=>rfl⟩) (.inl ⟨rfl,.inl rfl⟩) (.inl ⟨rfl,rfl,rfl,rfl,rfl⟩),X⟩
 .have d:E e=E Z:=d;injection d with d;subst d;refine⟨⟨aj,R⟩,⟨λN hi _=>?_,λN hi ak af=>(by cases af),λa b=>absurd rfl b⟩⟩;rw[R.keep.e.T,lN _ _ N hi,ag _ (by omega) (by omega)]
 .have ad:=O.keep.bg a b;refine⟨?_,by omega⟩;by_cases c:a<w3.heap.size
  .have b:i a≠0:=b;rw[T a c] at b;by_cases y:p.heap.size<=a/\a<w2.heap.size
   .exact y.1
   .exact absurd (by rw[f y];rfl) b
  .omega
theorem dw.found{G:Nat->Prop}{I I':aG}{n x:Nat}{o:Bool}{c:aH}{e:aQ}(l:lC Q I)(hF:cJ (Q:Int) j e)(T:R={ I with kb:=E P,okp:=W,om:=λ_=>0,now:=j,fl:=e,K:=⟨x,n,o,true,c⟩,tl:=λ_=>J })(y:dW c n o j e (I.most+60* I.ch))(X:c.ay=I.K.T.ay)(B:aO p G w I')(H:I'.W.now=R.now/\I'.W.fl=R.fl/\I'.kb=R.kb/\I'.now=R.now/\I'.fl=R.fl/\I'.K=R.K/\I'.ch=R.ch/\I'.sh=false/\I'.mb=J/\R.most<=I'.most/\cO I'.W.xs<=I'.most/\(I'.most<=max R.most (cO I'.W.xs))):dw Q I':=by
 subst T;obtain⟨N,i,O,d,a,b,k,S,v,r,Z,s⟩:=H;have d:I'.now=j:=d;have a:I'.fl=e:=a;have b:I'.K=⟨x,n,o,true,c⟩:=b;have k:I'.ch=I.ch:=k;have r:I.most<=I'.most:=r;have s:I'.most<=max I.most (cO I'.W.xs):=s;have ab:=zK B.bM.bM;have Y:=B.bM.same.weight;have aa:=l.b.most;have i:I'.W.fl=e:=i;rw[i] at Y
 refine⟨⟨⟨by rw[d];exact N,by rw[a];exact i⟩,by rw[d,a];exact hF,λM z=>(by rw[v] at z;cases z),by rw[a];omega,by rw[k];exact l.b.ch,by rw[b];show ¬c.ay<200;rw[X];exact l.b.ay,l.b.fg,by rw[b];exact y.jz⟩,λ_=>⟨⟨P,O⟩,S,v,?_⟩,λA=>?_⟩
 .rw[b,d,a,k];exact y.more (by omega)
 .rw[b] at A;cases A
theorem vq{z:Nat->Prop}{I:aG}(ak:aO p z w I)(az:lC Q I)(may:Bool)(aL:may=true\/I.K.T.fuse<0):Calls h 24 #[g (E (u w 0 J)),L may] p λd w'=>d=q (L true)/\vp p w' z w Q I:=by
 have aE:=l (Tt ak az);have N:=l ak;have e:=l az;have a5:=l aL;clear ak az aL;go_enter func24,ntmps24;go_wp2_with fail;refine(b aE).mono ?_;rintro d i ⟨rfl,ax⟩;have k:=l ((b N).mod ax (λ_ _ v=>v));have Y:=l ax;have aA:=l (b k).copy;have a7:i.cell? (u w 0 J)=E (g (E (u I.K.tb 0 J))):=(b k).e.T 0;have bv:=(b k).e.lt;have of:=(b k).e.aC;clear ax aE;go_wp2_with fail;refine(b aA).mono ?_
 rintro d j ⟨n,rfl,ar,aQ,ay⟩;have bq:=(b k).e.lt;have S:=ay.e (b k).e (λv=>v);have bt:=S.aC;have bw:=S.lt;have d0:j.cell? (u w 0 J)=E (g (E (u I.K.tb 0 J))):=S.T 0;have aD:=l ar;have ag:=l ay
 have aR:aS (j.setCell (u w 0 J) (g (E (u n 0 J)))) (λa=>(if i.heap.size<=a/\a<j.heap.size then 30 else 0)=30) n I.K.T:=aQ.mod (S':=λa=>a=w) ((G.refl _ j).at 0 _) (λa c d=>by
  have:=oq a c
  have d:a=w:=d
  omega)
 have x:=(b e).b;obtain⟨W,O,aU,aP⟩:=AZ (N:=(Q:Int)) aR (λa c=>by have:=(oq a c).2;simp;omega) (b e).yd x.ok (b e).mb x.ay (by have:=x.most;have:=x.ch;have:=x.fg;omega) (by have:=x.ch;omega) (by have:=x.fg;omega);have af:=l aP;have X:=l aU;have H:=l (S.set 0 (g (E (u n 0 J))));have ah:(j.setCell (u w 0 J) (g (E (u n 0 J)))).cell? (u w 0 J)=E (g (E (u n 0 J))):=by
  rw[(b H).T];rfl
 clear aP aU aQ aR S ar ay aA a7 bv of bq x;go_upto_region 3 with fail;obtain⟨w3,am⟩:∃w3,w3=j.setCell (u w 0 J) (g (E (u n 0 J))):=⟨_,rfl⟩;rw[<-am] at af H ah ⊢;have ae:=l am;have aZ:=(b H).lt;clear am bt bw d0;go_wp2_with fail;refine(b af).mono ?_;clear af;rintro d s (⟨ad,bm,bA,A,rfl,ap,P,R⟩|⟨rfl,aK,A,aH,aJ,P,R,ab⟩)
 .have ao:cJ (Q:Int) W O:=by
   obtain⟨rfl,rfl⟩|d:=b X
   .exact(b e).b.ok
   .exact(b e).mb _ _ d
  obtain⟨bz,a2,T⟩:=Tw (b k) (b e) (b ag) (b aD) (b ae) ap rfl;have aI:(I.W.now=W/\I.W.fl=O)\/(∃M,I.mb=E M/\M.now=W/\M.fl=O/\Diff W O I.W.now I.W.fl):=by
   obtain⟨a0,a1⟩:=(b e).b.same;obtain⟨rfl,rfl⟩|d:=b X
   .exact .inl ⟨a0,a1⟩
   .cases aw:I.mb with
    |none=>rw[aw] at d;cases d
    |some M=>
     rw[aw] at d;injection d with d;injection d with ai aj;subst ai;subst aj;obtain⟨_,bF,bo⟩:=(b e).b.may M aw;exact .inr ⟨M,rfl,rfl,rfl,by rw[a0,a1];exact Si (b e).b.ok bo⟩
  have aW:cO I.W.xs<=I.most:=by
   rw[(b k).bM.same.weight,(b e).b.same.2];exact(b e).b.most.1
  have aC:=l (Tv (N:=(Q:Int)) a2 rfl ao (by rw[(b e).b.same.1,(b e).b.same.2];exact(b e).b.ok) aW aI);have aN:(G (λa=>(if i.heap.size<=a/\a<j.heap.size then 30 else 0)=30) w3 s):=ap.mod;have r:=aN.e (b H) (λd=>by have:=oq w d;have:=(b k).e.lt;omega);have bu:=r.aC;have bx:=r.lt;have d1:s.cell? (u w 1 J)=E (gL I.kb):=r.T 1
  have y:=l (λ(o:U) (Z:vo (s.setCell (u w 1 J) (g (E (u ad 0 J)))) o (grow z i (s.setCell (u w 1 J) (g (E (u ad 0 J))))) w { I with kb:=E ad,okp:=bz,om:=λ_=>0,now:=W,fl:=O,K:=⟨n,bm,bA,true,A⟩,tl:=λ_=>J })=>(show vp p o z w Q I from by
   obtain⟨⟨a6,a3,ai,aj,aF,bf,bg,bh,bi,bk,bl,a8,a9,ba,bb,bc,bd⟩,aY⟩:=Z
   have bC:=(b Y).size
   have bM:=T.size
   have a4:=aY.size
   have av:=(b N).lt
   refine⟨⟨a6,a3.kt (λa c=>?_) (λa c=>?_),dw.found (b e) ao rfl P R a3 ⟨ai,aj,aF,bf,bg,bh,bi,bk,bl,a8,a9,ba⟩,.inl ⟨⟨ad,aF⟩,bb,bc,bd⟩⟩,?_⟩
   .obtain(c|c)|c:=c
    .exact .inl c
    .exact .inr ⟨by omega,by omega⟩
    .exact .inr ⟨by omega,c.2⟩
   .obtain c|c:=c
    .have:=av a c;omega
    .exact c.2
   .refine(((b Y).mono (λ_ _ v=>v.elim)).trans (T.mono (S':=z) (λa _ (d:a=w)=>by rw[d];exact(b N).vn))).trans' aY (λa c aa=>?_)
    obtain c|c:=c
    .exact c
    .omega))
  clear aI aW a2 T ap P R ao aN r X ah aZ;go_wp2_with fail;refine(b aC).mono ?_;rintro d o ⟨rfl,Z⟩;have y:=l ((b y) o Z);clear Z aC;go_wp2;go_ret;exact⟨rfl,b y⟩
 .obtain rfl:may=true:=by
   obtain d|d:=b a5
   .exact d
   .omega
  have r:=ab.e (b H) (λd=>by have:=oq w d;have:=(b k).e.lt;omega);have bu:=r.aC;have bx:=r.lt;have d1:s.cell? (u w 1 J)=E (gL I.kb):=r.T 1;have au:=r.set 1 (g J)
  have aT:aS (s.setCell (u w 1 J) (g J)) (λa=>(if i.heap.size<=a/\a<j.heap.size then 30 else 0)=30) n A:=aH.mod (S':=λa=>a=w) ((G.refl _ s).at 1 _) (λa c d=>by
   have:=oq a c
   have d:a=w:=d
   have:=(b k).e.lt
   omega)
  have aB:=l (xL (tb:=n) au (by rfl) aT aJ)
  have y:=l (λ(o:U) (t6:aS o (λa=>(if i.heap.size<=a/\a<j.heap.size then 30 else 0)=30) n A) (B:G (· =n) (s.setCell (u w 1 J) (g J)) o)=>(show vp p o z w Q I from by
   have bC:=(b Y).size
   have bL:=(b ag).size
   have bH:=(b k).e.lt
   have ar:=b aD
   have bI:w3.heap.size=j.heap.size:=by rw[b ae];simp
   have bJ:=ab.size
   have br:G (λa=>a=w) i w3:=by
    rw[b ae]
    exact((b ag).mono (λ_ _ v=>v.elim)).at 0 _
   have bs:G (λa=>a=w) i s:=br.trans' ab (λa c aa=>by have:=oq a c;omega)
   have T:G (λa=>a=w) i (s.setCell (u w 1 J) (g J)):=bs.at 1 _
   have aX:G (λa=>a=w) i o:=T.trans' B (λa (c:a=n) aa=>by omega)
   have bp:=B.e au (by omega)
   have a4:=B.size
   simp only[ny] at a4
   have bB:=(b k).yg (I':={ I with kb:=J,okp:=λa=>if i.heap.size<=a/\a<j.heap.size then 30 else 0,om:=λ_=>0,K:=⟨n,I.K.file,I.K.torn,false,A⟩,tl:=λ_=>J }) aX (λa _ d=>d) bp (.inr ⟨⟨λbE bn=>(by cases bn),λ_=>⟨t6,λa c=>?_⟩⟩,λa c=>?_,λ_=>rfl⟩) (.inl ⟨rfl,.inl rfl⟩) (.inl ⟨rfl,rfl,rfl,rfl,rfl⟩)
   rotate_left
   .have c:(if i.heap.size<=a/\a<j.heap.size then 30 else 0)≠0:=c
    by_cases d:i.heap.size<=a/\a<j.heap.size
    .omega
    .rw[f d] at c;exact absurd rfl c
   .have c:(if i.heap.size<=a/\a<j.heap.size then 30 else 0)≠0:=c
    by_cases d:i.heap.size<=a/\a<j.heap.size
    .omega
    .rw[f d] at c;exact absurd rfl c
   have av:=(b N).lt
   refine⟨⟨_,bB.kt (λa c=>?_) (λa c=>?_),⟨⟨(b e).b.same,(b e).b.ok,(b e).b.may,(b e).b.most,(b e).b.ch,by show ¬A.ay<200;rw[R];exact(b e).b.ay,(b e).b.fg,(b e).b.file⟩,λaa=>(by cases aa),λ_=>⟨P,.inl rfl⟩⟩,.inr ⟨rfl,aK⟩⟩,?_⟩
   .obtain c|c:=c
    .exact .inl c
    .exact .inr ⟨by omega,c.2⟩
   .obtain c|c:=c
    .have:=av a c;omega
    .exact c.2
   .exact((b Y).mono (λ_ _ v=>v.elim)).trans (aX.mono (S':=z) (λa _ (d:a=w)=>by rw[d];exact(b N).vn))))
  clear r au aT aH P R aJ aK ab X ah aZ;go_wp2_with fail;refine(b aB).mono ?_;rintro d o ⟨rfl,t6,B⟩;have y:=l ((b y) o t6 B);clear t6 B aB;go_wp2;go_ret;exact⟨rfl,b y⟩
def ot(I:aG)(a:List Int)(sp:Int):aG:={ I with K:={ I.K with T:=kp I.K.T a sp } }
def rK(I:aG)(a:Int):aG:={ I with K:={ I.K with T:=uZ I.K.T a } }
theorem lC.oh{I:aG}(a:lC w I)(d:∀b,b<4->I.K.T.last b<=(I.K.T.b b).length)(c:List Int)(sp:Int):lC w (ot I c sp):=
 ⟨⟨a.b.same,a.b.ok,a.b.may,a.b.most,a.b.ch,a.b.ay,a.b.fg,a.b.file⟩,a.yd.oh a.b.ok d c sp⟩
theorem lC.fuse{I:aG}(a:lC w I)(b:Int):lC w (rK I b):=
 ⟨⟨a.b.same,a.b.ok,a.b.may,a.b.most,a.b.ch,a.b.ay,a.b.fg,a.b.file⟩,a.yd.fuse b⟩
theorem dw.fuse{I:aG}(a:dw w I)(e:Int):dw w (rK I e):=
 ⟨⟨a.b.same,a.b.ok,a.b.may,a.b.most,a.b.ch,a.b.ay,a.b.fg,a.b.file⟩,λd=>by
  obtain⟨b,c,i,j⟩:=a.live d
  exact⟨b,c,i,j.fuse e⟩,λd=>by
  obtain⟨b,c⟩:=a.dead d
  exact⟨b.fuse e,c⟩⟩
theorem aO.oh{i:Nat->Prop}{I:aG}(j:aO p i w I)(a:List Int)(e:Nat)(d:Option Addr)(sp:Int)(s:a.length<=9223372036854775807)(v:Reads p (C d a.length e) a.length (a.map (F K)))(r:0<a.length->∀b,(C d a.length e).ownBlock=E b->¬i b):Calls h 23 #[g (E (u I.K.tb 0 J)),C d a.length e,.int .u8 sp] p λc w'=>c=q (aq #[])/\aO w' i w (ot I a sp)/\G (λb=>I.okp b=30) p w':=by
 refine(QX j.j2 a e d sp s v (λl b o c=>r l b o (j.oo b (by have c:I.okp b=30:=c;omega)))).mono ?_;rintro c w' ⟨rfl,n,k⟩;exact⟨rfl,j.tu n k,k⟩
theorem aO.fuse{e:Nat->Prop}{I:aG}(d:aO p e w I)(b:Int)(n: -9223372036854775808<=b/\b<=9223372036854775807):Calls h 19 #[g (E (u I.K.tb 0 J)),F K b] p λc w'=>c=q (aq #[])/\aO w' e w (rK I b)/\G (λa=>I.okp a=30) p w':=by
 have l:I.okp I.K.tb=30:=d.j2.dq;refine(Ay d.j2 b n).mono ?_;rintro c w' ⟨rfl,j,k⟩;have i:G (λa=>I.okp a=30) p w':=k.mono (λa _ (c:a=I.K.tb)=>by rw[c];exact l);exact⟨rfl,d.tu j i,i⟩
def Ie(I I':aG):Prop:=(I'.kb=I.kb/\I'.tl=I.tl/\I'.ns=I.ns/\I'.bs=I.bs)\/((I'.tl=λ_=>J)/\(I'.ns=λ_=>[])/\I'.bs=λ_=>false)\/I'.kb=J
structure yh (w w':U) (O:Nat->Prop) (ob n:Nat) (I:aG):Prop where
 ex:∃I',aO w' (grow O w w') ob I'/\dw n I'/\Ie I I'
 mod:G O w w'
theorem vp.A9{w2 w':U}{d:Nat->Prop}{I:aG}(l:vp w2 w' d w Q R)(e:G d p w2)(k:∀c,d c->c<p.heap.size):yh p w' d w Q I:=by
 obtain⟨⟨j,o,n,b⟩,i⟩:=l;have r:=e.size;have s:=i.size;refine⟨⟨j,o.kt (λc a=>?_) (λc a=>?_),n,?_⟩,e.trans i⟩
 .obtain a|a:=a
  .exact .inl a
  .exact .inr ⟨by omega,a.2⟩
 .obtain a|a:=a
  .have:=k c a;omega
  .exact a.2
 .obtain b|b:=b
  .exact .inr (.inl b.2)
  .exact .inr (.inr b.1)
theorem Tx{c:Nat->Prop}{I:aG}{S:Array V}{aF sp:Int}(T:aO p c w I)(Y:dw Q I)(hS:ly S j k aF)(aW: -9223372036854775808<=k/\k<=9223372036854775807)(a:j=10\/j=11\/j=12\/j=13)(aS:S[23]? =E (C i B.length P))(aT:S[24]? =E (.int .u8 sp))(aY:B.length<=9223372036854775807)(aZ:Reads p (C i B.length P) B.length (B.map (F K)))(aX:0<B.length->∀j,(C i B.length P).ownBlock=E j->¬c j):
  Calls h 14 #[g (E (u w 0 J)),t S] p λe w'=>e=q (L true)/\yh p w' c w Q I:=by
 have aI:=T.lt;have aU:=λao (hi:ao<4)=>(T.j2.last ao hi).1;have a1:∀d,G No p d->Reads d (C i B.length P) B.length (B.map (F K)):=λd x=>by
  obtain a|⟨bg,aF,e,a⟩:=aZ
  .exact .inl a
  .exact .inr ⟨bg,aF,e,λbl bo hu=>eG x (a bl bo hu)⟩
 have O:=l λd (x:G No p d)=>T.mod x (λ_ _ A=>A);have ad:=l λd (x:G No p d)=>((b O) d x).oh B P i sp aY (a1 d x) aX;have M:=l (show ∀j,I.okp j=30->c j from λj a=>T.oo j (by omega));have Z:=X.new p S 45;have ah:=l Z;have aL:=l hS.fU;have aA:G No p (p.alloc (m S 45)):=(G.refl No p).alloc _;have aE:=(Z.T 0).trans hS.fL;have ag:=(Z.T 2).trans hS.fU;have av:=(Z.T 23).trans aS;have aw:=(Z.T 24).trans aT
 have aR:=Z.lt;have aJ:=(b O) _ aA;have R:(p.alloc (m S 45)).cell? (u w 0 J)=E (g (E (u I.K.tb 0 J))):=aJ.e.T 0;have a6:=aJ.e.lt;have ak:=l aI;have N:=l Y;have ae:=l aU;have H:=l aA;have bc:=l (show I.okp p.heap.size≠30 from λe=>by have:=aI _ (T.oo p.heap.size (by omega));omega);clear T Y hS aS aT aY aZ aX aI aU a1 Z aJ aA;obtain rfl|rfl|rfl|rfl:=a
 .have aj:=l λd (x:G No p d)=>((b O) d x).fuse k aW;clear ad av aw;go_enter func14,ntmps14;go_upto_region 3 with fail;generalize am:p.alloc (m S 45)=a8 at *;clear am;go_cut [] (λr=>Hid (aO r c w (rK I k)/\G c p r))
  case first=>
   go_region_law (refine fP rfl 19 _ _ rfl #[g (E (u I.K.tb 0 J)),F K k] (by simp[aM,bN]) (λd=>by kernel_rfl) (aq #[]) _ ((b aj) _ (b H).drew) ?_;intro o n;have aa:=l (show aO o c w (rK I k)/\G c p o from⟨n.1,((b H).drew.mono (λ_ _ A=>A.elim)).trans (n.2.mono (λj _ e=>(b M) j e))⟩);clear n)
   all_goals go_wp2
   all_goals go_meet
   all_goals exact aa
  case rest=>
   obtain⟨v,z⟩:=b hcut
   apply_assumption
   have y:=l (show yh p wc c w Q I from⟨⟨_,v.kt (λj a=>.inl a) (λj a=>by
    obtain a|a:=a
    .have:=(b ak) j a;have:=z.size;omega
    .exact a.2),(b N).fuse k,.inl ⟨rfl,rfl,rfl,rfl⟩⟩,z⟩)
   clear v z hcut aj O M R aE ag N ae ah;go_wp2;go_ret;exact⟨rfl,b y⟩
 .go_enter func14,ntmps14;go_upto_region 6 with fail;generalize am:p.alloc (m S 45)=a8 at *;clear am;go_cut [] (λr=>Hid (aO r c w (ot I B sp)/\G c p r))
  case first=>
   go_region_law (refine fP rfl 23 _ _ rfl #[g (E (u I.K.tb 0 J)),C i B.length P,.int .u8 sp] (by simp[aM,bN]) (λd=>by kernel_rfl) (aq #[]) _ ((b ad) _ (b H).drew) ?_;intro o n;have aa:=l (show aO o c w (ot I B sp)/\G c p o from⟨n.1,((b H).drew.mono (λ_ _ A=>A.elim)).trans (n.2.mono (λj _ e=>(b M) j e))⟩);clear n)
   all_goals go_wp2
   all_goals go_meet
   all_goals exact aa
  case rest=>
   obtain⟨v,z⟩:=b hcut
   apply_assumption
   have s:=l (vq v ((b N).vm.oh (b ae) B sp) false (.inr (by show(-1:Int)<0;decide)));have ar:=l z;clear v z hcut ad O M R aE ag av aw N ae ah;go_wp2_with fail;refine(b s).mono ?_;rintro e bp ⟨rfl,W⟩;have y:=l (W.A9 (I:=I) (b ar) (b ak));clear W s;go_wp2;go_ret;exact⟨rfl,b y⟩
 .have s:=l (vq ((b O) _ (b H)) (b N).vm true (.inl rfl));clear ad O M R ag av aw N ae ah;go_enter func14,ntmps14;go_wp2_with fail;refine(b s).mono ?_;rintro e bp ⟨rfl,W⟩;have y:=l (W.A9 (I:=I) ((b H).mono (λ_ _ A=>A.elim)) (b ak));clear W s;go_wp2;go_ret;exact⟨rfl,b y⟩
 .have aQ:=l λd=>Gg k 12 aW (by omega) d;have bt:=Bc k 12 (by omega);go_enter func14,ntmps14;go_upto_region 10 with fail;generalize am:p.alloc (m S 45)=a8 at *;clear am;go_cut [] (λr=>Hid (aO r c w (ot I B sp)/\G c p r/\X r p.heap.size S 45))
  case first=>
   go_region_law (refine fP rfl 23 _ _ rfl #[g (E (u I.K.tb 0 J)),C i B.length P,.int .u8 sp] (by simp[aM,bN]) (λd=>by kernel_rfl) (aq #[]) _ ((b ad) _ (b H).drew) ?_;intro o n;have aa:=l (show aO o c w (ot I B sp)/\G c p o/\X o p.heap.size S 45 from⟨n.1,((b H).drew.mono (λ_ _ A=>A.elim)).trans (n.2.mono (λj _ e=>(b M) j e)),n.2.e (b ah).drew (b bc)⟩);clear n)
   all_goals go_wp2
   all_goals go_meet
   all_goals exact aa
  case rest=>
   obtain⟨v,z,ax⟩:=b hcut
   apply_assumption
   have bf:=l v;have ar:=l z;have bb:=l ax;have aj:=l λd (x:G No wc d)=>(v.mod x (λ_ _ bs=>bs)).fuse (kz k 12) (by omega);clear R aE ag av aw aR a6;have R:wc.cell? (u w 0 J)=E (g (E (u I.K.tb 0 J))):=v.e.T 0;have a6:=v.e.lt;have ag:wc.cell? (u p.heap.size 2 J)=E (F K k):=(ax.T 2).trans (b aL);have aR:=ax.lt;clear v z ax hcut;go_upto_region 11 with fail
   go_cut [] (λr=>Hid (aO r c w (rK (ot I B sp) (kz k 12))/\G c p r))
   case first=>
    go_region_law (first
     |(refine fP rfl 13 _ _ rfl #[F K k,F K 12] (by simp[aM,bN]) (λd=>by kernel_rfl) (F K (kz k 12)) _ ((b aQ) _) ?_;intro o bk;subst bk)
     |(refine fP rfl 19 _ _ rfl #[g (E (u I.K.tb 0 J)),F K (kz k 12)] (by simp[aM,bN]) (λd=>by kernel_rfl) (aq #[]) _ ((b aj) _ (G.refl No wc).drew) ?_;intro o n;have aa:=l (show aO o c w (rK (ot I B sp) (kz k 12))/\G c p o from⟨n.1,(b ar).drew.trans (n.2.mono (λj _ e=>(b M) j e))⟩);clear n))
    all_goals go_wp2
    all_goals go_meet
    all_goals exact aa
   case rest=>
    obtain⟨a9,a2⟩:=b hcut
    apply_assumption
    have s:=l (vq a9 (((b N).vm.oh (b ae) B sp).fuse (kz k 12)) true (.inl rfl));have aB:=l a2;clear a9 a2 hcut aj ad O M R ag N ae ah bf ar bb aQ aL;go_wp2_with fail;refine(b s).mono ?_;rintro e aK ⟨rfl,W⟩;have az:=l W;obtain⟨⟨ap,ay,a7,f7⟩,a4⟩:=W;have af:=l ay;have aD:=l a7;have au:=l a4;have ab:aK.cell? (u w 1 J)=E (gL ap.kb):=ay.e.T 1;have bm:=ay.e.lt;clear ay a7 f7 a4 s
    cases aH:ap.kb with
    |some bu=>
     rw[aH] at ab;unfold gL at ab;simp only[uN] at ab;have y:=l ((b az).A9 (I:=I) (b aB) (b ak));clear az af aD au;go_wp2;go_ret;exact⟨rfl,b y⟩
    |none=>
     rw[aH] at ab;unfold gL at ab;simp only[xF] at ab;have R:aK.cell? (u w 0 J)=E (g (E (u ap.K.tb 0 J))):=(b af).e.T 0;have ai:=(b af).oh [] 0 J 0 (by simp) (.inl ⟨rfl,rfl⟩) (λT=>by simp at T);simp only[iR] at ai;have ai:=l ai;have aP:=l λao (hi:ao<4)=>((b af).j2.last ao hi).1;have aN:=l (show ∀j,ap.okp j=30->grow c wc aK j from λj a=>(b af).oo j (by omega));clear az aH;go_wp2_with fail
     refine(b ai).mono ?_;rintro e bv ⟨rfl,ba,a3⟩;have s:=l (vq ba ((b aD).vm.oh (b aP) [] 0) false (.inr (by show(-1:Int)<0;decide)));have aC:=l a3;clear ba a3 ai R ab bm aP;go_wp2_with fail;refine(b s).mono ?_;rintro e bq ⟨rfl,a0⟩
     have y:=l (show yh p bq c w Q I from by
      obtain⟨⟨bd,br,bn,f9⟩,a5⟩:=a0
      have bw:=(b aB).size
      have bx:=(b au).size
      have bz:=(b aC).size
      have bA:=a5.size
      have bh:=b ak
      refine⟨⟨bd,br.kt (λj a=>?_) (λj a=>?_),bn,?_⟩,(((b aB).trans (b au)).trans' (b aC) (λj a bi=>?_)).trans' a5 (λj a bi=>?_)⟩
      .obtain(a|a)|a:=a
       .exact .inl a
       .exact .inr ⟨by omega,by omega⟩
       .exact .inr ⟨by omega,a.2⟩
      .obtain a|a:=a
       .have:=bh j a;omega
       .exact a.2
      .obtain f9|f9:=f9
       .exact .inr (.inl f9.2)
       .exact .inr (.inr f9.1)
      .obtain Y|Y:=(b aN) j a
       .exact Y
       .omega
      .obtain Y|Y:=a
       .exact Y
       .omega)
     clear a0 s af aD au aC aN;go_wp2;go_ret;exact⟨rfl,b y⟩
theorem me.back{w':U}{a:aG}{R:gT}{lv b c:V}(j:me S w' I w Q a R lv b c N)(d:G No p S):me p w' I w Q a R lv b c N:=by
 obtain⟨⟨e,v,k,l,n⟩,o,r⟩:=j;have:=d.size;exact⟨⟨e,v,k,l,λi s=>(n i s).imp id (λy=>by omega)⟩,o,(d.mono (λ_ _ x=>x.elim)).trans r⟩
structure qv (w:U) (F:Nat->Prop) (yb ob:Nat) (I:mT) (J:aG) (lv av bv:V) (la:List Nat):Prop where
 ask:pr w ob I
 one:X w ob (dO J) 55
 jA:X w yb #[lv,av,bv] 34
 book:gX w F av la
 Ig:F yb
 p8:F ob
 lt:∀k,F k->k<w.heap.size
 len:la.length<=1099511627776
theorem qv.mod{w w':U}{d:Nat->Prop}{I:mT}{lv e i:V}(b:qv w d Q P I R lv e i N)(c:G No w w'):qv w' d Q P I R lv e i N:=
 ⟨b.ask.mod c (λ_ a _=>a),c.e b.one (λa=>a),c.e b.jA (λa=>a),b.book.mod (c.mono (λ_ _ a=>a.elim)) (λ_ _ a=>a),b.Ig,b.p8,λk j=>bj (b.lt k j) c.size,b.len⟩
theorem qv.dv{i:Nat->Prop}{I:mT}{lv j k:V}(a:qv p i w Q I R lv j k N)(d e b c size:Int):Calls h 38 #[g (E (u w 0 J)),g (E (u Q 0 J)),F K d,t #[F K e,F K b,F K c],F K size] p λl w'=>l=q (L true)/\me p w' i w Q R (kn I.fl d e b c size) lv j k N:=
 Ts (n:=d) (r:=e) (c:=b) (e:=c) (size:=size) a.ask a.one a.jA a.book a.Ig a.p8 a.lt a.len
theorem Ty{n:Nat->Prop}{I:mT}{lv o r:V}(s:qv p n w Q I R lv o r N){S:Array V}{i d e:Int}(hS:ly S 6 j k)(v:S[20]? =E (F K i))(x:S[21]? =E (F K d))(y:S[22]? =E (F K e)):Calls h 17 #[g (E (u w 0 J)),g (E (u Q 0 J)),t S] p λH w'=>H=q (L true)/\me p w' n w Q R (kn I.fl j i d e k) lv o r N:=by
 have c:=(G.refl No p).alloc (m S 45);have a:=X.new p S 45;have M:=(a.T 0).trans hS.fL;have O:=(a.T 2).trans hS.fU;have Y:=(a.T 3).trans hS.c3;have P:=(a.T 20).trans v;have T:=(a.T 21).trans x;have W:=(a.T 22).trans y;have B:=a.lt;have CALL:=l ((s.mod c).dv j i d e k);have A:=l c;clear s hS v x y c a;go_enter func17,ntmps17;go_wp2_with fail;refine(b CALL).mono ?_;rintro Z aa ⟨rfl,hd⟩
 have z:=l (hd.back (b A));clear hd CALL M O Y P T W B;go_wp2;go_ret;exact⟨rfl,b z⟩
theorem Tz{e:Nat->Prop}{I:mT}{lv i n:V}(o:qv p e w Q I R lv i n N){S:Array V}(hS:ly S 7 j k):Calls h 17 #[g (E (u w 0 J)),g (E (u Q 0 J)),t S] p λy w'=>y=q (L true)/\me p w' e w Q R (kn I.fl j R.n0 R.n1 R.n2 k) lv i n N:=by
 have d:=(G.refl No p).alloc (m S 45);have c:=X.new p S 45;have z:=(c.T 0).trans hS.fL;have A:=(c.T 2).trans hS.fU;have B:=(c.T 3).trans hS.c3;have x:=c.lt;have a:=o.mod d;have M:(p.alloc (m S 45)).cell? (u Q 8 J)=E (F K R.n0):=a.one.T 8;have O:(p.alloc (m S 45)).cell? (u Q 9 J)=E (F K R.n1):=a.one.T 9;have H:(p.alloc (m S 45)).cell? (u Q 10 J)=E (F K R.n2):=a.one.T 10;have P:=a.one.lt
 have CALL:=l ((a.mod (G.refl No _).drew).dv j R.n0 R.n1 R.n2 k);have v:=l d.drew;clear o hS d c a;go_enter func17,ntmps17;go_upto_region 16 with fail;generalize p.alloc (m S 45)=Z at *;generalize p.heap.size=Y at *
 go_region_law (refine fP rfl 38 _ _ rfl #[g (E (u w 0 J)),g (E (u Q 0 J)),F K j,t #[F K R.n0,F K R.n1,F K R.n2],F K k] (by simp[aM,bN]) (λT=>by kernel_rfl) (L true) _ (b CALL) ?_;intro W r;have s:=l (r.back (b v));clear r)
 all_goals clear z A B x M O H P CALL
 all_goals go_wp2
 all_goals go_ret
 all_goals exact⟨rfl,b s⟩
def rL(c e:V)(d:Nat):U->(Nat->Prop)->Prop:=λk b=>∃i j,i.length<=d/\j.length<=d/\gX k (λa=>b a\/e.ownBlock=E a) c i/\iz k (λa=>b a\/c.ownBlock=E a) e j
theorem qw(e j:V)(i:Nat):py (rL e j i):=λx w' v w k d hF=>by
 obtain⟨r,s,l,n,o,p⟩:=k;exact⟨r,s,l,n,o.mod (d.mono (λ_ _ a=>.inl a)) (λc b a=>a.imp (hF c b) id),p.mod (d.mono (λ_ _ a=>.inl a)) (λc b a=>a.imp (hF c b) id)⟩
variable {v:Nat->aG->Prop}
theorem eV.TA{B n:U->(Nat->Prop)->Prop}(M:∀Q I,v Q I->v (Q+1) I){w':U}{lv y z r s:V}{os:List Nat}{j:Nat}(b:eV v B p o W w lv y z os Q)(aa:j<os.length){S:Nat->Prop}(i:G S o w')(hS:∀a,S a->a<o.heap.size->a=w\/W a=j+1\/(p.heap.size<=a/\W a=0/\lv.ownBlock≠E a))(O:X w' w #[lv,r,s] 34){I':aG}(A:aO w' (λa=>W a=j+1) os[j] I')(H:v (Q+1) I')(N:n w' (kR W w lv)):eV v n p w' W w lv r s os (Q+1):=by
 have P:=i.size;refine⟨O,i.owns b.row (λa c k=>?_),λl hi=>?_,λa c=>⟨(b.iA a c).1,bj (b.iA a c).2 P⟩,b.j1,b.ku,by have:=b.px;omega,b.top,b.mod.trans' i (λa c ab=>?_),N⟩
 .obtain⟨ad,ae,R⟩:=b.ku a c;obtain e|e|e:=hS a k (fE b.row a c)
  .exact R e
  .omega
  .exact e.2.2 c
 .by_cases e:l=j
  .subst e;exact⟨I',A,H⟩
  .obtain⟨x,T,Y⟩:=b.rG l hi;refine⟨x,T.mod i (λa c k=>?_),M _ _ Y⟩;have c:W a=l+1:=c;obtain d|d|d:=hS a k (b.iA a (by omega)).2
   .subst d;have:=b.j1.1;omega
   .omega
   .omega
 .have Z:=b.mod.size;obtain d|d|d:=hS a c (by omega)
  .subst d;have:=b.j1.2;omega
  .have:=(b.iA a (by omega)).1;omega
  .have:=d.1;omega
theorem aO.rI{w':U}{l S:Nat->Prop}{I I':aG}(c:aO p l w I)(i:G S p w')(ae:∀a,l a->S a->a=w)(ad:X w' w (dO I') 55)(aa:I'.kb=I.kb/\I'.okp=I.okp/\I'.om=I.om/\I'.now=I.now/\I'.fl=I.fl/\I'.K=I.K/\I'.tl=I.tl)(ab:I'.owt=I.owt/\I'.tob=I.tob/\I'.vs=I.vs/\I'.ns=I.ns/\I'.bs=I.bs)(j:I'.W=I.W/\I'.mb=I.mb):aO w' l w I':=by
 obtain⟨B,Z,s,v,x,y,z,A⟩:=c.ex;obtain⟨H,n,o,N,O,P,Q⟩:=aa;obtain⟨r,R,T,W,Y⟩:=ab;have e:∀a k,B a=k->k≠0->k≠1->¬S a:=λa k ag ah ai af=>by
  have:=ae a (A a (by omega)) af;subst this;omega
 refine⟨ad,?_,?_,?_,?_,?_,λa b=>bj (c.lt a b) i.size⟩
 .rw[H,n,o,N,O,P,Q];exact c.keep.mod i (λa b=>e a _ (s a b) (by omega) (by omega)) (λa b=>e a _ (y a b) (by omega) (by omega))
 .rw[j.1];exact c.bM.mod i (λa b=>e a _ (v a b) (by omega) (by omega))
 .intro M d;rw[j.2] at d;exact(c.may M d).mod i (λa b=>e a _ (z M d a b) (by omega) (by omega))
 .rw[r,R,T,W,Y];exact c.told.mod i (λa b=>e a _ (x a b) (by omega) (by omega))
 .refine⟨B,Z,?_,?_,?_,?_,?_,A⟩
  .rw[n];exact s
  .rw[j.1];exact v
  .rw[r];exact x
  .rw[o];exact y
  .intro M d;rw[j.2] at d;exact z M d
theorem eV.jB(A:∀Q I,v Q I->v (Q+1) I){w':U}{lv e c:V}{os:List Nat}{j:Nat}{r:List Nat}(n:eV v (rL e c P) p S W w lv e c os Q)(H:j<os.length){I:aG}{R:gT}(s:aO S (λb=>W b=j+1) os[j] I)(B:v (Q+1) (I.jB R))(M:N.length<=P/\r.length<=P/\gX S (λb=>kR W w lv b\/c.ownBlock=E b) e N/\iz S (λb=>kR W w lv b\/e.ownBlock=E b) c r)(x:∀d,e.ownBlock=E d->p.heap.size<=d)(hd:me S w' (λb=>kR W w lv b\/c.ownBlock=E b) w os[j] I R lv e c N):
  ∃i,eV v (rL i c (P+1)) p w' W w lv i c os (Q+1)/\∀d,i.ownBlock=E d->p.heap.size<=d:=by
 obtain⟨af,ag,X,Y⟩:=M;obtain⟨⟨i,Z,d1,d2,d3⟩,d4,d5⟩:=hd;obtain⟨ab,aa,_,_,_,_,_,z⟩:=s.ex;have O:W os[j]=j+1:=z _ (by omega);have ae:=n.mod.size;have o:=X.lZ;refine⟨i,?_,λd G=>(d3 d G).elim (x d) (λl=>by omega)⟩;refine n.TA A H d5 (λb k ad=>?_) d2 (I':=I.jB R) ?_ B ⟨N++[Z],r,by simp;omega,by omega,d1,Y.mod (d5.mono (λb _ a=>?_)) (λb k a=>?_)⟩
 .obtain a|a|a:=k
  .exact .inl a
  .exact .inr (.inl (by rw[a];exact O))
  .refine .inr (.inr ⟨x b a,?_,λl=>o b a (.inl (.inr (.inr l)))⟩);by_cases y:W b=0
   .exact y
   .exact absurd (.inl (.inl y)) (o b a)
 .refine s.rI d5 (λb k T=>?_) d4 ?_ ?_ ?_
  .have k:W b=j+1:=k;obtain a|a|a:=T
   .subst a;have:=n.j1.1;omega
   .exact a
   .exact absurd (.inl (.inl (by omega))) (o b a)
  all_goals
   unfold aG.jB;split<;>simp
 .obtain a|a|a:=a
  .exact .inl (.inr (.inl a))
  .exact .inl (.inl (by rw[a];omega))
  .exact .inr a
 .obtain a|a:=a
  .exact .inl a
  .obtain l|l:=d3 b a
   .exact .inr l
   .omega
theorem mH.cur{S:Array V}(c:mH S):∃d a b:Int,S[20]? =E (F K d)/\S[21]? =E (F K a)/\S[22]? =E (F K b):=by
 obtain⟨n,o,G,H,I,M,N,O,P,Q,p,r,s,v,w,x,y,z,A,B,e,i,j,k,l,rfl,_⟩:=c.lits;exact⟨e,i,j,rfl,rfl,rfl⟩
def qx(I I':aG):Prop:=I'.kb=I.kb/\I'.tl=I.tl/\I'.ns=I.ns/\I'.bs=I.bs
theorem dw.okp{I:aG}(a:dw w I)(b:Nat->Nat):dw w { I with okp:=b }:=⟨⟨a.b.same,a.b.ok,a.b.may,a.b.most,a.b.ch,a.b.ay,a.b.fg,a.b.file⟩,a.live,a.dead⟩
theorem Ih{a:List Int}(b:n.file<2):(kd n a).2.file<2:=by
 unfold kd;simp only
 repeat' split
 all_goals first|exact b|(show 1 - n.file<2;omega)
theorem Ii(a:n.file<2):(iW n B).2.file<2:=by
 unfold iW;split<;>exact a
theorem TB{a:List Int}(b:n.file<2):(eg n a B).2.file<2:=by
 unfold eg
 repeat' split
 .exact Ii (Ih b)
 .exact Ih b
 .exact Ii b
theorem TD{R:Int×aH}(a:n.file<2):(dD n R).file<2:=by
 unfold dD;show(if R.1=0 then 1 - n.file else n.file)<2;split<;>omega
theorem TE{b:aQ}(a:n.file<2):(gM j b n).2.file<2:=by
 unfold gM
 repeat' split
 .exact a
 .exact a
 .exact TD a
theorem Ij(c:Int)(b:aQ)(a:bU):(gM c b a).2.tb=a.tb:=by
 unfold gM dD
 repeat' split
 all_goals rfl
theorem TF{ab:Nat->Prop}{I:aG}(W:aO p ab w I)(A:dw Q I)(z:Q+1<=1048577)(y:I.kb=E P)(a:aK)(aa: -9223372036854775808<=a.time/\a.time<=9223372036854775807):Calls h 15 #[g (E (u w 0 J)),t (aw a)] p λd w'=>d=q (L true)/\jL p w' ab w (λI'=>dw (Q+1) I'/\qx I I'):=by
 have b:=A.b;have av:=b.most;have au:=b.ye;have ap:=b.ch;have ar:=b.fg;have ax:=b.ok.time;have x:0<=I.now/\I.now<=4611686018427387000:=by omega
 have aj:=λah (hi:ah<4)=>(W.j2.last ah hi).1
 cases s:I.K.live with
 |true=>
  obtain⟨_,n,Y,B⟩:=A.live s;have X:=A5 b.ok B;have am:=B.size;have ao:((a9 I.now I.fl).length:Int)<=I.most:=by have:=xS b.ok;omega
  by_cases R:(br I.now I.fl a).1=0
  .obtain⟨S,v,hd⟩:∃S v,br I.now I.fl a=(0,S,v):=⟨_,_,by rw[<-R]⟩;have dP:AO I.K (ez I a).2 (ez I a).1 I.now S I.fl v (I.most+60* I.ch) I.most:=Sm (C:=I.most) B s b.ok hd ao (by omega) aj;have af:=b.ok.step hd (by omega);refine(AB W y a aa x (by omega) (by omega) (by rw[n,s];rfl) b.same (λad ai N=>xO N x X (by omega) a) (λ_ d T=>?_) (λ_ d=>(dP.dead d).2.1)).mono ?_
   .have:=(dP.space d).2.2;rw[dP.ay] at T;omega
   .rintro d w' ⟨H,⟨I',r,G⟩,O⟩;refine⟨H,⟨I',r,?_⟩,O⟩;have ag:=zK r.bM.bM;have Z:=r.bM.same.weight;obtain⟨c,_⟩|⟨_,c,_⟩|⟨_,_,c,o,e,l,k,rfl⟩|⟨_,_,c,o,rfl⟩|⟨_,_,c,o,e,l,k,rfl⟩:=G
    .exact absurd R c
    .rw[n] at c;cases c
    .obtain⟨t1,t2⟩:=dP.ok c;have ag:200<=cO e.xs/\cO e.xs<=100000:=ag;have Z:cO e.xs=fH e.fl 21:=Z;rw[hd] at l k;have l:e.now=S:=l;have k:e.fl=v:=k;rw[k] at Z;refine⟨⟨⟨?_,?_,λM i=>?_,?_,?_,?_,z,t2.jz⟩,λ_=>⟨⟨P,y⟩,n,Y,?_⟩,λj=>?_⟩,rfl,rfl,rfl,rfl⟩
     .show e.now=(br I.now I.fl a).2.1/\e.fl=(br I.now I.fl a).2.2;rw[hd];exact⟨l,k⟩
     .show cJ ((Q+1:Nat):Int) (br I.now I.fl a).2.1 (br I.now I.fl a).2.2;rw[hd];exact af
     .have i:I.mb=E M:=i;rw[Y] at i;cases i
     .show fH (br I.now I.fl a).2.2 21<=max I.most (cO e.xs)/\max I.most (cO e.xs)<=1000000;rw[hd];show fH v 21<=_/\_;omega
     .show 0<=I.ch+1/\I.ch+1<=((Q+1:Nat):Int);omega
     .show ¬(ez I a).2.T.ay<200;rw[dP.ay];exact b.ay
     .show dW (ez I a).2.T (ez I a).2.file (ez I a).2.torn (br I.now I.fl a).2.1 (br I.now I.fl a).2.2 (max I.most (cO e.xs)+60* (I.ch+1));rw[hd];exact t2.more (by omega)
     .have j:(ez I a).2.live=false:=j;rw[t1] at j;cases j
    .obtain⟨t1,t2,_⟩:=dP.space c;refine⟨⟨⟨b.same,b.ok.more (by omega) (by omega),λM i=>?_,b.most,?_,?_,z,t2.jz⟩,λ_=>⟨⟨P,y⟩,n,Y,t2⟩,λj=>?_⟩,rfl,rfl,rfl,rfl⟩
     .have i:I.mb=E M:=i;rw[Y] at i;cases i
     .show 0<=I.ch/\I.ch<=((Q+1:Nat):Int);omega
     .show ¬(ez I a).2.T.ay<200;rw[dP.ay];exact b.ay
     .have j:(ez I a).2.live=false:=j;rw[t1] at j;cases j
    .obtain⟨t1,t2,t3⟩:=dP.dead c;rw[hd] at l k;have l:e.now=S:=l;have k:e.fl=v:=k;refine⟨⟨⟨b.same,b.ok.more (by omega) (by omega),λM i=>?_,b.most,?_,?_,z,?_⟩,λj=>?_,λ_=>⟨?_,.inr rfl⟩⟩,rfl,rfl,rfl,rfl⟩
     .have i:E e=E M:=i;injection i with i;subst i;rw[l,k];exact⟨af,a,hd⟩
     .show 0<=I.ch+1/\I.ch+1<=((Q+1:Nat):Int);omega
     .show ¬(ez I a).2.T.ay<200;rw[dP.ay];exact b.ay
     .show(ez I a).2.file<2;exact TB b.file
     .have j:(ez I a).2.live=true:=j;rw[t1] at j;cases j
     .show eU (ez I a).2.T I.now I.fl (E (e.now,e.fl)) (I.most+60* (I.ch+1)) I.most;rw[l,k];exact t3.more (by omega) (rF _)
  .refine(AB W y a aa x (by omega) (by omega) (by rw[n,s];rfl) b.same (λad ai N=>xO N x X (by omega) a) (λT=>absurd T R) (λT=>absurd T R)).mono ?_;rintro d w' ⟨H,⟨I',r,G⟩,O⟩;refine⟨H,⟨I',r,?_⟩,O⟩;obtain⟨_,o,rfl⟩|⟨c,_⟩|⟨c,_⟩|⟨c,_⟩|⟨c,_⟩:=G
   .exact⟨(A.more z).okp o,rfl,rfl,rfl,rfl⟩
   all_goals exact absurd c R
 |false=>
  obtain⟨B,ak⟩:=A.dead s;have n:I.sh=true:=by
   obtain d|d:=ak
   .rw[y] at d;cases d
   .exact d
  obtain⟨X,am⟩:=Hx b.ok B b.file (by omega) (by omega);have ae:ez I a=(17,I.K):=Gt s;refine(AB W y a aa x (by omega) (by omega) (by rw[n,s];rfl) b.same (λad ai N=>xO N x X (by omega) a) (λ_ d=>by rw[ae] at d;cases d) (λ_ d=>by rw[ae] at d;cases d)).mono ?_;rintro d w' ⟨H,⟨I',r,G⟩,O⟩;refine⟨H,⟨I',r,?_⟩,O⟩;obtain⟨_,o,rfl⟩|⟨_,_,o,rfl⟩|⟨_,c,_⟩|⟨_,c,_⟩|⟨_,c,_⟩:=G
  .exact⟨(A.more z).okp o,rfl,rfl,rfl,rfl⟩
  .exact⟨(A.more z).okp o,rfl,rfl,rfl,rfl⟩
  all_goals rw[n] at c;cases c
structure vr (w wx:U) (O:Nat->Prop) (ob n:Nat) (I I1:aG) (e:Int):Prop where
 one:aO wx (grow O w wx) ob I1
 mod:G O w wx
 rM:oi (n+1) I1
 mR:qx I I1/\I1.sh=I.sh/\I1.most=I.most/\I1.ch=I.ch/\I1.W=I.W/\I1.K.tb=I.K.tb/\I1.mb=I.mb
 err:e=if I.sh=true then 17 else(gM I.now I.fl I.K).1
 shut:I.sh=true->dw (n+1) I1
 ok:I.sh=false->e=0->I1.K.live=true/\I1.mb=J/\dW I1.K.T I1.K.file I1.K.torn I1.now I1.fl (fH I1.fl 21)
 space:I.sh=false->e=15->dw (n+1) I1/\¬(2* I.most+60* (I.ch+1)+180<=I1.K.T.ay)
 dead:I.sh=false->e=16->I1.K.live=false/\I1.K.T.fuse=0/\I1.mb=J/\eU I1.K.T I1.now I1.fl J (I1.most+60* I1.ch) I1.most
 alt:I.sh=false->e=0\/e=15\/e=16
theorem TG{r:Nat->Prop}{I:aG}(n:aO p r w I)(d:dw Q I)(z:Q+1<=1048577)(e:I.kb=E P):Calls h 30 #[g (E (u P 0 J))] p λa w'=>∃x:Int,a=q (F K x)/\∃i,vr p w' r w Q I { I with okp:=i,K:=(gM I.now I.fl I.K).2 } x:=by
 have c:=d.b;have S:=c.most;have ah:=c.ye;have af:=c.ch;have ag:=c.fg;have s:=λl (hi:l<4)=>(n.j2.last l hi).1;obtain⟨⟨X,y⟩,_⟩:=n.keep.some P e;have R:qn I.now I.fl I.K:=by
  cases b:I.K.live with
  |true=>exact A5 c.ok (d.live b).2.2.2
  |false=>exact(Hx c.ok (d.dead b).1 c.file (by omega) (by omega)).1
 refine(RU y R).mono ?_;rintro a w' ⟨rfl,⟨W,Y,Z,aa,ab⟩,ad⟩;have hd:jw p w' I.okp P X I.now I.fl (gM I.now I.fl I.K).2:=⟨⟨W,Y,Z,aa,λl ae H=>ab l H⟩,ad⟩;obtain⟨i,x,T,_,_⟩:=n.kept e (G.refl No p) y hd (Ij _ _ _);have B:(gM I.now I.fl I.K).2.T.ay=I.K.T.ay:=by
  cases b:I.K.live with
  |true=>
   have dP:=G8 (C:=fH I.fl 21) (d.live b).2.2.2 b c.ok (xS c.ok) s;exact dP.ay
  |false=>
   unfold gM;rw[D b]
 have A:oi (Q+1) { I with okp:=i,K:=(gM I.now I.fl I.K).2 }:=⟨c.same,c.ok.more (by omega) (by omega),λM v=>⟨(c.may M v).1.more (by omega) (by omega),(c.may M v).2⟩,c.most,by show 0<=I.ch/\I.ch<=((Q+1:Nat):Int);omega,by show ¬(gM I.now I.fl I.K).2.T.ay<200;rw[B];exact c.ay,z,TE c.file⟩;refine⟨_,rfl,i,x,T,A,⟨⟨rfl,rfl,rfl,rfl⟩,rfl,rfl,rfl,rfl,Ij _ _ _,rfl⟩,?_,?_,?_,?_,?_,?_⟩
 .cases b:I.K.live with
  |true=>rw[f (by rw[(d.live b).2.1];simp)]
  |false=>
   have:I.sh=true:=by
    obtain a|a:=(d.dead b).2
    .rw[e] at a;cases a
    .exact a
   rw[D this];unfold gM;rw[D b]
 .intro k;have b:I.K.live=false:=by
   cases b:I.K.live with
   |true=>have:=(d.live b).2.1;rw[k] at this;cases this
   |false=>rfl
  have O:(gM I.now I.fl I.K).2=I.K:=by unfold gM;rw[D b]
  rw[O];exact(d.more z).okp i
 all_goals intro k
 all_goals
  have b:I.K.live=true:=by
   cases b:I.K.live with
   |true=>rfl
   |false=>
    obtain a|a:=(d.dead b).2
    .rw[e] at a;cases a
    .rw[k] at a;cases a
  obtain⟨_,_,o,N⟩:=d.live b;have dP:=G8 (C:=fH I.fl 21) N b c.ok (xS c.ok) s
 .intro a;obtain⟨t1,t2⟩:=dP.ok a;exact⟨t1,o,t2⟩
 .intro a;obtain⟨t1,t2,t3⟩:=dP.space a;refine⟨⟨A,λ_=>⟨⟨P,e⟩,k,o,t2⟩,λj=>?_⟩,?_⟩
  .have j:(gM I.now I.fl I.K).2.live=false:=j;rw[t1] at j;cases j
  .show ¬(2* I.most+60* (I.ch+1)+180<=(gM I.now I.fl I.K).2.T.ay);rw[B];omega
 .intro a;obtain⟨t1,t2,t3⟩:=dP.dead a;exact⟨t1,t2,o,(t3 J).more (rF _) S.1⟩
 .exact dP.err
theorem TH(d:S.heap.size<=o.heap.size)(a:Nat)(b:grow I p S a):grow I p o a:=b.imp id (λc=>⟨c.1,by omega⟩)
theorem aO.A'{c:Nat->Prop}{I:aG}(d:aO o (grow c p S) w I)(i:∀b,c b->b<p.heap.size)(j:p.heap.size<=S.heap.size)(e:S.heap.size<=o.heap.size):aO o (grow c p o) w I:=
 d.kt (λb a=>TH e b a) (λb a=>by
  obtain a|a:=a
  .have:=i b a;omega
  .exact a.2)
theorem vr.still{b:Nat->Prop}{I:aG}(a:vr p S b w Q I R j)(i:∀e,b e->e<p.heap.size)(c:G No S o):vr p o b w Q I R j:=
 ⟨(a.one.mod c (λ_ _ d=>d)).A' i a.mod.size c.size,a.mod.trans (c.mono (λ_ _ d=>d.elim)),a.rM,a.mR,a.err,a.shut,a.ok,a.space,a.dead,a.alt⟩
theorem TI{s:Nat->Prop}{I:aG}(A:aO p s w I)(aR:dw Q I)(a1:Q+1<=1048577)(am:I.kb=E P):Calls h 16 #[g (E (u w 0 J))] p λe w'=>e=q (L true)/\jL p w' s w (λI'=>dw (Q+1) I'/\qx I I'):=by
 have ay:=l (TG A aR a1 am);have N:=A.e.T 1;rw[show(dO I)[1]? =E (gL I.kb) from rfl,am] at N;have N:p.cell? (u w 1 J)=E (g (E (u P 0 J))):=N;have a5:=A.e.lt;have ag:=l A.lt;have ax:=l A.vn;clear A aR;go_enter func16,ntmps16;go_wp2_with fail;refine(b ay).mono ?_;rintro e y ⟨bc,rfl,a4,n⟩;obtain⟨a,aE⟩:∃a,a={ I with okp:=a4,K:=(gM I.now I.fl I.K).2 }:=⟨_,rfl⟩;rw[<-aE] at n;clear aE ay N a5
 have i:=n.one.e;have t0:y.cell? (u w 0 J)=E (g (E (u a.K.tb 0 J))):=i.T 0;have t5:y.cell? (u w 5 J)=E (F K a.most):=i.T 5;have t6:y.cell? (u w 6 J)=E (F K a.ch):=i.T 6;have a7:=i.lt;obtain⟨aZ,aL,aN⟩:=n.one.j2.ay;have aK:0<=a.most/\a.most<=1000000:=⟨by have:=n.rM.ye;omega,n.rM.most.2⟩;have aF:0<=a.ch/\a.ch<=1099511627776:=by have:=n.rM.ch;have:=n.rM.fg;omega
 have az:=l λQ=>vM a.K.tb a.K.T.ay (y.drewN Q) aZ (aL.drewN Q) aN;have av:=l λQ=>zG a.most a.ch a.K.T.ay aK aF (y.drewN Q);have aB:=l n;clear n i aL aN aK aF;go_upto_region 2 with fail;go_cut [4] (λa6 bb=>a6=L (decide (2* a.most+60* (a.ch+1)+180<=a.K.T.ay))/\Hid (∃Q,bb=y.drewN Q))
 case first=>
  go_quiet (first|(go_at_call 28;exact Calls.quiet_of_same ((b az) _))|(go_at_call 21;exact Calls.quiet_of_same ((b av) _)));go_wp2;go_meet;exact⟨rfl,_,rfl⟩
 case rest=>
  obtain⟨rfl,aQ⟩:=hcut
  apply_assumption
  have c:=l (show vr p wc s w Q I a bc from by
   obtain⟨a3,rfl⟩:=b aQ
   exact(b aB).still (b ag) ((G.refl No y).drewN a3))
  clear t0 t5 t6 a7 az av aB aQ;have i:=(b c).one.e;have ad:wc.cell? (u w 7 J)=E (L a.sh):=i.T 7;have aT:=i.lt;have aS:=i.aC;obtain⟨⟨T,W,X,Y⟩,v,ak,aj,aJ,aI,aH⟩:=(b c).mR;have ai:=(b c).err
  cases o:I.sh with
  |true=>
   rw[o] at v;rw[v] at ad;rw[D o] at ai;subst ai;have r:=l (show jL p wc s w (λI'=>dw (Q+1) I'/\qx I I') from⟨⟨a,(b c).one,(b c).shut o,T,W,X,Y⟩,(b c).mod⟩);clear c i T W X Y v ak aj aJ aI aH o;go_wp2;go_ret;exact⟨rfl,b r⟩
  |false=>
   rw[o] at v;rw[v] at ad;have ah:=l o;have af:=l (show qx I a from⟨T,W,X,Y⟩);have aw:=l (show a.most=I.most/\a.ch=I.ch from⟨ak,aj⟩);have aX:=l v;have halt:=(b c).alt o;clear T W X Y v ak aj aJ aI aH o ai;obtain rfl|rfl|rfl:=halt
   .have a8:wc.cell? (u w 2 J)=E (g (E (u a.W.wb 0 J))):=i.T 2;have a9:wc.cell? (u w 5 J)=E (F K a.most):=i.T 5;have ba:wc.cell? (u w 6 J)=E (F K a.ch):=i.T 6;have x:G (λd=>d=w) wc (wc.setCell (u w 6 J) (F K 0)):=(G.refl _ wc).at 6 _;have O:=i.set 6 (F K 0)
    have ao:kO (wc.setCell (u w 6 J) (F K 0)) a.W:=(b c).one.bM.mod x (λd Z (e:d=w)=>by
     obtain⟨bf,N,_,aY,_⟩:=(b c).one.ex
     have:=aY d Z
     rw[e] at this;omega)
    have aA:=l (Ef ao.bM ao.tidy);have ar:=l O;have z:=l x;clear x O ao i;go_wp2_with fail;refine(b aA).mono ?_;rintro e H ⟨rfl,B⟩;have R:=B.e (b ar) (λap=>ap);have bh:H.cell? (u w 5 J)=E (F K a.most):=R.T 5;have bk:=R.lt;have bi:=R.aC;have aD:=R.set 5 (F K (cO a.W.xs));have ab:G (λd=>d=w) wc (H.setCell (u w 5 J) (F K (cO a.W.xs))):=((b z).trans (B.mono (λ_ _ ap=>ap.elim))).at 5 _
    have aW:=(b c).one.rI (I':={ a with ch:=0,most:=cO a.W.xs }) ab (λd _ e=>e) aD ⟨rfl,rfl,rfl,rfl,rfl,rfl,rfl⟩ ⟨rfl,rfl,rfl,rfl,rfl⟩ ⟨rfl,rfl⟩;have aP:=(b c).one.bM.same.weight;have a2:=zK (b c).one.bM.bM
    have r:=l (show jL p (H.setCell (u w 5 J) (F K (cO a.W.xs))) s w (λI'=>dw (Q+1) I'/\qx I I') from by
     have j:=(b c).rM
     obtain⟨t1,t2,t3⟩:=(b c).ok (b ah) rfl
     rw[j.same.2] at aP
     obtain⟨f1,f2,f3,f4⟩:=b af
     refine⟨⟨_,aW.A' (b ag) (b c).mod.size ab.size,⟨⟨j.same,j.ok,j.may,?_,?_,j.ay,j.fg,j.file⟩,λk=>⟨?_,b aX,t2,?_⟩,λk=>?_⟩,f1,f2,f3,f4⟩,(b c).mod.trans (ab.mono (λd _ (e:d=w)=>by rw[e];exact b ax))⟩
     .show fH a.fl 21<=cO a.W.xs/\cO a.W.xs<=1000000
      omega
     .show(0:Int)<=0/\(0:Int)<=((Q+1:Nat):Int)
      omega
     .exact⟨P,f1.trans am⟩
     .show dW a.K.T a.K.file a.K.torn a.now a.fl (cO a.W.xs+60* 0)
      exact t3.more (by omega)
     .have k:a.K.live=false:=k
      rw[t1] at k;cases k)
    clear B R aD ab aW aA c aP a2 ar z a8 a9 ba ad aT aS;go_wp2;go_ret;exact⟨rfl,b r⟩
   .obtain⟨t1,t2⟩:=(b c).space (b ah) rfl;rw[<-(b aw).1,<-(b aw).2] at t2;have bg:decide (2* a.most+60* (a.ch+1)+180<=a.K.T.ay)=false:=by simpa using t2
    have r:=l (show jL p wc s w (λI'=>dw (Q+1) I'/\qx I I') from⟨⟨a,(b c).one,t1,b af⟩,(b c).mod⟩);clear c i t1 t2;go_wp2;go_ret;exact⟨rfl,b r⟩
   .obtain⟨t1,t2,t3,t4⟩:=(b c).dead (b ah) rfl;have x:G (λd=>d=w) wc (wc.setCell (u w 7 J) (L true)):=(G.refl _ wc).at 7 _;have O:=i.set 7 (L true);have ae:=(b c).one.rI (I':={ a with sh:=true }) x (λd _ e=>e) O ⟨rfl,rfl,rfl,rfl,rfl,rfl,rfl⟩ ⟨rfl,rfl,rfl,rfl,rfl⟩ ⟨rfl,rfl⟩;have S:=l ae;have z:=l x;have au:=l (xL (tb:=a.K.tb) ae.e rfl ae.j2 t2)
    have aC:=l (show dw (Q+1) { a with sh:=true } from by
     have j:=(b c).rM
     refine⟨⟨j.same,j.ok,j.may,j.most,j.ch,j.ay,j.fg,j.file⟩,λk=>?_,λ_=>⟨?_,.inr rfl⟩⟩
     .have k:a.K.live=true:=k
      rw[t1] at k;cases k
     .show eU a.K.T a.now a.fl (a.mb.map λM=>(M.now,M.fl)) (a.most+60* a.ch) a.most
      rw[t3]
      exact t4)
    clear x O ae t1 t2 t3 t4 i;go_wp2_with fail;refine(b au).mono ?_;rintro e H ⟨rfl,t7,B⟩;have a0:a.okp a.K.tb=30:=(b S).j2.dq;have aa:G (λd=>a.okp d=30) (wc.setCell (u w 7 J) (L true)) H:=B.mono (λd _ (e:d=a.K.tb)=>by rw[e];exact a0);have aU:=(b S).tu t7 aa
    have r:=l (show jL p H s w (λI'=>dw (Q+1) I'/\qx I I') from by
     have bd:=(b c).mod.size
     have bl:=(b z).size
     have bm:=aa.size
     refine⟨⟨{ a with sh:=true },aO.A' aU (b ag) bd (by omega),b aC,b af⟩,((b c).mod.trans ((b z).mono (λd _ (e:d=w)=>by rw[e];exact b ax))).trans' aa (λd Z k=>?_)⟩
     obtain e|e:=(b S).oo d (by have Z:a.okp d=30:=Z;show a.okp d≠0;omega)
     .exact e
     .omega)
    clear t7 B aa aU S z au c aC ad aT aS;go_wp2;go_ret;exact⟨rfl,b r⟩
theorem Ik{B:U->(Nat->Prop)->Prop}(R:py B)(aa:∀l I,v l I->v (l+1) I){k:U}{l e d:Nat}{I:aG}{c:Option Addr}{s x:V}{os:List Nat}(ab:v (l+1) I)(r:eV v B p S W w (C i os.length e) s x os l)(T:aO o (λa=>Q+1<=a/\a<o.heap.size) P I/\G No S o/\Q+5<=o.heap.size)(O:eV v B p o W w (C i os.length e) s x os l)(au:S.heap.size=Q)
  (ag:k.ownsRow 0 48 1 (C c (os.length+1) d) (os.length+1) (os.map ptrTo++[ptrTo P]))(z:(o.alloc (m #[ptrTo P] 48)).grownBy k (C i os.length e).ownBlock)(ah:fm (o.alloc (m #[ptrTo P] 48)) (C i os.length e) (C c (os.length+1) d)):rH v B p (k.setCell (u w 0 J) (C c (os.length+1) d)) w s x l:=by
 obtain⟨Y,Z,ar⟩:=T;have av:=r.e.lt;have A:=λa j=>fE r.row a j;have ak:G (λa=>a=w\/(C i os.length e).ownBlock=E a) o k:=((G.refl _ o).alloc _).grown z (λa j=>.inl (.inr j));have am:G (λa=>a=w\/(C i os.length e).ownBlock=E a) k (k.setCell (u w 0 J) (C c (os.length+1) d)):=(G.refl _ k).setCell (p:=u w 0 J) (.inl (.inl rfl)) _;have M:=ak.trans am
 have ai:G (λa=>a=w\/(C i os.length e).ownBlock=E a) S (k.setCell (u w 0 J) (C c (os.length+1) d)):=(Z.mono (λ_ _ y=>y.elim)).trans M;have af:∀a,(Q+1<=a/\a<o.heap.size)->¬(a=w\/(C i os.length e).ownBlock=E a):=λa j b=>by
  obtain rfl|b:=b
  .omega
  .have:=A a b;omega
 have H:∀a,(C c (os.length+1) d).ownBlock=E a->(C i os.length e).ownBlock=E a\/o.heap.size<=a:=λa j=>by
  obtain b|b:=ah a j
  .exact .inl b
  .rw[bW] at b;exact .inr (by omega)
 have ae:=Y.mod M af;have ad:X (k.setCell (u w 0 J) (C c (os.length+1) d)) w #[C c (os.length+1) d,s,x] 34:=by
  have N:=X.grown (((G.refl No o).alloc (m #[ptrTo P] 48)).e O.e (λy=>y)) z (λb=>(r.ku w b.symm).2.2 rfl);exact N.set 0 (C c (os.length+1) d)
 have aj:(C c (os.length+1) d).ownBlock≠E w:=λb=>by
  obtain n|n:=H w b
  .exact(r.ku w n).2.2 rfl
  .omega
 obtain⟨ap,ao,aw⟩:=r.add R aa (I:=I) ab ae (λa j=>by omega) ai ad (jh ag (a:=u w 0 J) aj _) (λa j=>by
  obtain n|n:=H a j
  .exact⟨λb=>by have:=A a n;omega,.inl n⟩
  .exact⟨λb=>by omega,.inr (by omega)⟩)
 exact⟨⟨ap,_,_,ao⟩⟩
def jN(tb e d:Nat)(a b:Int):aG:=
 {Hb tb 0 e d a with kb:=J,okp:=λc=>if c=tb then 30 else 0,K:=⟨tb,0,false,false,⟨λ_=>[],λ_=>0,a,b⟩⟩ }
structure vt (w w5:U) (bb tb wb tob ob:Nat) (S:Array V) (ay fu:Int):Prop where
 box:X w5 bb S 45
 one:aO w5 (λk=>bb+1<=k/\k<w5.heap.size) ob (jN tb wb tob ay fu)
 ord:w.heap.size=bb/\tb=bb+1/\ob=bb+4/\bb+5<=w5.heap.size
 mod:G No w w5
theorem Il{l:U}{tb d:Nat}{S:Array V}(e:Ha p o w tb Q P d S j)(B:aS l (λa=>a=tb) tb ⟨λ_=>[],λ_=>0,j,k⟩)(i:G (λa=>a=tb) o l):vt p l w tb Q P d S j k:=by
 obtain⟨O,R,ab,ad,ae,af⟩:=e.ord;have Z:=i.size;have A:X l d (dO (jN tb Q P j k)) 55:=i.e e.one (by omega);have I:X l Q #[C J 0 0,F K 0] 72:=i.e e.bM (by omega);have H:X l P (lr (λ_=>C J 0 0) (λ_=>false)) 76:=i.e e.told (by omega)
 refine⟨i.e e.box (by omega),⟨A,⟨λT z=>(by cases z),λ_=>⟨B.wide (λa b=>D b),λa b=>?_⟩⟩,⟨⟨I,.inl ⟨rfl,rfl⟩,D rfl,λa b=>?_,λr hi=>absurd hi (fK _),gr _⟩,⟨List.Pairwise.nil,λag N=>(by cases N),λaa Y=>rfl⟩,λ_=>rfl⟩,λM n=>(by cases n),⟨H,λr hi=>dx _ _ _ _,λr hi a b=>by simp[jN,Hb,aV] at b,D rfl⟩,?_,λa b=>b.2⟩,⟨O,R,by omega,by omega⟩,e.mod.trans' i (λa b W=>by have b:a=tb:=b;omega)⟩
 .have b:(if a=tb then 30 else 0)≠0:=b;by_cases c:a=tb
  .omega
  .rw[f c] at b;exact absurd rfl b
 .have b:(if a=Q then 1 else 0)≠0:=b;by_cases c:a=Q
  .omega
  .exact absurd (f c) b
 .refine⟨λa=>if a=d then 1 else if a=tb then 2 else if a=Q then 3 else if a=P then 4 else 0,D rfl,λa b=>?_,λa b=>?_,λa b=>?_,λa b=>absurd rfl b,λM n=>(by cases n),λa b=>?_⟩
  .have b:(if a=tb then 30 else 0)≠0:=b;have c:a=tb:=by
    by_cases c:a=tb
    .exact c
    .exact absurd (f c) b
   show(if a=d then 1 else if a=tb then 2 else if a=Q then 3 else if a=P then 4 else 0)=2;rw[f (by omega),D c]
  .have b:(if a=Q then 1 else 0)≠0:=b;have c:a=Q:=by
    by_cases c:a=Q
    .exact c
    .exact absurd (f c) b
   show(if a=d then 1 else if a=tb then 2 else if a=Q then 3 else if a=P then 4 else 0)=3;rw[f (by omega),f (by omega),D c]
  .have b:(if a=P then 1 else 0)≠0:=b;have c:a=P:=by
    by_cases c:a=P
    .exact c
    .exact absurd (f c) b
   show(if a=d then 1 else if a=tb then 2 else if a=Q then 3 else if a=P then 4 else 0)=4;rw[f (by omega),f (by omega),f (by omega),D c]
  .have b:(if a=d then 1 else if a=tb then 2 else if a=Q then 3 else if a=P then 4 else 0)≠0:=b;by_cases s:a=d
   .omega
   by_cases v:a=tb
   .omega
   by_cases x:a=Q
   .omega
   by_cases y:a=P
   .omega
   .rw[f s,f v,f x,f y] at b;exact absurd rfl b
theorem Im:fH gJ 21=200:=by decide
theorem TJ{tb:Nat}(c:¬j<200)(b:w<=1048577):oi w (jN tb Q P j k):=
 ⟨⟨rfl,rfl⟩,cJ.zero.more (by omega) (by omega),λM a=>(by cases a),by show fH gJ 21<=200/\(200:Int)<=1000000;rw[Im];omega,by show(0:Int)<=0/\(0:Int)<=w;omega,c,b,by show 0<2;omega⟩
theorem Io(b a:Int):eU ⟨λ_=>[],λ_=>0,b,a⟩ 0 gJ J 200 200:=(dW.zero b a (by omega)).close (by omega) J
theorem TK{n tb wb tob:Nat}{fu:Int}(c:¬j<200)(b:n<=1048577):dw n (jN tb wb tob j fu):=
 ⟨TJ c b,λa=>(by cases a),λ_=>⟨by show eU _ 0 gJ J (200+60* 0) 200;exact Io j fu,.inl rfl⟩⟩
theorem TM{i:U}{tb c e r A:Nat}{s:Bool}{S:Array V}{B:Int}{v:aQ}{l:aH}(x:vt p o w tb Q P c S j k)(af:uV o i (λa=>if a=tb then 30 else 0) e tb r s l B v)(R:dW l r s B v 200)(ag:l.ay=j)(ak:B=0/\v=gJ)(ai:¬j<200)(y:A<=1048577):∃I,aO (i.setCell (u c 1 J) (g (E (u e 0 J)))) (λa=>w+1<=a/\a<i.heap.size) c I/\dw A I/\(I.tl=λ_=>J)/\(I.ns=λ_=>[])/\(I.bs=λ_=>false)/\G (λa=>a=c\/a=tb) o (i.setCell (u c 1 J) (g (E (u e 0 J)))):=by
 obtain⟨rfl,rfl⟩:=ak;obtain⟨ay,az,aA,aB⟩:=x.ord;obtain⟨⟨H,ar,Y,aa,ao⟩,ax,z⟩:=af;have au:∀a,(if a=tb then 30 else 0)=30->a=tb:=λa b=>by
  by_cases N:a=tb
  .exact N
  .rw[f N] at b;cases b
 have aw:=z.size;have ap:G (λa=>a=c\/a=tb) o i:=z.mono (λa _ d=>.inr (au a d));have ab:G (λa=>a=c\/a=tb) o (i.setCell (u c 1 J) (g (E (u e 0 J)))):=ap.trans (((G.refl (λa=>a=c) i).at 1 _).mono (λ_ _ d=>.inl d));have W:(if c=tb then 30 else 0)=0:=f (by omega);have how:H c=0:=by rw[aa c (by omega),W];rfl
 have ah:=(z.e x.one.e (by rw[W];omega)).set 1 (g (E (u e 0 J)));have Z:=Y.mod (S:=λa=>a=c) ((G.refl _ i).at 1 (g (E (u e 0 J)))) (λa b (d:a=c)=>by rw[d] at b;exact b how)
 have am:=x.one.Hy (I':={ jN tb Q P j k with kb:=E e,okp:=H,om:=λ_=>0,now:=0,fl:=gJ,K:=⟨tb,r,s,true,l⟩,tl:=λ_=>J }) ab (λa b d=>?_) ah (.inr ⟨⟨λad n=>?_,λy=>by cases y⟩,λa b=>?_,λ_=>rfl⟩) (.inl ⟨rfl,.inl rfl⟩) (.inl ⟨rfl,rfl,rfl,rfl,rfl⟩)
 rotate_left
 .obtain d|d:=d
  .exact .inl d
  .refine .inr ?_;show(if a=tb then 30 else 0)≠0;rw[D d];omega
 .have n:E e=E ad:=n;injection n with n;subst n;refine⟨⟨ar,Z⟩,⟨λX hi _=>?_,λX hi av aj=>(by cases aj),λa b=>absurd rfl b⟩⟩;rw[Z.keep.e.T,lN _ _ X hi,ao _ (by omega) (by omega)]
 .have T:=Y.keep.bg a b;by_cases d:a<o.heap.size
  .have b:H a≠0:=b;rw[aa a d] at b;by_cases O:a=tb
   .left;show(if a=tb then 30 else 0)≠0;rw[D O];omega
   .exact absurd (by rw[f O];rfl) b
  .exact .inr ⟨by omega,by simp;omega⟩
 refine⟨_,am.kt (λa b=>?_) (λa b=>by simpa using b.2),⟨⟨⟨rfl,rfl⟩,cJ.zero.more (by omega) (by omega),λM ae=>(by cases ae),by show fH gJ 21<=200/\(200:Int)<=1000000;rw[Im];omega,by show(0:Int)<=0/\(0:Int)<=A;omega,by show ¬l.ay<200;rw[ag];exact ai,y,R.jz⟩,λ_=>⟨⟨e,rfl⟩,rfl,rfl,by show dW l r s 0 gJ (200+60* 0);exact R⟩,λT=>(by cases T)⟩,rfl,rfl,rfl,ab⟩;obtain b|b:=b
 .exact⟨b.1,by omega⟩
 .simp only[ny] at b;exact⟨by omega,b.2⟩
def Ba(I:aG):Prop:=((I.tl=λ_=>J)/\(I.ns=λ_=>[])/\I.bs=λ_=>false)\/I.kb=J
theorem TN{B:U->(Nat->Prop)->Prop}(aW:py B)(bw:∀Q I,v Q I->v (Q+1) I){lv bm br:V}{os:List Nat}(b4:eV v B p o W w lv bm br os Q)(cc:Q+1<=1048577){S:Array V}{sp:Int}{M:List Int}(hS:ly S 1 j k)(db: -9223372036854775808<=k/\k<=9223372036854775807)(cK:S[23]? =E (C i M.length P))(cL:S[24]? =E (.int .u8 sp))(cT:M.length<=9223372036854775807)(cb:Reads o (C i M.length P) M.length (M.map (F K)))(ca:0<M.length->∀a,(C i M.length P).ownBlock=E a->a<o.heap.size)
  (b5:∀I,dw (Q+1) I->Ba I->v (Q+1) I):Calls h 12 #[g (E (u w 0 J)),t S] o λe w'=>e=q (L true)/\rH v B p w' w bm br Q:=by
 have aN:=X.new o S 45;have a5:=(aN.T 2).trans hS.fU;have bp:=(aN.T 3).trans hS.c3;have ag:=aN.lt;have ae:=l b4;have b1:=l b5;have cs:=l aN
 have cw:=l (λaa (a6:G No o aa)=>(show Reads aa (C i M.length P) M.length (M.map (F K)) from by
  obtain d|⟨cD,k,e,d⟩:=cb
  .exact .inl d
  .exact .inr ⟨cD,k,e,λcX aC hu=>eG a6 (d cX aC hu)⟩))
 have cv:=l ca;have cA:=l ((G.refl No o).alloc (m S 45));clear b4 aN b5 cb ca;go_enter func12,ntmps12;go_wp2_with fail;refine(IG _ _).mono ?_;rintro e dg ⟨rfl,rfl⟩;go_upto_region 2 with fail;have Y:=l (Ss o S j);clear a5 bp ag cs cA
 generalize (((((o.alloc (m S 45)).alloc (m (⟨⟨C J 0 0,[],0⟩,⟨C J 0 0,[],0⟩,⟨C J 0 0,[],0⟩,⟨C J 0 0,[],0⟩,j, -1⟩:aL).cells 108)).alloc (m #[C J 0 0,F K 0] 72)).alloc (m #[C J 0 0,C J 0 0,C J 0 0,C J 0 0,C J 0 0,C J 0 0,C J 0 0,C J 0 0,L false,L false,L false,L false,L false,L false,L false,L false] 76)).alloc (m #[g (E ⟨o.heap.size+1,0,J⟩),g J,g (E ⟨o.heap.size+1+1,0,J⟩),g J,g (E ⟨o.heap.size+1+1+1,0,J⟩),F K 200,F K 0,L false,F K 0,F K 0,F K 0] 55))=ak at *
 generalize o.heap.size+1+1+1+1=c at *;generalize o.heap.size+1+1+1=N at *;generalize o.heap.size+1+1=O at *;generalize o.heap.size+1=tb at *;generalize o.heap.size=n at *;have aQ:=l (b Y).ord.1;have bp:ak.cell? (u n 3 J)=E (F K k):=((b Y).box.T 3).trans hS.c3;have ag:=(b Y).box.lt;have ai:ak.cell? (u c 0 J)=E (g (E (u tb 0 J))):=(b Y).one.T 0;have aj:=(b Y).one.lt;go_upto_if 22 with fail
 go_cut [] from 20 to 30 (λao=>Hid (∃z,vt o ao n tb O N c S j z))
 case first=>
  by_cases b7:k>0
  .have cP:decide (k>0)=true:=by simpa using b7
   have cW:K.wrap (k - 1)=k - 1:=by rw[lF];omega
   have cu:=l (Ay ((b Y).tape.bC ((G.refl No ak).drew)) (k - 1) (by omega));go_upto_region 3 with fail;go_region_law (refine fP rfl 19 _ _ rfl #[g (E (u tb 0 J)),F K (k - 1)] (by simp[aM,bN,cW]) (λaa=>by kernel_rfl) (aq #[]) _ (b cu) ?_;intro r bz;have bd:=l (show ∃z,vt o r n tb O N c S j z from⟨k - 1,Il (b Y) bz.1 ((G.refl (λa=>a=tb) ak).drew.trans bz.2)⟩);clear bz)
   all_goals go_wp2
   all_goals go_meet
   all_goals exact bd
  .have cP:decide (k>0)=false:=by simpa using b7
   have bd:=l (show ∃z,vt o ak n tb O N c S j z from⟨-1,Il (b Y) (b Y).tape (G.refl _ _)⟩);go_wp2;go_meet;exact bd
 case rest=>
  obtain⟨z,y⟩:=b hcut
  apply_assumption
  have y:=l y;clear Y bp ag ai aj hcut;have a5:wc.cell? (u n 2 J)=E (F K j):=((b y).box.T 2).trans hS.fU;have ag:=(b y).box.lt;have ai:wc.cell? (u c 0 J)=E (g (E (u tb 0 J))):=(b y).one.e.T 0;have aj:=(b y).one.e.lt;by_cases a8:j<200
  .obtain⟨cZ,co,cp⟩:=(b y).one.j2.ay;have b0:=l (On tb j cZ wc co cp a8);clear co cp;have cV:decide (j<200)=true:=by simpa using a8
   go_wp2_with fail;refine(b b0).mono ?_;rintro e r ⟨rfl,rfl⟩;have aP:=l (show rH v B p r w bm br Q from⟨⟨W,lv,os,((b ae).still aW (b y).mod).more bw⟩⟩);clear b0 y ae;go_wp2;go_ret;exact⟨rfl,b aP⟩
  have cV:decide (j<200)=false:=by simpa using a8
  obtain⟨bE,bF,bH,bc⟩:=(b y).ord;have bP:∀a,(if a=tb then 30 else 0)=30->a=tb:=λa d=>by
   by_cases H:a=tb
   .exact H
   .rw[f H] at d;cases d
  obtain⟨cY,cI,a9,cd⟩:=AZ (N:=((Q+1:Nat):Int)) (b y).one.j2 (λa d=>by have:=bP a d;omega) (Io j z) (cJ.zero.more (by omega) (by omega)) (λ_ _ e=>(by cases e)) a8 (by omega) (by omega) (by omega);have a9:cY=0/\cI=gJ:=by
   obtain e|e:=a9
   .exact e
   .cases e
  have bZ:=l cd;have cy:=l a9;have a4:=l bP;have aH:=l (show n≠c/\tb≠c/\n≠tb from⟨by omega,by omega,by omega⟩);have a3:=l λaa=>zG 200 0 j (by omega) (by omega) aa;clear cd a9 bP bE bF bH bc;go_wp2_with fail;refine(b bZ).mono ?_;clear bZ;rintro e r (⟨a2,c9,df,af,rfl,bv,aX,aY⟩|⟨rfl,cS,af,b6,b8,aX,aY,a7⟩)
  .obtain⟨I,ap,cm,cg,ch,ci,Z⟩:=TM (b y) bv aX aY (b cy) (by omega) cc;have bg:=l ((b b1) I cm (.inl ⟨cg,ch,ci⟩));have ba:=bv.mod;have aK:∀a,a≠tb->¬(if a=tb then 30 else 0)=30:=λa d e=>d ((b a4) a e);have ah:=ba.e (b y).box (aK _ (b aH).2.2);have bo:r.cell? (u n 2 J)=E (F K j):=(ah.T 2).trans hS.fU;have bq:=ah.lt;have aU:=ba.e (b y).one.e (aK _ (λe=>(b aH).2.1 e.symm))
   have bs:r.cell? (u c 1 J)=E (g J):=aU.T 1;have bt:r.cell? (u c 5 J)=E (F K 200):=aU.T 5;have f16:=aU.aC;have bB:=aU.lt;have cO:=(b aH).1
   have aI:=l (show aO (r.setCell (u c 1 J) (g (E (u a2 0 J)))) (λa=>n+1<=a/\a<(r.setCell (u c 1 J) (g (E (u a2 0 J)))).heap.size) c I/\G No o (r.setCell (u c 1 J) (g (E (u a2 0 J))))/\n+5<=(r.setCell (u c 1 J) (g (E (u a2 0 J)))).heap.size from by
    obtain⟨bE,bF,bH,bc⟩:=(b y).ord
    have aF:=ba.size
    simp only[ny]
    exact⟨ap,(b y).mod.trans' Z (λa d az=>by obtain e|e:=d<;>omega),by omega⟩)
   clear ap cm cg ch ci Z ba bv aX aY aK ah aU a5 ag ai aj y;go_upto_region 8 with fail;go_cut [8] from 48 to 58 (λbO ao=>(∃bn,bO=L bn)/\Hid (∃Q,ao=(r.setCell (u c 1 J) (g (E (u a2 0 J)))).drewN Q))
   case first=>
    go_quiet ((go_at_call 21;exact Calls.quiet_of_same ((b a3) _)));go_wp2;go_meet;exact⟨⟨_,rfl⟩,_,rfl⟩
   case rest=>
    obtain⟨⟨cG,rfl⟩,a1⟩:=hcut
    apply_assumption
    have x:=l (show aO wc (λa=>n+1<=a/\a<wc.heap.size) c I/\G No o wc/\n+5<=wc.heap.size from by
     obtain⟨aJ,rfl⟩:=b a1
     obtain⟨bR,bS,bT⟩:=b aI
     exact⟨bR.mod ((G.refl No _).drewN aJ) (λ_ _ aF=>aF),bS.drewN aJ,bT⟩)
    clear aI a1 bo bq bs bt f16 bB a3;have A:=((b ae).still aW (b x).2.1);have aT:=l A;obtain⟨aw,ax,rfl⟩:=aR A.row;have c4:wc.cell? (u w 0 J)=E (C aw os.length ax):=A.e.T 0;have c8:=A.e.lt;have c6:=A.e.aC;have aB:G No wc (wc.alloc (m #[ptrTo c] 48)):=(G.refl _ _).alloc _;have ar:=l (aB.owns A.row (λ_ _ aD=>aD));have au:=l (Hd wc 48 c);have av:=l (aB.e A.e (λaD=>aD));have cR:=A.px
    have bf:=l (show E w≠(C aw os.length ax).ownBlock from λe=>(A.ku w e.symm).2.2 rfl);have aZ:∀aC∈[ptrTo c],aC.oneCell'=true:=λaC hu=>by simp at hu;subst hu;rfl
    have aS:=l aZ;obtain⟨bA,bI,bJ,bL,bM⟩:=fq Hc;clear A aB aZ;unfold ptrTo at ar au av aS
    go_wp2_with (at_builtin;refine fJ rfl (.tmp 70) (.tmp 72) 28 rfl 48 bA _ 1 8 underlying28 bI bJ bL bM rfl (by decide) (C aw os.length ax) os.length (os.map ptrTo) (by simp[aM]) (by exact b ar) (C (E (u wc.heap.size 0 J)) 1 1) 1 [g (E (u c 0 J))] (by simp[aM]) (by exact b au) rfl (b aS) (by unfold maxLen;omega) (by omega) ?_;intro c0 c1 aA ay a0;obtain⟨cB,cH,rfl⟩:=aR aA;have ab:=X.grown (b av) ay (b bf);have c2:=ab.T 0;have c7:=ab.lt;have c5:=ab.aC)
    have aP:=l (Ik aW bw (b bg) (b ae) (b x) (b aT) (b aQ) aA ay a0);clear aA ay a0 ab ar au av aT x ae;go_wp2;go_ret;exact⟨rfl,b aP⟩
  .obtain⟨T,ce⟩:∃T,T=wc.heap.size:=⟨_,rfl⟩;have ck:G (λa=>(jN tb O N j z).okp a=30) wc r:=a7;have aE:=(b y).one.tu b6 ck;have aK:∀a,a≠tb->¬(if a=tb then 30 else 0)=30:=λa d e=>d ((b a4) a e);have ah:=a7.e (b y).box (aK _ (b aH).2.2);have bo:r.cell? (u n 2 J)=E (F K j):=(ah.T 2).trans hS.fU;have bq:=ah.lt;have bs:r.cell? (u c 1 J)=E (g J):=aE.e.T 1;have bt:r.cell? (u c 5 J)=E (F K 200):=aE.e.T 5
   have f16:=aE.e.aC;have bB:=aE.e.lt;have cO:=(b aH).1;have Z:G (λa=>a=c) r (r.setCell (u c 1 J) (g J)):=(G.refl _ _).at 1 _;have ap:=aE.rI (I':={ jN tb O N j z with K:={ (jN tb O N j z).K with T:=af } }) Z (λa _ e=>e) (aE.e.set 1 (g J)) ⟨rfl,rfl,rfl,rfl,rfl,rfl,rfl⟩ ⟨rfl,rfl,rfl,rfl,rfl⟩ ⟨rfl,rfl⟩
   have bk:=l (show dw (Q+1) { jN tb O N j z with K:={ (jN tb O N j z).K with T:=af } } from by
    have H:=(TK (n:=Q+1) (tb:=tb) (wb:=O) (tob:=N) (fu:=z) (show ¬j<200 by omega) cc).b
    exact⟨⟨H.same,H.ok,H.may,H.most,H.ch,by show ¬af.ay<200;rw[aY];show ¬j<200;omega,H.fg,H.file⟩,λaz=>(by cases az),λ_=>⟨by show eU af 0 gJ J (200+60* 0) 200;exact aX,.inl rfl⟩⟩)
   have aI:=l (show aO (r.setCell (u c 1 J) (g J)) (λa=>n+1<=a/\a<T) c { jN tb O N j z with K:={ (jN tb O N j z).K with T:=af } }/\G No o (r.setCell (u c 1 J) (g J))/\n+5<=T/\X (r.setCell (u c 1 J) (g J)) n S 45 from by
    obtain⟨bE,bF,bH,bc⟩:=(b y).ord
    rw[ce]
    refine⟨ap,((b y).mod.trans' a7 (λa d az=>by have:=(b a4) a d;omega)).trans' Z (λa (d:a=c) az=>by omega),bc,Z.e ah (by omega)⟩)
   have ct:=l b8;have cx:=l (show ∀a,(jN tb O N j z).okp a=30->a=tb from λa d=>(b a4) a d);obtain⟨s,bu⟩:∃s,s={ jN tb O N j z with K:={ (jN tb O N j z).K with T:=af } }:=⟨_,rfl⟩;have bV:=l (show s.K.tb=tb/\s.K.T=af/\s.okp=(jN tb O N j z).okp from by rw[bu];exact⟨rfl,rfl,rfl⟩);rw[<-bu] at aI bk;clear aE ap ck Z b6 aX aY a7 cS b8 bu aK ah a5 ag ai aj;go_upto_region 8 with fail
   go_cut [8] from 48 to 58 (λbO ao=>(∃bn,bO=L bn)/\Hid (∃Q,ao=(r.setCell (u c 1 J) (g J)).drewN Q))
   case first=>
    go_quiet ((go_at_call 21;exact Calls.quiet_of_same ((b a3) _)));go_wp2;go_meet;exact⟨⟨_,rfl⟩,_,rfl⟩
   case rest=>
    obtain⟨⟨cG,rfl⟩,a1⟩:=hcut
    apply_assumption
    have x:=l (show aO wc (λa=>n+1<=a/\a<T) c s/\G No o wc/\n+5<=T/\X wc n S 45 from by
     obtain⟨aJ,rfl⟩:=b a1
     obtain⟨bR,bS,bT,c3⟩:=b aI
     exact⟨bR.mod ((G.refl No _).drewN aJ) (λ_ _ aF=>aF),bS.drewN aJ,bT,c3.drewN aJ⟩)
    clear aI a1 bo bq bs bt f16 bB a3 ce;have ai:wc.cell? (u c 0 J)=E (g (E (u s.K.tb 0 J))):=(b x).1.e.T 0;have aj:=(b x).1.e.lt;have bh:=l (show ∀a,s.okp a=30->a=tb from λa d=>(b cx) a (by rw[<-(b bV).2.2];exact d));have bU:=l (xL (b x).1.e rfl (b x).1.j2 (by rw[(b bV).2.1];exact b ct));go_wp2_with fail;refine(b bU).mono ?_;rintro e am ⟨rfl,t7,Z⟩;have b9:s.okp s.K.tb=30:=(b x).1.j2.dq
    have bb:G (λa=>s.okp a=30) wc am:=Z.mono (λa _ (e:a=s.K.tb)=>by rw[e];exact b9);have ap:aO am (λa=>n+1<=a/\a<T) c s:=(b x).1.tu t7 bb
    have R:=l (show aO am (λa=>n+1<=a/\a<T) c s/\G No o am/\n+5<=T/\X am n S 45 from⟨ap,(b x).2.1.trans' bb (λa d az=>by have:=(b bh) a d;have:=(b x).1.lt tb (by have:=(b x).1.oo a (by have d:s.okp a=30:=d;omega);rwa [(b bh) a d] at this);have H:=(b x).1.oo a (by have d:s.okp a=30:=d;omega);have:=b aQ;omega),(b x).2.2.1,bb.e (b x).2.2.2 (λe=>(b aH).2.2 ((b bh) n e))⟩)
    clear t7 Z bb ap x bU ai aj b9;have ai:am.cell? (u c 0 J)=E (g (E (u s.K.tb 0 J))):=(b R).1.e.T 0;have aj:=(b R).1.e.lt;have cE:=((b R).2.2.2.T 23).trans cK;have cF:=((b R).2.2.2.T 24).trans cL;have ag:=(b R).2.2.2.lt;have bX:=l λaa (a6:G No am aa)=>((b R).1.mod a6 (λ_ _ aF=>aF)).oh M P i sp cT ((b cw) aa ((b R).2.1.trans a6)) (λcM a d e=>by have:=(b cv) cM a d;omega)
    have bY:=l λcf (hi:cf<4)=>((b R).1.j2.last cf hi).1;go_upto_region 17 with fail;go_cut [] from 59 to 102 (λao=>Hid (aO ao (λa=>n+1<=a/\a<T) c (ot s M sp)/\G No o ao))
    case first=>
     go_region_law (refine fP rfl 23 _ _ rfl #[g (E (u s.K.tb 0 J)),C i M.length P,.int .u8 sp] (by simp[aM,bN]) (λaa=>by kernel_rfl) (aq #[]) _ ((b bX) _ (G.refl No am).drew) ?_;intro ak bx;have cr:=l (show aO ak (λa=>n+1<=a/\a<T) c (ot s M sp)/\G No o ak from⟨bx.1,(b R).2.1.drew.trans' bx.2 (λa d az=>by have H:=(b R).1.oo a (by have d:s.okp a=30:=d;omega);have:=b aQ;omega)⟩);clear bx)
     all_goals go_wp2
     all_goals go_meet
     all_goals exact cr
    case rest=>
     obtain⟨bQ,cl⟩:=b hcut
     apply_assumption
     have b2:=l (vq bQ ((b bk).vm.oh (b bY) M sp) false (.inr (by show(-1:Int)<0;decide)));have bl:=l bQ;have bi:=l cl;clear bQ cl hcut ai aj cE cF ag bX bY;go_wp2_with fail;refine(b b2).mono ?_;rintro e ad ⟨rfl,cU⟩;obtain⟨⟨b3,cq,cn,f9⟩,bC⟩:=cU;have bg:=l ((b b1) b3 cn (f9.imp (λH=>H.2) (λH=>H.1)))
     have x:=l (show aO ad (λa=>n+1<=a/\a<ad.heap.size) c b3/\G No o ad/\n+5<=ad.heap.size from by
      have aF:=bC.size
      have cj:=(b bl).lt
      have c':=b aQ
      have dc:=cj c (b bl).vn
      have dh:=(b bi).size
      have dd:=(b R).2.2.1
      have de:=cj (T - 1) ⟨by omega,by omega⟩
      refine⟨cq.kt (λa d=>?_) (λa d=>d.2),(b bi).trans' bC (λa d az=>by omega),by omega⟩
      obtain d|d:=d
      .exact⟨d.1,by omega⟩
      .exact⟨by omega,d.2⟩)
     clear cq cn f9 bC b2 bl bi R bk;have A:=((b ae).still aW (b x).2.1);have aT:=l A;obtain⟨aw,ax,rfl⟩:=aR A.row;have c4:ad.cell? (u w 0 J)=E (C aw os.length ax):=A.e.T 0;have c8:=A.e.lt;have c6:=A.e.aC;have aB:G No ad (ad.alloc (m #[ptrTo c] 48)):=(G.refl _ _).alloc _;have ar:=l (aB.owns A.row (λ_ _ aD=>aD));have au:=l (Hd ad 48 c);have av:=l (aB.e A.e (λaD=>aD));have cR:=A.px
     have bf:=l (show E w≠(C aw os.length ax).ownBlock from λe=>(A.ku w e.symm).2.2 rfl);have aZ:∀aC∈[ptrTo c],aC.oneCell'=true:=λaC hu=>by simp at hu;subst hu;rfl
     have aS:=l aZ;obtain⟨bA,bI,bJ,bL,bM⟩:=fq Hc;clear A aB aZ;unfold ptrTo at ar au av aS
     go_wp2_with (at_builtin;refine fJ rfl (.tmp 109) (.tmp 111) 28 rfl 48 bA _ 1 8 underlying28 bI bJ bL bM rfl (by decide) (C aw os.length ax) os.length (os.map ptrTo) (by simp[aM]) (by exact b ar) (C (E (u ad.heap.size 0 J)) 1 1) 1 [g (E (u c 0 J))] (by simp[aM]) (by exact b au) rfl (b aS) (by unfold maxLen;omega) (by omega) ?_;intro c0 c1 aA ay a0;obtain⟨cB,cH,rfl⟩:=aR aA;have ab:=X.grown (b av) ay (b bf);have c2:=ab.T 0;have c7:=ab.lt;have c5:=ab.aC)
     have aP:=l (Ik aW bw (b bg) (b ae) (b x) (b aT) (b aQ) aA ay a0);clear aA ay a0 ab ar au av aT x ae;go_wp2;go_ret;exact⟨rfl,b aP⟩
theorem TQ{B:U->(Nat->Prop)->Prop}(z:py B)(Z:∀Q I,v Q I->v (Q+1) I){lv x y:V}{os:List Nat}(n:eV v B p o W w lv x y os Q)(ag:Q+1<=1048577){S:Array V}{sp:Int}{a:List Int}(hS:ly S 1 j k)(ab: -9223372036854775808<=k/\k<=9223372036854775807)(R:S[23]? =E (C i a.length P))(T:S[24]? =E (.int .u8 sp))(ae:a.length<=9223372036854775807)(af:Reads o (C i a.length P) a.length (a.map (F K)))(ad:0<a.length->∀r,(C i a.length P).ownBlock=E r->r<o.heap.size)
  (aa:∀I,dw (Q+1) I->Ba I->v (Q+1) I):Calls h 10 #[g (E (u w 0 J)),t S] o λe w'=>e=q (L true)/\rH v B p w' w x y Q:=by
 have d:=X.new o S 45;have aj:=(d.T 0).trans hS.fL;have ak:=d.lt;have M:=l d;have ah:=hS.size
 have s:=l (TN z Z (n.still z ((G.refl No o).alloc (m S 45))) ag hS ab R T ae (by
  obtain c|⟨O,k,e,c⟩:=af
  .exact .inl c
  .exact .inr ⟨O,k,e,λH ai hu=>eG ((G.refl No o).alloc _) (c H ai hu)⟩) (λY r c=>by have:=ad Y r c;simp;omega) aa)
 clear n d;go_enter func10,ntmps10;go_wp2_with (refine(rZ rfl 45 _ rfl o.heap.size 0 rfl S 45 (b M) S (λH am n=>by rw[bK];simpa using n) AP (by rw[ah];exact xW) ?_));refine(b s).mono ?_;rintro e ao ⟨rfl,A⟩;have N:=l A;clear A s;go_wp2;go_ret;exact⟨rfl,b N⟩
theorem TS{B:U->(Nat->Prop)->Prop}(aK:py B){lv aC aF:V}{os:List Nat}(N:eV v B p o W w lv aC aF os P)(a7:P<=1099511627776)(aQ:0<os.length){S:Array V}{aD aH a:Int}(hS:ly S k aD aH)(ay:S[1]? =E (F K a))(aS: -9223372036854775808<=a/\a<=9223372036854775807)(a6:2<=k/\k<=13)(T:Array V)(aL:T.size=16)(aw:∀aB af,T.toList[aB]? =E af->S[4+aB]? =E af)(j:Nat)(aN:j<os.length)(aP:kz a (os.length:Int)=(j:Int)){I:aG}(ax:aO o (λk=>W k=j+1) os[j] I){Q:U->Prop}
  (n:10<=k->∀c,Calls h 14 #[ptrTo os[j],t S] ((o.alloc (m S 45)).drewN c) λd w'=>d=q (L true)/\Q w')(y:k<=9->(I.kb=J\/(k≠2/\k≠9/\I.sh=true))->∀c,Q ((o.alloc (m S 45)).drewN c))(r:k=2->∀i,I.kb=E i->∀c,Calls h 15 #[ptrTo os[j],t T] ((o.alloc (m S 45)).drewN c) λd w'=>d=q (L true)/\Q w')
  (x:k=9->∀i,I.kb=E i->∀c,Calls h 16 #[ptrTo os[j]] ((o.alloc (m S 45)).drewN c) λd w'=>d=q (L true)/\Q w')(s:k<=8->k≠2->∀i,I.kb=E i->I.sh=false->∀c,Calls h 17 #[ptrTo w,ptrTo os[j],t S] ((o.alloc (m S 45)).drewN c) λd w'=>d=q (L true)/\Q w'):Calls h 10 #[g (E (u w 0 J)),t S] o λd w'=>d=q (L true)/\Q w':=by
 have M:=X.new o S 45;have ar:=(M.T 0).trans hS.fL;have aE:=(M.T 1).trans ay;have au:=M.lt;have Z:=l λc=>M.drewN c;have Y:=N.still aK ((G.refl No o).alloc (m S 45));obtain⟨aW,aI,rfl,bh,az⟩:=Y.at aQ;have a0:(o.alloc (m S 45)).cell? (u w 0 J)=E (C (E (u aW 0 J)) os.length aI):=Y.e.T 0;have a1:=Y.e.lt;have av:=az j aN;have a5:=Y.px;have ad:=ax.mod ((G.refl No o).alloc (m S 45)) (λ_ _ aZ=>aZ)
 have am:=l λc=>(show((o.alloc (m S 45)).drewN c).cell? ⟨os[j],1,J⟩=E (gL I.kb)/\((o.alloc (m S 45)).drewN c).cell? ⟨os[j],7,J⟩=E (L I.sh)/\os[j]<((o.alloc (m S 45)).drewN c).heap.size from
  ⟨(ad.e.drewN c).T 1,(ad.e.drewN c).T 7,(ad.e.drewN c).lt⟩)
 have ag:=l λc=>Gg a (os.length:Int) aS (by omega) ((o.alloc (m S 45)).drewN c);rw[aP] at ag;have aT:=hS.size;have ao:=l aT;have ah:=l λc=>(show((o.alloc (m S 45)).drewN c).rangeAt o.heap.size 4 T.toList from(M.drewN c).range 4 _ aw);have ba:(k==1)=false:=by simp;omega
 have bc:decide (k<2)=false:=by simp;omega
 have bf:decide (k>13)=false:=by simp;omega
 have a8:(0:Int)<=j:=by omega
 have a9:(j:Int)<(os.length:Int):=by omega
 have bd:¬k<2:=by omega
 have bg:¬k>13:=by omega
 have n:=l n;have y:=l y;have r:=l r;have x:=l x;have s:=l s;generalize aR:os[j]=aX at *;clear N Y hS ay M az ax ad aR aw;generalize a4:os.length=ap at *;have bi:((ap:Int)==0)=false:=by rw[tM];omega
 have bk:¬ap=0:=by omega
 unfold ptrTo at av n r x s;go_enter func10,ntmps10;go_upto_region 5 with fail;go_cut [5] (λaj aY=>aj=g (E (u aX 0 J))/\∃c,aY=(o.alloc (m S 45)).drewN c)
 case first=>
  go_quiet ((go_at_call 13;exact Calls.quiet_of_same ((b ag) _)));go_wp2;go_meet;exact⟨rfl,_,rfl⟩
 case rest=>
  obtain⟨rfl,c,rfl⟩:=hcut
  apply_assumption
  have ar:((o.alloc (m S 45)).drewN c).cell? (u o.heap.size 0 J)=E (F K k):=ar;have au:o.heap.size<((o.alloc (m S 45)).drewN c).heap.size:=au;obtain⟨R,aA,bl⟩:=(b am) c;have Z:=l ((b Z) c);have ah:=l ((b ah) c);have n:=l λd=>(b n) d c;have y:=l λd H=>(b y) d H c;have r:=l λd i H=>(b r) d i H c;have x:=l λd i H=>(b x) d i H c;have s:=l λd aJ i H aj=>(b s) d aJ i H aj c;clear a0 a1 av aE ag am
  generalize (o.alloc (m S 45)).drewN c=bm at *;by_cases aa:10<=k
  .have aU:decide (k>=10)=true:=by simpa using aa
   have e:=l ((b n) aa);clear n y r x s;go_wp2_with (refine(rZ rfl 45 _ rfl o.heap.size 0 rfl S 45 (b Z) S (λj af N=>by rw[bK];simpa using N) AP (by rw[b ao];exact xW) ?_));refine(b e).mono ?_;rintro d ak ⟨rfl,z⟩;have A:=l z;clear z e;go_wp2;go_ret;exact⟨rfl,b A⟩
  have aU:decide (k>=10)=false:=by simpa using aa
  have bb:¬k>=10:=aa
  cases O:I.kb with
  |none=>
   rw[O] at R;unfold gL at R;simp only[xF] at R;have e:=l ((b y) (by omega) (.inl O));clear n y r x s;go_wp2;go_ret;exact⟨rfl,b e⟩
  |some i=>
   rw[O] at R;unfold gL at R;simp only[uN] at R;by_cases ab:k=2
   .subst ab;have e:=l ((b r) rfl i O);clear n y r x s;go_wp2_with (refine wpList_load_mid rfl 41 _ rfl o.heap.size 4 rfl T.toList _ (b ah) underlying41 rfl (by rw[BW,aL];exact St) ?_);refine(b e).mono ?_;rintro d ak ⟨rfl,z⟩;have A:=l z;clear z e;go_wp2;go_ret;exact⟨rfl,b A⟩
   have a2:(k==2)=false:=by simp[ab]
   by_cases ai:k=9
   .subst ai;have e:=l ((b x) rfl i O);clear n y r x s;go_wp2_with fail;refine(b e).mono ?_;rintro d ak ⟨rfl,z⟩;have A:=l z;clear z e;go_wp2;go_ret;exact⟨rfl,b A⟩
   have a3:(k==9)=false:=by simp[ai]
   cases ae:I.sh with
   |true=>
    rw[ae] at aA;have e:=l ((b y) (by omega) (.inr ⟨ab,ai,ae⟩));clear n y r x s;go_wp2;go_ret;exact⟨rfl,b e⟩
   |false=>
    rw[ae] at aA;have e:=l ((b s) (by omega) ab i O ae);clear n y r x s;go_wp2_with (refine(rZ rfl 45 _ rfl o.heap.size 0 rfl S 45 (b Z) S (λj af N=>by rw[bK];simpa using N) AP (by rw[b ao];exact xW) ?_));refine(b e).mono ?_;rintro d ak ⟨rfl,z⟩;have A:=l z;clear z e;go_wp2;go_ret;exact⟨rfl,b A⟩
theorem mH.pw{S:Array V}(c:mH S)(hi:w<23)(b:S[w]? =E (F K j)): -9223372036854775808<=j/\j<=9223372036854775807:=by
 obtain⟨i,a,d,e⟩:=c.ints w hi _ b;injection a with _ a;subst a;exact⟨d,e⟩
theorem dw.jB{I:aG}(a:dw w I)(R:gT):dw w (I.jB R):=by
 unfold aG.jB;split
 .exact⟨⟨a.b.same,a.b.ok,a.b.may,a.b.most,a.b.ch,a.b.ay,a.b.fg,a.b.file⟩,a.live,a.dead⟩
 .exact a
theorem aG.TT(I:aG)(R:gT):(I.jB R).kb=I.kb/\(I.jB R).tl=I.tl/\(I.jB R).ns=I.ns/\(I.jB R).bs=I.bs:=by
 unfold aG.jB;split<;>exact⟨rfl,rfl,rfl,rfl⟩
theorem jL.imp{w':U}{a:Nat->Prop}{R R':aG->Prop}(c:jL p w' a w R)(j:∀I,R I->R' I):jL p w' a w R':=by
 obtain⟨⟨b,d,e⟩,i⟩:=c;exact⟨⟨b,d,j _ e⟩,i⟩
end Go.Proofs.YthhibagcpjeihaaGreat
