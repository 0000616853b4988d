import Derived.Test.YthhibagcpjeihaaGreatW1
import Derived.Deep.DeepCutAuto
import Derived.Maps.RangeRun
import Derived.ChangeKeysEq
import Derived.DeepKeys
import Derived.Maps.RangeWalk
import Derived.Maps.OwnOps
open Go.Proofs.Tryz
open Go.Addr renaming mk->u
open Go.Value renaming int->F,pointer->g,bool->L,agg->t,tuple->aq
open Go.IntKind renaming i64->K
open Option renaming none->J,some->E
open Go renaming World->U,Value->V
open Go.Proofs.Tryz renaming prog->h,underlying162->oA
open Go.Ending renaming returned->q
open Go.Obj renaming cells->m
open Go.Instr renaming lookup->ji
open And renaming intro->gE
open List renaming range->jF
open Go.Oper renaming wp->gu
set_option linter.unusedVariables false
set_option linter.unusedSimpArgs false
set_option maxRecDepth 100000
set_option maxHeartbeats 2000000
namespace Go.Proofs.YthhibagcpjeihaaGreat
open Go.RowKit
open Go.ChangeMaps (setBlock)
open M
def dc(a:Nat->Int)(c:Nat)(d:Int):Nat->Int:=λb=>if b=c then d else a b
def eX(p:O)(e:V)(a b d c:Nat->Int):Array V:=
 dZ p.rows p.y p.Z p.af p.ag p.ai p.aj e (a 0) (a 1) (a 2) (a 3) (b 0) (b 1) (b 2) (b 3) (d 0) (d 1) (d 2) (d 3) (c 0) (c 1) (c 2) (c 3) p.ep
def lJ(d c:Nat)(e:Int)(b:Nat->Int):Nat->Int:=if d=1\/d=2 then dc b c (b c+e) else b
theorem B8(p:O)(e:V)(a c i d:Nat->Int)(b:Nat)(k:b<4)(j:Int):(eX p e a c i d).setIfInBounds (8+b) (F K j)=eX p e (dc a b j) c i d:=by
 match b,k with
 |0,_=>rfl
 |1,_=>rfl
 |2,_=>rfl
 |3,_=>rfl
theorem B9(p:O)(e:V)(a c i d:Nat->Int)(b:Nat)(k:b<4)(j:Int):(eX p e a c i d).setIfInBounds (12+b) (F K j)=eX p e a (dc c b j) i d:=by
 match b,k with
 |0,_=>rfl
 |1,_=>rfl
 |2,_=>rfl
 |3,_=>rfl
theorem Ca(p:O)(e:V)(a c i d:Nat->Int)(b:Nat)(k:b<4)(j:Int):(eX p e a c i d).setIfInBounds (16+b) (F K j)=eX p e a c (dc i b j) d:=by
 match b,k with
 |0,_=>rfl
 |1,_=>rfl
 |2,_=>rfl
 |3,_=>rfl
theorem Cb(p:O)(i:V)(a c d e:Nat->Int)(b:Nat)(j:b<4):(eX p i a c d e)[8+b]? =E (F K (a b))/\(eX p i a c d e)[12+b]? =E (F K (c b))/\(eX p i a c d e)[16+b]? =E (F K (d b)):=by
 match b,j with
 |0,_=>exact⟨rfl,rfl,rfl⟩
 |1,_=>exact⟨rfl,rfl,rfl⟩
 |2,_=>exact⟨rfl,rfl,rfl⟩
 |3,_=>exact⟨rfl,rfl,rfl⟩
def Small(a:Nat->Int):Prop:=∀b,b<4-> -100000<=a b/\a b<=100000
theorem Cc(r b d:Nat)(p:O)(x:V)(i j fs v:Nat->Int)(row y B H k:Int)(w:U)(M:X w r (eX p x i j fs v) 164)(e:b<4)(n:d<4)(T:Small i)(W:Small j)(N:Small fs)(I: -1<=k/\k<=1):Calls h 134 #[g (E (u r 0 J)),t #[F K row,F K y],t #[F K b,F K B,F K d,F K H],F K k] w λz w'=>
   z=q (aq #[])/\G (λd=>d=r) w w'/\X w' r (eX p x (if row<=p.Z then dc i b (i b+k) else i) (if row<=p.Z then j else dc j b (j b+k)) (lJ b d k fs) v) 164:=by
 obtain⟨R,S,gs⟩:=Cb p x i j fs v b e;have gk:=(Cb p x i j fs v d n).2.2;by_cases s:row<=p.Z
 .refine(Bq r b d 8 _ row y B H p.Z (i b) (fs d) k w M rfl (.inl ⟨s,rfl⟩) e n R gk (T b e) (N d n) I).mono ?_;rintro z w' ⟨rfl,A,c⟩;refine⟨rfl,A,?_⟩;rw[D s,D s];unfold qE at c;unfold lJ;split at c
  .rename_i l;rw[B8 _ _ _ _ _ _ _ e,Ca _ _ _ _ _ _ _ n] at c;rw[D l];exact c
  .rename_i l;rw[B8 _ _ _ _ _ _ _ e] at c;rw[f l];exact c
 .refine(Bq r b d 12 _ row y B H p.Z (j b) (fs d) k w M rfl (.inr ⟨s,rfl⟩) e n S gk (W b e) (N d n) I).mono ?_;rintro z w' ⟨rfl,A,c⟩;refine⟨rfl,A,?_⟩;rw[f s,f s];unfold qE at c;unfold lJ;split at c
  .rename_i l;rw[B9 _ _ _ _ _ _ _ e,Ca _ _ _ _ _ _ _ n] at c;rw[D l];exact c
  .rename_i l;rw[B9 _ _ _ _ _ _ _ e] at c;rw[f l];exact c
def aU(p:O)(c:List z):Nat->Int:=λb=>kx p true b c
def aW(p:O)(c:List z):Nat->Int:=λb=>kx p false b c
def aE(c:List z):Nat->Int:=λb=>iO b c
def jn(p:O)(c:List z):Nat->Int:=λb=>M.leftOf p c b
def fM(p:O)(c:V)(b:List z):Array V:=eX p c (aU p b) (aW p b) (aE b) (jn p b)
structure lK (es:List az) (p:O) (l:List z):Prop where
 qM:∀e∈es,p.e e.r e.c=true/\e.s≠0
 dX:∀i (h:i<l.length),eZ es l[i].row l[i].ae=(l[i].st,l[i].pa,l[i].cl,l[i].un)
 size:es.length=l.countP λs=>s.st !=0
def cF(w:U)(S:Nat->Prop)(d:Nat)(p:O)(i:List z):Prop:=
 ∃c b e,X w d (fM p (.map (E c)) i) 164/\w.heap[c]? =E (cX b e)/\gq b e/\lK b p i/\S d/\S c
variable {p S j:Nat} {N:List az} {v W:Int} {B:O} {R:az} {i:Array V} {n:TypeId}
theorem G.map{S:Nat->Prop}{w w':U}(c:G S w w')(b:w.heap[p]? =E (cX N j))(d:¬S p):w'.heap[p]? =E (cX N j):=by
 rw[c.block p (Array.getElem?_eq_some_iff.1 b).1 d];exact b
variable {k I:List z}
theorem cF.mod{w w':U}{S S':Nat->Prop}{p:O}(s:cF w S j p k)(d:G S' w w')(e:∀i,S i->¬S' i):cF w' S j p k:=by
 obtain⟨l,r,n,v,x,y,A,b,c⟩:=s;exact⟨l,r,n,d.e v (e j b),d.map x (e l c),y,A,b,c⟩
theorem cF.bC{w w':U}{S:Nat->Prop}{p:O}(b:cF w S j p k)(c:G No w w'):cF w' S j p k:=b.mod c (λ_ _ d=>d)
theorem yC(b:List z)(d:b.length<=1000)(c:z->Bool):0<=((b.countP c:Nat):Int)/\((b.countP c:Nat):Int)<=1000:=by
 have:=oF (p:=c) (l:=b);omega
theorem X.pJ{w:U}(b:X w p i n)(c:w.heap[S]? =E (cX N j)):S≠p:=by
 rintro rfl;unfold X at b;rw[b] at c;simp[cX] at c
theorem Cd{w:U}(b:X w p i n)(c:S≠p)(o:Obj):X (setBlock w S o) p i n:=by
 unfold X at b ⊢;simp[setBlock,tO,c,b]
theorem vV{w:U}(c:p<w.heap.size)(b:Obj):(setBlock w p b).heap[p]? =E b:=by
 simp[setBlock,tO,c]
theorem G.setBlock{S:Nat->Prop}{a w:U}(b:G S a w)(e:S p\/a.heap.size<=p)(o:Obj):G S a (setBlock w p o):=by
 refine b.trans' (S':=λc=>c=p) ⟨rfl,rfl,rfl,by simp[ChangeMaps.setBlock],λc j i=>?_⟩ (λl hi k=>by subst hi;obtain b|b:=e;exact b;omega);simp[ChangeMaps.setBlock,tO];intro d;exact absurd d.symm i
set_option maxHeartbeats 4000000 in theorem Jw(i d aZ j k k':Nat)(p:O)(ak ao fs y am ap ar I M N aP:Nat->Int)(r n a0 a1 v x:Int)(w:U)(ad aj:List az)(ab ai:Nat)(R:X w i (eX p (.map (E d)) ak ao fs y) 164)(z:w.heap[d]? =E (cX ad ab))(aR:∀e:U,e.heap[d]? =E (cX ad ab)->(ji 162 (.map (E d)) (t #[F K r,F K n]) false).run h e=.ok (t #[F K aZ,F K a0,F K j,F K a1]) e)
  (S:k=0->∀(e:U) ty,e.heap[d]? =E (cX ad ab)->(Builtin.delete_ #[162,36] ty #[.map (E d),t #[F K r,F K n]]).run h e=.ok (aq #[]) (setBlock e d (cX aj ai)))(aw:k≠0->∀e:U,e.heap[d]? =E (cX ad ab)->(Instr.mapUpdate 162 (.map (E d)) (t #[F K r,F K n]) (t #[F K k,F K v,F K k',F K x])).run h e=.ok () (setBlock e d (cX aj ai)))
  (aT:∀e,X e i (eX p (.map (E d)) ak ao fs y) 164->Calls h 134 #[g (E (u i 0 J)),t #[F K r,F K n],t #[F K aZ,F K a0,F K j,F K a1],F K (-1)] e λc w'=>c=q (aq #[])/\G (λj=>j=i) e w'/\X w' i (eX p (.map (E d)) am ap ar y) 164)(aU:∀e,X e i (eX p (.map (E d)) am ap ar y) 164->Calls h 134 #[g (E (u i 0 J)),t #[F K r,F K n],t #[F K k,F K v,F K k',F K x],F K 1] e λc w'=>c=q (aq #[])/\G (λj=>j=i) e w'/\X w' i (eX p (.map (E d)) I M N y) 164)
  (aS:∀e,X e i (eX p (.map (E d)) I M N y) 164->Calls h 135 #[g (E (u i 0 J))] e λc w'=>c=q (aq #[])/\G (λj=>j=i) e w'/\X w' i (eX p (.map (E d)) I M N aP) 164):Calls h 118 #[g (E (u i 0 J)),t #[F K r,F K n],t #[F K k,F K v,F K k',F K x]] w λc w'=>c=q (aq #[])/\G (λj=>j=i\/j=d) w w'/\X w' i (eX p (.map (E d)) I M N aP) 164/\w'.heap[d]? =E (cX aj ai):=by
 have T:=R.pJ z;have bc:=R.lt;have aa:=R.T 7;rw[show(eX p (.map (E d)) ak ao fs y)[7]? =E (.map (E d)) from rfl] at aa
 have ba:=aR (((w.alloc (m #[F K r,F K n] 36)).alloc (m #[F K k,F K v,F K k',F K x] 199))).drew (by
  have:=G.map (G.refl No w|>.alloc (m #[F K r,F K n] 36)|>.alloc (m #[F K k,F K v,F K k',F K x] 199)|>.drew) z (λs=>s)
  exact this)
 have a3:=l R;have a5:=l z;have a4:=l S;have a8:=l aw;have a6:=l aT;have a7:=l aU;have aH:=l aS;have A:=l T;clear R z aR S aw aT aU aS T;go_enter func118,ntmps118;go_wp2_with fail;go_cut [] (λa2=>Hid (X a2 i (eX p (.map (E d)) am ap ar y) 164)/\Hid (G (λj=>j=i) ((w.alloc (m #[F K r,F K n] 36)).alloc (m #[F K k,F K v,F K k',F K x] 199)) a2))
 case first=>
  go_region_with (go_at_call 134;refine((b a6) _ ?_).mono ?_;exact(((b a3).alloc _).alloc _).drew;rintro c w3 ⟨rfl,ae,bb⟩)
  all_goals go_wp2
  all_goals go_meet
  all_goals exact⟨bb,(G.refl _ _).drew.trans ae⟩
 case rest=>
  obtain⟨aQ,W⟩:=hcut;have z:=b a5;have T:=b A;have bm:=(Array.getElem?_eq_some_iff.1 z).1;have mw:G No w ((w.alloc (m #[F K r,F K n] 36)).alloc (m #[F K k,F K v,F K k',F K x] 199)):=((G.refl _ w).alloc _).alloc _;have aA:X ((w.alloc (m #[F K r,F K n] 36)).alloc (m #[F K k,F K v,F K k',F K x] 199)) w.heap.size #[F K r,F K n] 36:=(X.new w _ _).alloc _
  have aB:X ((w.alloc (m #[F K r,F K n] 36)).alloc (m #[F K k,F K v,F K k',F K x] 199)) (w.heap.size+1) #[F K k,F K v,F K k',F K x] 199:=by
   have:=X.new (w.alloc (m #[F K r,F K n] 36)) #[F K k,F K v,F K k',F K x] 199
   rwa [bW] at this
  have ag:∀j,j=i->j≠w.heap.size/\j≠w.heap.size+1:=λj bl=>by omega
  have B:=(b W).e aA (λc=>by have:=(ag _ c).1;omega);have H:=(b W).e aB (λc=>by have:=(ag _ c).2;omega);have ae:=(b W).map (mw.map z (λs=>s)) (λc=>T c);have aI:G (λj=>j=i) w wc:=(mw.mono (λ_ _ s=>s.elim)).trans (b W);generalize aW:w.heap.size=a9 at *;generalize aX:a9+1=bk at *;have aN:=B.T;have aO:=H.T;have aJ:=l aI;have aC:=l B;have aD:=l H;have aF:=l ae;have aL:=l ag;have bg:=l aW
  have bh:=l aX;clear aA aB B H mw ae z T ag aI W aW aX aa ba bc;go_wp2_with fail;refine((b a7) _ (b aQ)).mono ?_;rintro c ah ⟨rfl,Y,au⟩;have B:=Y.e (b aC) (λc=>by have:=((b aL) _ c).1;omega);have H:=Y.e (b aD) (λc=>by have:=((b aL) _ c).2;omega);have ax:=Y.map (b aF) (λc=>(b A) c);have aK:=l ((b aJ).trans Y);have aE:=l au;have aG:=l ax;have aY:=(Array.getElem?_eq_some_iff.1 ax).1
  have aa:=au.T 7;rw[show(eX p (.map (E d)) I M N y)[7]? =E (.map (E d)) from rfl] at aa;clear aN aO;have aN:=B.T;have aO:=H.T;clear au B H Y ax aJ aC aD aF aQ;by_cases af:k=0
  .subst af;have S:=(b a4) rfl ah.drew;have bf:=λty=>S ty (b aG);clear S;rw[show(((0:Nat):Int))=0 from rfl] at *;go_wp2_with fail;go_region
   all_goals
    go_wp2_with fail;refine((b aH) _ ?_).mono ?_
    .exact Cd (X.drew (b aE)) (b A) _
    rintro c bd ⟨rfl,Z,av⟩;go_wp2;go_end0;have ay:d<ah.drew.heap.size:=aY;refine⟨rfl,(((b aK).drew.mono (λ_ _ s=>.inl s)).setBlock (.inl (.inr rfl)) _).trans (Z.mono (λ_ _ s=>.inl s)),av,Z.map (vV ay _) (λc=>(b A) c)⟩
  .have bn:((k:Int)==0)=false:=by simp;omega
   have aw:=(b a8) af ah.drew (b aG);have bi:=l af;clear af;go_wp2_with fail;go_region
   all_goals
    go_wp2_with fail;refine((b aH) _ ?_).mono ?_
    .exact Cd (X.drew (b aE)) (b A) _
    rintro c bd ⟨rfl,Z,av⟩;go_wp2;go_end0;have ay:d<ah.drew.heap.size:=aY;refine⟨rfl,(((b aK).drew.mono (λ_ _ s=>.inl s)).setBlock (.inl (.inr rfl)) _).trans (Z.mono (λ_ _ s=>.inl s)),av,Z.map (vV ay _) (λc=>(b A) c)⟩
def aJ(p:O)(b:List z):Prop:=(⟨0,p,b,0⟩:bV).wf
theorem aJ.set{p:O}(b:aJ p k)(hi:S<k.length){c:z}(v:c.wf)(s:c.row=k[S].row)(l:c.ae=k[S].ae):aJ p (k.set S c):=by
 refine⟨b.aY,b.bI,by simpa using b.len,λi n=>?_,λy x=>?_⟩
 .have r:i<k.length:=by simpa using n
  have e:=b.place i r;simp only[pK] at e ⊢;split
  .rename_i j;subst j;rw[s,l];exact e
  .exact e
 .obtain d|d:=Ce x
  .exact b.dX y d
  .rw[d];exact v
theorem Cf{p:O}(b:aJ p k):jn p k 0=max (min (aU p k 0+aW p k 0) (p.af - (aE k 0+aE k 1+aE k 2+aE k 3))) 0/\jn p k 1=max (min (min (aU p k 0+aW p k 0) (p.af - (aE k 0+aE k 1+aE k 2+aE k 3))) (p.ag - (aE k 1+aE k 2+aE k 3))) 0/\jn p k 2=max (min (min (min (aU p k 0+aW p k 0) (p.af - (aE k 0+aE k 1+aE k 2+aE k 3))) (p.ag - (aE k 1+aE k 2+aE k 3))) (p.ai - (aE k 2+aE k 3))) 0/\
  jn p k 3=max (min (min (min (min (aU p k 0+aW p k 0) (p.af - (aE k 0+aE k 1+aE k 2+aE k 3))) (p.ag - (aE k 1+aE k 2+aE k 3))) (p.ai - (aE k 2+aE k 3))) (p.aj - aE k 3)) 0:=by
 obtain⟨f0,f1,f2,f3⟩:=Iq k (λd c=>⟨(b.dX d c).oy,(b.dX d c).c1⟩);have r:=Ip p k;have e:((ew k:Nat):Int)=aU p k 0+aW p k 0:=by rw[r];simp[aU,aW]
 have i:((fI 0 k:Nat):Int)=aE k 0+aE k 1+aE k 2+aE k 3:=by rw[f0];simp[aE]
 have j:((fI 1 k:Nat):Int)=aE k 1+aE k 2+aE k 3:=by rw[f1];simp[aE]
 have l:((fI 2 k:Nat):Int)=aE k 2+aE k 3:=by rw[f2];simp[aE]
 have n:((fI 3 k:Nat):Int)=aE k 3:=by rw[f3];simp[aE]
 simp only[jn,M.leftOf,qy,O.cD];simp only[show((0:Nat):Int)+1=1 from rfl,show((1:Nat):Int)+1=2 from rfl,show((2:Nat):Int)+1=3 from rfl,e,i,j,l,n];exact⟨trivial,trivial,trivial,trivial⟩
theorem Cg{p:O}(i:aJ p k)(j:Nat):0<=aU p k j/\aU p k j<=1000/\0<=aW p k j/\aW p k j<=1000/\0<=aE k j/\aE k j<=1000:=by
 have c:k.length<=1000:=by have:=i.jO;simp only at this;omega
 have a:=yC k c λb=>(decide (b.row<=p.Z)==true)&&b.st==(j:Int);have d:=yC k c λb=>(decide (b.row<=p.Z)==false)&&b.st==(j:Int);have e:=yC k c λb=>b.ev&&b.cl==(j:Int);exact⟨a.1,a.2,d.1,d.2,e.1,e.2⟩
theorem Jx{p:O}{n:V}{a i r k a' b' s l:Nat->Int}(b:∀j,j<4->a j=a' j)(c:∀j,j<4->i j=b' j)(e:∀j,j<4->r j=s j)(d:∀j,j<4->k j=l j):eX p n a i r k=eX p n a' b' s l:=by
 unfold eX
 rw[b 0 (by omega),b 1 (by omega),b 2 (by omega),b 3 (by omega),c 0 (by omega),c 1 (by omega),c 2 (by omega),c 3 (by omega),e 0 (by omega),e 1 (by omega),e 2 (by omega),e 3 (by omega),
  d 0 (by omega),d 1 (by omega),d 2 (by omega),d 3 (by omega)]
theorem Ch{p:O}(b:p.bI=true):0<=p.af/\p.af<=1000/\0<=p.ag/\p.ag<=1000/\0<=p.ai/\p.ai<=1000/\0<=p.aj/\p.aj<=1000:=by
 simp only[O.bI,eA] at b;omega
theorem yD(e:Nat->Int)(d k j:Nat):dc (dc e d (e d+ -1)) k (dc e d (e d+ -1) k+1) j=e j - (if d=j then 1 else 0)+(if k=j then 1 else 0):=by
 unfold dc;by_cases i:j=d
 .subst i;by_cases c:j=k
  .subst c;simp;omega
  .rw[f c,D rfl,D rfl,f (λb=>c b.symm)];omega
 .by_cases c:j=k
  .subst c;rw[D rfl,f i,f (λb=>i b.symm),D rfl];omega
  .rw[f c,f i,f (λb=>i b.symm),f (λb=>c b.symm)];omega
theorem nv(b j:Nat):((b:Int)==(j:Int))=decide (b=j):=by
 by_cases c:b=j
 .subst c;simp
 .simp[c];omega
theorem Jy(p:O)(hi:S<k.length)(e:z)(b d:Nat)(l:k[S].st=b)(n:e.st=d)(r:e.row=k[S].row)(j:Nat):(if k[S].row<=p.Z then dc (if k[S].row<=p.Z then dc (aU p k) b (aU p k b+ -1) else aU p k) d ((if k[S].row<=p.Z then dc (aU p k) b (aU p k b+ -1) else aU p k) d+1) else(if k[S].row<=p.Z then dc (aU p k) b (aU p k b+ -1) else aU p k)) j=aU p (k.set S e) j:=by
 have i:aU p (k.set S e) j=aU p k j - (if (decide (k[S].row<=p.Z)==true&&decide (b=j))=true then 1 else 0)+(if (decide (k[S].row<=p.Z)==true&&decide (d=j))=true then 1 else 0):=by
  simp only[aU,kx];rw[countP_set _ _ _ hi,l,n,r,nv,nv]
 rw[i];by_cases c:k[S].row<=p.Z
 .rw[D c,D c,yD];simp[c]
 .rw[f c,f c];simp[c]
theorem Jz(p:O)(hi:S<k.length)(e:z)(b d:Nat)(l:k[S].st=b)(n:e.st=d)(r:e.row=k[S].row)(j:Nat):(if k[S].row<=p.Z then(if k[S].row<=p.Z then aW p k else dc (aW p k) b (aW p k b+ -1)) else dc (if k[S].row<=p.Z then aW p k else dc (aW p k) b (aW p k b+ -1)) d ((if k[S].row<=p.Z then aW p k else dc (aW p k) b (aW p k b+ -1)) d+1)) j=aW p (k.set S e) j:=by
 have i:aW p (k.set S e) j=aW p k j - (if (decide (k[S].row<=p.Z)==false&&decide (b=j))=true then 1 else 0)+(if (decide (k[S].row<=p.Z)==false&&decide (d=j))=true then 1 else 0):=by
  simp only[aW,kx];rw[countP_set _ _ _ hi,l,n,r,nv,nv]
 rw[i];by_cases c:k[S].row<=p.Z
 .rw[D c,D c];simp[c]
 .rw[f c,f c,yD];simp[c]
theorem Ci(c:z)(b:Nat)(d:c.st=b):c.ev=decide (b=1\/b=2):=by
 unfold z.ev;rw[d,show(1:Int)=((1:Nat):Int) from rfl,show(2:Int)=((2:Nat):Int) from rfl,nv,nv];simp
theorem JA(k:Nat->Int)(e l d k' j:Nat):lJ d k' 1 (lJ e l (-1) k) j=k j - (if (decide (e=1\/e=2)&&decide (l=j))=true then 1 else 0)+(if (decide (d=1\/d=2)&&decide (k'=j))=true then 1 else 0):=by
 unfold lJ;by_cases c:e=1\/e=2
 .by_cases b:d=1\/d=2
  .rw[D c,D b,yD];simp[c,b]
  .rw[D c,f b];simp[c,b,dc];split<;>simp_all<;>omega
 .by_cases b:d=1\/d=2
  .rw[f c,D b];unfold dc;by_cases i:j=k'
   .subst i;simp[c,b]
   .rw[f i];simp[c,b,show ¬k'=j from λn=>i n.symm]
  .rw[f c,f b];simp[c,b]
theorem JB(hi:p<k.length)(d:z)(b c e k':Nat)(n:k[p].st=b)(r:d.st=c)(i:k[p].cl=e)(l:d.cl=k')(j:Nat):lJ c k' 1 (lJ b e (-1) (aE k)) j=aE (k.set p d) j:=by
 rw[JA];simp only[aE,iO];rw[countP_set _ _ _ hi,Ci _ b n,Ci _ c r,i,l,nv,nv]
theorem yE{b:Nat->Int}(c:Small b)(e: -100000<=v/\v<=100000):Small (dc b p v):=λi d=>by
 unfold dc;split
 .exact e
 .exact c i d
structure cK (w:U) (b:Nat) (p:O) (l:List z) (m:Nat) (es:List az) (dY:Nat):Prop where
 e:X w b (fM p (.map (E m)) l) 164
 map:w.heap[m]? =E (cX es dY)
 ok:gq es dY
 rel:lK es p l
def lL(d:List az)(c:Nat)(b:z):List az×Nat:=if b.st=0 then(j4 d b.row b.ae,c) else mj d c b.row b.ae b.st b.pa b.cl b.un
theorem Cj{p:O}(d:lK N p k)(hi:S<k.length):(N.findIdx? (az.is k[S].row k[S].ae)).isSome=(k[S].st !=0):=by
 have b:=d.dX S hi;unfold eZ at b;rw[tN] at b
 cases c:N.findIdx? (az.is k[S].row k[S].ae) with
 |none=>rw[c] at b;simp at b;simp[<-b.1]
 |some i=>
  have e:=(jC.1 c).1;rw[c] at b;simp[e] at b;have:=(d.qM _ (eK e)).2;simp;omega
theorem JC{p:O}(j:lK N p k)(hi:S<k.length)(b:z)(A:b.row=k[S].row)(s:b.ae=k[S].ae)(r:Nat):(lL N r b).1.length=(k.set S b).countP λb=>b.st !=0:=by
 have d:=Cj j hi;have B:=j.size;have e:=countP_set (λb=>b.st !=0) k S hi b;have y:(k[S].st !=0)=true->1<=k.countP λb=>b.st !=0:=λx=>List.countP_pos_iff.2 ⟨_,eK hi,x⟩;unfold lL;rw[A,s];by_cases i:b.st=0
 .rw[D i]
  cases c:N.findIdx? (az.is k[S].row k[S].ae) with
  |none=>
   rw[c] at d;rw[Bj c];show N.length=_;rw[<-d] at e;simp[i] at e;omega
  |some n=>
   rw[c] at d;have v:=(jC.1 c).1;rw[Bi c];show(N.eraseIdx n).length=_;rw[List.length_eraseIdx,D v];have:=y (by rw[<-d];rfl);rw[<-d] at e;simp[i] at e;omega
 .rw[f i];have l:(b.st !=0)=true:=by simp[i]
  cases c:N.findIdx? (az.is k[S].row k[S].ae) with
  |none=>
   rw[c] at d;rw[vD c];rw[<-d,l] at e;simp at e;simp;omega
  |some n=>
   rw[c] at d;rw[vC c];rw[<-d,l] at e;simp at e;simp;omega
theorem vW{n:Nat}{p:O}{w:U}(ai:cK w S p k j N n)(H:aJ p k)(c:Nat)(hi:c<k.length)(b:z)(R:b.wf)(s:b.row=k[c].row)(M:b.ae=k[c].ae):Calls h 118 #[g (E (u S 0 J)),t #[F K b.row,F K b.ae],t #[F K b.st,F K b.pa,F K b.cl,F K b.un]] w λy w'=>y=q (aq #[])/\cK w' S p (k.set c b) j (lL N n b).1 (lL N n b).2/\G (λx=>x=S\/x=j) w w':=by
 obtain⟨aS,aT,I,W⟩:=ai;have ae:=H.dX _ (eK hi);obtain⟨e,ad⟩:=sq ae.ou;obtain⟨x,av⟩:=sq ae.oy;obtain⟨i,A⟩:=sq R.ou;obtain⟨k',ab⟩:=sq R.oy;have aH:e<4:=by have:=ae.s1;omega
 have aF:x<4:=by have:=ae.c1;omega
 have aI:i<4:=by have:=R.s1;omega
 have aG:k'<4:=by have:=R.c1;omega
 have a2:=(H.kU hi).1;simp only[O.e,eA] at a2;obtain⟨aA,aB,aC,aD,_⟩:=H.bounds;simp only at aA aB aC aD;have ag:0<=b.row/\b.row<=1000:=by rw[s];omega
 have af:0<=b.ae/\b.ae<=1000:=by rw[M];omega
 have aw:=W.dX c hi;rw[<-s,<-M] at aw;have ax:=H.set hi R s M;have T:∀d,0<=aU p k d/\aU p k d<=1000/\0<=aW p k d/\aW p k d<=1000/\0<=aE k d/\aE k d<=1000:=Cg H;have X:∀d,0<=aU p (k.set c b) d/\aU p (k.set c b) d<=1000/\0<=aW p (k.set c b) d/\aW p (k.set c b) d<=1000/\0<=aE (k.set c b) d/\aE (k.set c b) d<=1000:=Cg ax;have am:Small (aU p k):=λd _=>by have:=T d;omega
 have ao:Small (aW p k):=λd _=>by have:=T d;omega
 have ap:Small (aE k):=λd _=>by have:=T d;omega
 have a4:Small (if k[c].row<=p.Z then dc (aU p k) e (aU p k e+ -1) else aU p k):=by
  split
  .exact yE am (by have:=T e;omega)
  .exact am
 have a5:Small (if k[c].row<=p.Z then aW p k else dc (aW p k) e (aW p k e+ -1)):=by
  split
  .exact ao
  .exact yE ao (by have:=T e;omega)
 have a6:Small (lJ e x (-1) (aE k)):=by
  unfold lJ;split
  .exact yE ap (by have:=T x;omega)
  .exact ap
 have ar:∀ah,eX p (.map (E j)) (if k[c].row<=p.Z then dc (if k[c].row<=p.Z then dc (aU p k) e (aU p k e+ -1) else aU p k) i ((if k[c].row<=p.Z then dc (aU p k) e (aU p k e+ -1) else aU p k) i+1) else(if k[c].row<=p.Z then dc (aU p k) e (aU p k e+ -1) else aU p k))
   (if k[c].row<=p.Z then(if k[c].row<=p.Z then aW p k else dc (aW p k) e (aW p k e+ -1)) else dc (if k[c].row<=p.Z then aW p k else dc (aW p k) e (aW p k e+ -1)) i ((if k[c].row<=p.Z then aW p k else dc (aW p k) e (aW p k e+ -1)) i+1))
   (lJ i k' 1 (lJ e x (-1) (aE k))) ah=eX p (.map (E j)) (aU p (k.set c b)) (aW p (k.set c b)) (aE (k.set c b)) ah:=λah=>
  Jx (λd _=>Jy p hi b e i ad A s d) (λd _=>Jz p hi b e i ad A s d) (λd _=>JB hi b e i x k' ad A av ab d) (λ_ _=>rfl)
 have aZ:eZ N b.row b.ae=((e:Int),k[c].pa,(x:Int),k[c].un):=by rw[aw,ad,av]
 have Y:i=0->lL N n b=(j4 N b.row b.ae,n):=λl=>by unfold lL;rw[D (by rw[A,l];rfl)]
 have Z:i≠0->lL N n b=mj N n b.row b.ae i b.pa k' b.un:=λl=>by unfold lL;rw[f (by rw[A];omega),A,ab]
 have a3:=Jw S j e x i k' p (aU p k) (aW p k) (aE k) (jn p k) _ _ _ _ _ _ (jn p (k.set c b)) b.row b.ae k[c].pa k[c].un b.pa b.un w N
  (lL N n b).1 n (lL N n b).2 aS aT
  (λv r=>by
   have:=vA v j N n r I b.row b.ae ag af
   rw[aZ] at this
   exact this)
  (λl v ty r=>by
   rw[Y l]
   exact Iw v j N n ty r I b.row b.ae ag af)
  (λl v r=>by
   rw[Z l]
   have:=Ix v j N n r I b.row b.ae i b.pa k' b.un ag af
   unfold mj
   cases aX:N.findIdx? (az.is b.row b.ae)<;>rw[aX] at this<;>exact this)
  (λv r=>Cc S e x p _ _ _ _ _ b.row b.ae k[c].pa k[c].un (-1) v r aH aF am ao ap (by omega))
  (λv r=>Cc S i k' p _ _ _ _ _ b.row b.ae b.pa b.un 1 v r aI aG (by rw[s];exact a4) (by rw[s];exact a5) a6 (by omega))
  (λv r=>by
   rw[s] at r ⊢
   rw[ar] at r ⊢
   obtain⟨aK,aL,aN,aO⟩:=Cf ax
   have ay:=Ch H.bI
   simp only at ay
   refine(Bu S p.rows p.y p.Z p.af p.ag p.ai p.aj _ _ _ _ _ _ _ _ _ _ _ _ _ _ _ _ _ _ v r (by have:=X 0;omega) (by have a7:=X 0;have a8:=X 1;have a9:=X 2;have ba:=X 3;omega) ay).mono ?_
   rintro y w' ⟨rfl,ak,B⟩
   refine⟨rfl,ak,?_⟩
   rw[<-aK,<-aL,<-aN,<-aO] at B
   exact B)
 rw[A,ab];refine a3.mono ?_;rintro y w' ⟨rfl,ak,B,a1⟩;rw[s,ar] at B;refine⟨rfl,⟨B,a1,?_,?_⟩,ak⟩
 .by_cases l:i=0
  .rw[Y l];exact I.drop _ _
  .rw[Z l];exact I.put _ _ _ _ _ _ ag af
 .constructor
  .intro y aa;by_cases l:i=0
   .rw[Y l] at aa;exact W.qM y (Bp aa)
   .rw[Z l] at aa;obtain ai|⟨aP,aQ,aR⟩:=Iz aa
    .exact W.qM y ai
    .refine⟨?_,by rw[aR];omega⟩;rw[aP,aQ,s,M];exact(H.kU hi).1
  .intro d aY;have au:d<k.length:=by simpa using aY
   have a0:eZ (lL N n b).1 (k.set c b)[d].row (k.set c b)[d].ae=
     if (k.set c b)[d].row=b.row/\(k.set c b)[d].ae=b.ae then(b.st,b.pa,b.cl,b.un) else eZ N (k.set c b)[d].row (k.set c b)[d].ae:=by
    by_cases l:i=0
    .rw[Y l];have aj:=R.bare (.inl (by rw[A,l];rfl));rw[Bn I,A,l,aj.1,aj.2.1,aj.2.2];rfl
    .rw[Z l,Iy I,A,ab]
   rw[a0];simp only[pK];by_cases y:c=d
   .subst y;simp
   .simp only[y,jQ];rw[f (λB=>y (H.yk hi au (by rw[<-s,B.1]) (by rw[<-M,B.2])))];exact W.dX d au
  .exact JC W hi b s M n
theorem ud{S:Nat->Prop}{p:O}{w:U}(n:cF w S j p k)(M:aJ p k)(c:Nat)(hi:c<k.length)(b:z)(I:b.wf)(H:b.row=k[c].row)(y:b.ae=k[c].ae):Calls h 118 #[g (E (u j 0 J)),t #[F K b.row,F K b.ae],t #[F K b.st,F K b.pa,F K b.cl,F K b.un]] w λe w'=>e=q (aq #[])/\cF w' S j p (k.set c b)/\G S w w':=by
 obtain⟨N,T,R,r,s,v,x,i,l⟩:=n;refine(vW ⟨r,s,v,x⟩ M c hi b I H y).mono ?_;rintro e w' ⟨rfl,d,B⟩;exact⟨rfl,⟨N,_,_,d.e,d.map,d.ok,d.rel,i,l⟩,B.mono (λW _ A=>by obtain rfl|rfl:=A;exact i;exact l)⟩
theorem cF.ue{w:U}{S:Nat->Prop}{p:O}(c:cF w S j p k):w.cell? (u j 24 J)=E (F K p.ep)/\w.frozen? (u j 24 J)=false/\j<w.heap.size:=by
 obtain⟨v,e,d,b,i,l,n,r,s⟩:=c;refine⟨?_,b.aC 24,b.lt⟩;rw[b.T 24];rfl
theorem lK.next{p:O}(b:lK N p k):lK N p.next k:=⟨b.qM,b.dX,b.size⟩
theorem aJ.next{p:O}(b:aJ p k):aJ p.next k:=⟨b.aY,b.bI,b.len,b.place,b.dX⟩
theorem cK.oG{w:U}{c:Nat}{p:O}(b:cK w S p k j N c):cK (w.setCell (u S 24 J) (F K (ik p.ep))) S p.next k j N c:=
 ⟨b.e.set 24 _,by rw[Below.heap_setCell _ _ _ _ (by exact b.e.pJ b.map)];exact b.map,b.ok,b.rel.next⟩
theorem cF.oG{w:U}{S:Nat->Prop}{p:O}(e:cF w S j p k):cF (w.setCell (u j 24 J) (F K (ik p.ep))) S j p.next k/\G S w (w.setCell (u j 24 J) (F K (ik p.ep))):=by
 obtain⟨v,d,c,i,l,n,r,b,s⟩:=e;have:=cK.oG ⟨i,l,n,r⟩;exact⟨⟨v,d,c,this.e,this.map,this.ok,this.rel,b,s⟩,(G.refl _ w).setCell (p:=u j 24 J) (.inl b) _⟩
theorem yF{S:Nat->Prop}{p:O}{w:U}(v:cF w S j p k)(B:aJ p k)(d:Nat)(hi:d<k.length)(c:z)(A:c.wf)(y:c.row=k[d].row)(x:c.ae=k[d].ae):Calls h 161 #[t #[F K c.row,F K c.ae,F K c.st,F K c.pa,F K c.cl,F K c.un],g (E (u j 0 J))] w λs w'=>s=q (aq #[])/\cF w' S j p.next (k.set d c)/\G S w w':=by
 have r:=l λM (N:cF M S j p k)=>ud N B d hi c A y x;have i:=l v;clear v y x A B;go_enter func161,ntmps161;go_wp2_with fail;refine((b r) _ ((b i).bC ((G.refl _ _).alloc _))).mono ?_;rintro s W ⟨rfl,e,H⟩;obtain⟨R,Y,T⟩:=e.ue;have X:=tK p.ep;have n:=l e.oG;have I:=l (((G.refl S w).alloc (m #[F K c.row,F K c.ae,F K c.st,F K c.pa,F K c.cl,F K c.un] 202)).trans H);clear e H i r;go_wp2;go_end0
 exact⟨rfl,(b n).1,(b I).trans (b n).2⟩
theorem JD{S:Nat->Prop}{p:O}{w:U}(s:cF w S j p k)(M:aJ p k)(c:Nat)(hi:c<k.length):Calls h 165 #[t #[F K k[c].row,F K k[c].ae],g (E (u j 0 J))] w λr w'=>r=q (aq #[])/\cF w' S j p.next (k.set c k[c].bZ)/\G S w w':=by
 have I:(k[c].bZ).wf:=⟨by simp[z.bZ],by simp[z.bZ],by simp[z.bZ],by simp[z.bZ],by simp[z.bZ],by simp[z.bZ],by simp[z.bZ],by simp[z.bZ]⟩;have d:=l λA (H:cF A S j p k)=>ud H M c hi k[c].bZ I rfl rfl;have i:=l s;clear s;generalize v:k[c]=R at *;have T:=l v;clear v;obtain⟨N,B,aa,Z,X,ab⟩:=R;simp only[z.bZ] at d ⊢;go_enter func165,ntmps165;go_wp2_with fail
 refine((b d) _ ((b i).bC ((G.refl _ _).alloc _))).mono ?_;rintro r ad ⟨rfl,e,x⟩;obtain⟨W,af,Y⟩:=e.ue;have ae:=tK p.ep;have n:=l e.oG;have y:=l (((G.refl S w).alloc (m #[F K N,F K B] 214)).trans x);clear e x i d;go_wp2;go_end0;exact⟨rfl,(b n).1,(b y).trans (b n).2⟩
def Old(S:Nat->Prop)(w:U):Nat->Prop:=λb=>S b/\b<w.heap.size
theorem cF.narrow{w:U}{S:Nat->Prop}{p:O}(i:cF w S j p k):cF w (Old S w) j p k:=by
 obtain⟨v,e,d,b,c,l,n,r,s⟩:=i;exact⟨v,e,d,b,c,l,n,⟨r,b.lt⟩,⟨s,(Array.getElem?_eq_some_iff.1 c).1⟩⟩
theorem cF.wide{w:U}{S S':Nat->Prop}{p:O}(i:cF w S j p k)(b:∀c,S c->S' c):cF w S' j p k:=by
 obtain⟨y,e,d,l,n,r,s,v,x⟩:=i;exact⟨y,e,d,l,n,r,s,b _ v,b _ x⟩
theorem JE(S:Nat->Prop)(j y:Nat)(ag:Array V)(e d i c' p n k r:Int)(w:U)(ah:List az)(af:Nat)(aa ab:U->Prop)(hS:∀ao,S ao->ao<w.heap.size)(A:X w j ag 164)(ai:ag[7]? =E (.map (E y)))(H:w.heap[y]? =E (cX ah af))(B:∀c:U,c.heap[y]? =E (cX ah af)->(ji 162 (.map (E y)) (t #[F K e,F K d]) false).run h c=.ok (t #[F K p,F K n,F K k,F K r]) c)
  (aj:∀c,G No w c->Calls h 118 #[g (E (u j 0 J)),t #[F K e,F K d],t #[F K 0,F K 0,F K 0,F K 0]] c λs w'=>s=q (aq #[])/\aa w'/\G S c w')(ak:∀c,aa c->Calls h 118 #[g (E (u j 0 J)),t #[F K i,F K c'],t #[F K p,F K n,F K k,F K r]] c λs w'=>s=q (aq #[])/\ab w'/\G S c w')
  (x:Int)(ad:U->Prop)(am:∀c,ab c->(c.cell? (u j 24 J)=E (F K x)/\c.frozen? (u j 24 J)=false/\j<c.heap.size)/\ad (c.setCell (u j 24 J) (F K (ik x)))/\G S c (c.setCell (u j 24 J) (F K (ik x)))):Calls h 166 #[t #[F K e,F K d,F K i,F K c'],g (E (u j 0 J))] w λs w'=>s=q (aq #[])/\ad w'/\G S w w':=by
 have T:=l am;clear am;have aN:=A.lt;have aG:=A.T 7;rw[ai] at aG;have aH:=B (w.alloc (m #[F K e,F K d,F K i,F K c'] 216)).drew (G.map ((G.refl No w).alloc _).drew H (λv=>v));have aI:=λae=>B ((w.alloc (m #[F K e,F K d,F K i,F K c'] 216)).alloc ae).drew (G.map (((G.refl No w).alloc _).alloc ae).drew H (λv=>v));have W:=l hS;have O:=l aj;have R:=l ak;clear hS A ai H B aj ak;go_enter func166,ntmps166
 go_wp2_with fail;go_cut [4] (λaJ aK=>aJ=g (E ⟨w.heap.size+1,0,J⟩)/\aK=((w.alloc (m #[F K e,F K d,F K i,F K c'] 216)).alloc (m #[F K p,F K n,F K k,F K r] 199)).drew)
 case first=>
  go_region
  all_goals go_wp2
  all_goals go_meet
  all_goals exact⟨rfl,rfl⟩
 case rest=>
  obtain⟨rfl,rfl⟩:=hcut;have M:X ((w.alloc (m #[F K e,F K d,F K i,F K c'] 216)).alloc (m #[F K p,F K n,F K k,F K r] 199)).drew w.heap.size #[F K e,F K d,F K i,F K c'] 216:=((X.new w _ _).alloc _).drew;have N:X ((w.alloc (m #[F K e,F K d,F K i,F K c'] 216)).alloc (m #[F K p,F K n,F K k,F K r] 199)).drew (w.heap.size+1) #[F K p,F K n,F K k,F K r] 199:=by
   have:=X.new (w.alloc (m #[F K e,F K d,F K i,F K c'] 216)) #[F K p,F K n,F K k,F K r] 199;rw[bW] at this;exact this
  have Y:G No w ((w.alloc (m #[F K e,F K d,F K i,F K c'] 216)).alloc (m #[F K p,F K n,F K k,F K r] 199)).drew:=(((G.refl _ w).alloc _).alloc _).drew;have ax:=l M;have ay:=l N;have Z:=l Y;clear M N Y aH aI;go_wp2_with fail;refine((b O) _ (b Z)).mono ?_;rintro s aP ⟨rfl,au,z⟩;have aE:=(z.e (b ax) (λI=>by have:=(b W) _ I;omega)).T;have aF:=(z.e (b ay) (λI=>by have:=(b W) _ I;omega)).T;have aC:=l au
  have aA:=l (((b Z).mono (S':=S) (λ_ _ v=>v.elim)).trans z);clear au z;go_wp2_with fail;refine((b R) _ (b aC)).mono ?_;rintro s aQ ⟨rfl,av,ap⟩;obtain⟨⟨aL,aS,aO⟩,aw,ar⟩:=(b T) _ av;have aR:=tK x;have aD:=l aw;have aB:=l (((b aA).trans ap).trans ar);clear aw ar av ap aE aF O R T;go_wp2;go_end0;exact⟨rfl,b aD,b aB⟩
theorem qN(b:z):b.bZ.wf:=⟨by simp[z.bZ],by simp[z.bZ],by simp[z.bZ],by simp[z.bZ],by simp[z.bZ],by simp[z.bZ],by simp[z.bZ],by simp[z.bZ]⟩
theorem JF{S:Nat->Prop}{i:Nat}{p:O}{w:U}(y:cF w S i p k)(n:aJ p k)(b:Nat)(hi:b<k.length)(j:Nat)(aa:j<k.length)(Z:b≠j):Calls h 166 #[t #[F K k[b].row,F K k[b].ae,F K k[j].row,F K k[j].ae],g (E (u i 0 J))] w λs w'=>s=q (aq #[])/\cF w' S i p.next ((k.set b k[b].bZ).set j ⟨k[j].row,k[j].ae,k[b].st,k[b].pa,k[b].cl,k[b].un⟩)/\G S w w':=by
 have e:=n.dX _ (eK hi);have ag:(⟨k[j].row,k[j].ae,k[b].st,k[b].pa,k[b].cl,k[b].un⟩:z).wf:=⟨e.ou,e.s1,e.oy,e.c1,e.bare,e.pa,e.un,e.vu⟩;have af:aJ p (k.set b k[b].bZ):=n.set hi (qN _) rfl rfl;have ab:j<(k.set b k[b].bZ).length:=by simpa using aa
 have v:(k.set b k[b].bZ)[j]=k[j]:=by simp[pK,Z]
 obtain⟨B,x,r,R,T,W,X,ah,ai⟩:=id y;have ae:=(n.kU hi).1;simp only[O.e,eA] at ae;obtain⟨H,I,M,N,_⟩:=n.bounds;simp only at H I M N
 refine(JE (Old S w) i B _ k[b].row k[b].ae k[j].row k[j].ae k[b].st k[b].pa k[b].cl k[b].un w x r (λc=>cF c (Old S w) i p (k.set b k[b].bZ))
  (λc=>cF c (Old S w) i p ((k.set b k[b].bZ).set j ⟨k[j].row,k[j].ae,k[b].st,k[b].pa,k[b].cl,k[b].un⟩)) (λA l=>l.2) R rfl T (λc d=>?_) (λc d=>?_) (λc d=>?_) p.ep
  (λc=>cF c (Old S w) i p.next ((k.set b k[b].bZ).set j ⟨k[j].row,k[j].ae,k[b].st,k[b].pa,k[b].cl,k[b].un⟩)) (λc d=>⟨d.ue,d.oG⟩)).mono ?_
 .have:=vA c B x r d W k[b].row k[b].ae (by omega) (by omega);rw[X.dX b hi] at this;exact this
 .exact ud (y.narrow.bC d) n b hi k[b].bZ (qN _) rfl rfl
 .exact ud d af j ab ⟨k[j].row,k[j].ae,k[b].st,k[b].pa,k[b].cl,k[b].un⟩ ag (by rw[v]) (by rw[v])
 .rintro s w' ⟨rfl,Y,ad⟩;exact⟨rfl,Y.wide (λA l=>l.1),ad.mono (λA _ l=>l.1)⟩
def aI(p:O):List z:=(jF (p.rows* p.y).toNat).map λb:Nat=>⟨(b:Int) / p.y+1,(b:Int) % p.y+1,0,0,0,0⟩
theorem oH{p:O}(b:p.aY=true)(d:p.bI=true):aJ p (aI p):=by
 have e:=b;simp only[O.aY,eA] at e;refine⟨b,d,?_,λi hi=>?_,λj c=>?_⟩
 .have:0<=p.rows* p.y:=ky (by omega) (by omega);simp[aI];omega
 .simp[aI]
 .simp only[aI,kA] at c;obtain⟨i,_,rfl⟩:=c;exact⟨by simp,by simp,by simp,by simp,by simp,by simp,by simp,by simp⟩
theorem Ck(b c:Nat):(jF b).countP (λe=>decide (e<c))=min c b:=by
 induction b with
 |zero=>simp
 |succ b i=>
  rw[ug,qO,i];by_cases d:b<c
  .simp[d];omega
  .simp[d];omega
theorem Cl{p:O}(d:1<=p.y)(b:Nat):((b:Int) / p.y+1<=p.Z)↔b<(p.Z* p.y).toNat:=by
 have c:(b:Int) / p.y+1<=p.Z↔(b:Int) / p.y<p.Z:=by omega
 rw[c,Int.ediv_lt_iff_lt_mul (by omega)];omega
theorem Cm{p:O}(i:p.aY=true)(j:Nat):aU p (aI p) j=if j=0 then p.Z* p.y else 0:=by
 simp only[O.aY,eA] at i;have k:0<=p.Z* p.y:=ky (by omega) (by omega);have l:p.Z* p.y<=p.rows* p.y:=Bb (by omega) (by omega);simp only[aU,kx,aI,Cn];have e:(λd:z=>(decide (d.row<=p.Z)==true)&&d.st==(j:Int))∘(λb:Nat=>(⟨(b:Int) / p.y+1,(b:Int) % p.y+1,0,0,0,0⟩:z))=λb=>decide (b<(p.Z* p.y).toNat)&&decide (j=0):=by
  funext b;simp only[Function.comp,beq_true];rw[show((0:Int)==(j:Int))=decide (0=j) from nv 0 j,decide_eq_decide.2 (Cl (by omega) b),show decide (0=j)=decide (j=0) from decide_eq_decide.2 eq_comm]
 rw[e];by_cases c:j=0
 .simp only[c,decide_true,Bool.and_true,iP];rw[Ck];omega
 .simp[c]
theorem Co{p:O}(l:p.aY=true)(j:Nat):aW p (aI p) j=if j=0 then(p.rows - p.Z)* p.y else 0:=by
 simp only[O.aY,eA] at l;have r:0<=p.Z* p.y:=ky (by omega) (by omega);have s:p.Z* p.y<=p.rows* p.y:=Bb (by omega) (by omega);have v:(p.rows - p.Z)* p.y=p.rows* p.y - p.Z* p.y:=Int.sub_mul _ _ _;simp only[aW,kx,aI,Cn];have i:(λe:z=>(decide (e.row<=p.Z)==false)&&e.st==(j:Int))∘(λb:Nat=>(⟨(b:Int) / p.y+1,(b:Int) % p.y+1,0,0,0,0⟩:z))=λb=> !decide (b<(p.Z* p.y).toNat)&&decide (j=0):=by
  funext b;simp only[Function.comp,beq_false];rw[show((0:Int)==(j:Int))=decide (0=j) from nv 0 j,decide_eq_decide.2 (Cl (by omega) b),show decide (0=j)=decide (j=0) from decide_eq_decide.2 eq_comm]
 rw[i];by_cases d:j=0
 .simp only[d,decide_true,Bool.and_true,iP];have c:=List.length_eq_countP_add_countP (λb=>decide (b<(p.Z* p.y).toNat)) (l:=jF (p.rows* p.y).toNat);rw[Ck] at c;simp only[yG] at c;have n:List.countP (λa=>decide ¬decide (a<(p.Z* p.y).toNat)=true) (jF (p.rows* p.y).toNat)=List.countP (λb=> !decide (b<(p.Z* p.y).toNat)) (jF (p.rows* p.y).toNat):=by
   congr 1;funext a;by_cases k:a<(p.Z* p.y).toNat<;>simp[k]<;>omega
  rw[n] at c;omega
 .simp[d]
theorem Cp(p:O)(j:Nat):aE (aI p) j=0:=by
 simp only[aE,iO,aI,Cn];have d:(λc:z=>c.ev&&c.cl==(j:Int))∘(λb:Nat=>(⟨(b:Int) / p.y+1,(b:Int) % p.y+1,0,0,0,0⟩:z))=λb=>false:=by
  funext b;simp[z.ev]
 rw[d];simp
theorem run_makeMap(w:U):(Instr.makeMap 162 J).run h w=.ok (.map (E w.heap.size)) (w.alloc (.map #[] 0)):=by
 simp[Instr.makeMap,newObj,Sem.run]
attribute [local go_sem] run_makeMap
theorem yH{P:Program}{b:Code}{Q:Exit->Act->U->Prop}{a:Act}{w:U}(R:U->Prop)(c:R w)(d:∀w,R w->b.wp P Q a w):b.wp P Q a w:=d w c
theorem JG(s b k l n p r:Int)(M:V)(v x y z A B G H I N O R c d e i j:Int):(((((((((((((dZ s b k l n p r M v x y z A B G H I N O R c d e i j).setIfInBounds 8 (F K 0)).setIfInBounds 9 (F K 0)).setIfInBounds 10 (F K 0)).setIfInBounds 11 (F K 0)).setIfInBounds 12 (F K 0)).setIfInBounds 13 (F K 0)).setIfInBounds 14 (F K 0)).setIfInBounds 15 (F K 0)).setIfInBounds 16 (F K 0)).setIfInBounds 17 (F K 0)).setIfInBounds 18 (F K 0)).setIfInBounds 19 (F K 0))=dZ s b k l n p r M 0 0 0 0 0 0 0 0 0 0 0 0 c d e i j:=by kernel_rfl
set_option maxHeartbeats 4000000 in theorem JH(c:Nat)(p:O)(a2 aT f0 aY aZ a0 a1:Int)(aF:V)(am ao ap ar au av aw ax aA aB aC aD R S T W H:Int)(I:Nat->Int)(w:U)(ad:X w c (dZ a2 aT f0 aY aZ a0 a1 aF am ao ap ar au av aw ax aA aB aC aD R S T W H) 164)(x af:Int)(a7:K.wrap (p.Z* p.y)=x)(w2:K.wrap (p.rows - p.Z)=p.rows - p.Z)(w3:K.wrap ((p.rows - p.Z)* p.y)=af)
  (aJ:∀e d,X e c (dZ p.rows p.y p.Z p.af p.ag p.ai p.aj (.map (E d)) x 0 0 0 af 0 0 0 0 0 0 0 R S T W H) 164->Calls h 135 #[g (E (u c 0 J))] e λi w'=>i=q (aq #[])/\G (λj=>j=c) e w'/\X w' c (dZ p.rows p.y p.Z p.af p.ag p.ai p.aj (.map (E d)) x 0 0 0 af 0 0 0 0 0 0 0 (I 0) (I 1) (I 2) (I 3) H) 164):
  Calls h 159 #[g (E (u c 0 J)),t #[F K p.rows,F K p.y,F K p.Z,F K p.af,F K p.ag,F K p.ai,F K p.aj]] w λi w'=>i=q (aq #[])/\G (λj=>j=c) w w'/\∃d,w.heap.size<=d/\w'.heap[d]? =E (cX [] 0)/\X w' c (dZ p.rows p.y p.Z p.af p.ag p.ai p.aj (.map (E d)) x 0 0 0 af 0 0 0 0 0 0 0 (I 0) (I 1) (I 2) (I 3) H) 164:=by
 have a5:=ad.lt;have k:=ad.T;have M:=ad.aC;unfold dZ at k;have aO:=l ad;have aR:=l aJ;clear ad aJ;obtain⟨B,r,s,v,y,z,A,a6⟩:=p;simp only at *;go_enter func159,ntmps159;go_upto_region 2 with fail;refine yH (λe=>Hid (G (λj=>j=c) w e)/\Hid (X e w.heap.size #[F K B,F K r,F K s,F K v,F K y,F K z,F K A] 39)/\Hid (X e c (dZ B r s v y z A aF am ao ap ar au av aw ax aA aB aC aD R S T W H) 164)) ?_ ?_
 .refine⟨((((((((G.refl _ w).at 0 _).at 1 _).at 2 _).at 3 _).at 4 _).at 5 _).at 6 _).alloc _,?_,?_⟩
  .have:=X.new (((((((w.setCell (u c 0 J) (F K B)).setCell (u c 1 J) (F K r)).setCell (u c 2 J) (F K s)).setCell (u c 3 J) (F K v)).setCell (u c 4 J) (F K y)).setCell (u c 5 J) (F K z)).setCell (u c 6 J) (F K A)) #[F K B,F K r,F K s,F K v,F K y,F K z,F K A] 39;simp only[bW,ny] at this;exact this
  .exact((((((((b aO).set 0 _).set 1 _).set 2 _).set 3 _).set 4 _).set 5 _).set 6 _).alloc _
 .rintro e ⟨Y,Z,n⟩;have k:=(b n).T;have M:=(b n).aC;have ag:=(b n).lt;unfold dZ at k;have aK:c≠w.heap.size:=by omega
  have aj:=l aK;clear aK;go_upto_region 3 with fail;refine yH (λe=>Hid (G (λj=>j=c) w e)/\Hid (X e w.heap.size #[F K B,F K r,F K s,F K v,F K y,F K z,F K A] 39)/\∃d,Hid (w.heap.size<=d)/\Hid (e.heap[d]? =E (cX [] 0))/\Hid (d≠c)/\Hid (X e c (dZ B r s v y z A (.map (E d)) am ao ap ar au av aw ax aA aB aC aD R S T W H) 164)) ?_ ?_
  .refine⟨((b Y).at 7 _).alloc _,((b Z).eJ (a:=u c 7 J) (λi=>(b aj) i.symm) _).alloc _,e.heap.size,(b Y).size,?_,?_,((b n).set 7 _).alloc _⟩
   .have:=heap_alloc_new (e.setCell (u c 7 J) (.map (E e.heap.size))) (.map #[] 0);rw[ny] at this;exact this
   .intro i;omega
  clear k M Y Z n;rintro ak ⟨Y,Z,d,aW,ae,ah,n⟩;have k:=(b n).T;have M:=(b n).aC;have a4:=(b n).lt;unfold dZ at k;go_upto_region 4 with fail;refine yH (λe=>Hid (G (λj=>j=c) w e)/\Hid (X e w.heap.size #[F K B,F K r,F K s,F K v,F K y,F K z,F K A] 39)/\Hid (e.heap[d]? =E (cX [] 0))/\Hid (X e c (dZ B r s v y z A (.map (E d)) 0 0 0 0 0 0 0 0 0 0 0 0 R S T W H) 164)) ?_ ?_
  .have az:G (λj=>j=c) ak ((((((((((((ak.setCell (u c 8 J) (F K 0)).setCell (u c 9 J) (F K 0)).setCell (u c 10 J) (F K 0)).setCell (u c 11 J) (F K 0)).setCell (u c 12 J) (F K 0)).setCell (u c 13 J) (F K 0)).setCell (u c 14 J) (F K 0)).setCell (u c 15 J) (F K 0)).setCell (u c 16 J) (F K 0)).setCell (u c 17 J) (F K 0)).setCell (u c 18 J) (F K 0)).setCell (u c 19 J) (F K 0)):=
    ((((((((((((G.refl _ ak).at 8 _).at 9 _).at 10 _).at 11 _).at 12 _).at 13 _).at 14 _).at 15 _).at 16 _).at 17 _).at 18 _).at 19 _
   exact⟨(b Y).trans az,az.e (b Z) (λi=>(b aj) i.symm),az.map (b ae) (λi=>(b ah) i),
 by have aI:=(((((((((((((b n).set 8 (F K 0)).set 9 (F K 0)).set 10 (F K 0)).set 11 (F K 0)).set 12 (F K 0)).set 13 (F K 0)).set 14 (F K 0)).set 15 (F K 0)).set 16 (F K 0)).set 17 (F K 0)).set 18 (F K 0)).set 19 (F K 0));rw[JG] at aI;exact aI⟩
  clear k M Y Z n ae;rintro a3 ⟨aG,ai,ae,aa⟩;have k:=(b aa).T;have M:=(b aa).aC;have ag:=(b aa).lt;have ay:=(b ai).T;unfold dZ at k;have aQ:=b aj;go_cut [] (λN=>Hid (G (λj=>j=c) w N)/\Hid (X N w.heap.size #[F K B,F K r,F K s,F K v,F K y,F K z,F K A] 39)/\Hid (N.heap[d]? =E (cX [] 0))/\Hid (X N c (dZ B r s v y z A (.map (E d)) x 0 0 0 0 0 0 0 0 0 0 0 R S T W H) 164))
  case first=>
   go_region
   all_goals go_wp2
   all_goals go_meet
   all_goals exact⟨((b aG).at 8 _).drew,((b ai).eJ (a:=u c 8 J) (λi=>aQ i.symm) _).drew,(by show(World.setCell _ _ _).heap[d]? =_;rw[Below.heap_setCell _ _ _ _ (by exact b ah)];exact b ae),((b aa).set 8 _).drew⟩
  case rest=>
   obtain⟨aH,aE,aL,ab⟩:=hcut;clear k M ag ay aG ai ae aa;have k:=(b ab).T;have M:=(b ab).aC;have ag:=(b ab).lt;have ay:=(b aE).T;unfold dZ at k;go_upto_region 5 with fail;go_cut [] (λN=>Hid (G (λj=>j=c) w N)/\Hid (N.heap[d]? =E (cX [] 0))/\Hid (X N c (dZ B r s v y z A (.map (E d)) x 0 0 0 af 0 0 0 0 0 0 0 R S T W H) 164))
   case first=>
    go_region
    all_goals go_wp2
    all_goals go_meet
    all_goals exact⟨((b aH).at 12 _).drew,(by show(World.setCell _ _ _).heap[d]? =_;rw[Below.heap_setCell _ _ _ _ (by exact b ah)];exact b aL),((b ab).set 12 _).drew⟩
   case rest=>
    obtain⟨aS,aX,aP⟩:=hcut;clear k M ag ay aH aE aL ab;go_wp2_with fail;refine((b aR) _ d (b aP)).mono ?_;rintro i a8 ⟨rfl,aN,aU⟩;go_wp2;go_end0;exact⟨rfl,(b aS).trans aN,d,b aW,aN.map (b aX) (λi=>(b ah) i),aU⟩
theorem aJ.at{p:O}(b:aJ p k)(c:Int):aJ (p.at c) k:=⟨b.aY,b.bI,b.len,b.place,b.dX⟩
def yI(w:U)(j:Nat)(z:Int):Prop:=
 ∃I r f0 A B G H b c d e i k l n p M N O R s v x y,X w j (dZ I r f0 A B G H b c d e i k l n p M N O R s v x y z) 164
theorem yJ{p:O}{w:U}(c:Int)(j:yI w S c)(b:p.aY=true)(x:p.bI=true):Calls h 159 #[g (E (u S 0 J)),t #[F K p.rows,F K p.y,F K p.Z,F K p.af,F K p.ag,F K p.ai,F K p.aj]] w λi w'=>i=q (aq #[])/\cF w' (λd=>d=S\/w.heap.size<=d) S (p.at c) (aI p)/\G (λd=>d=S) w w':=by
 obtain⟨au,ag,f0,am,ao,ap,ar,W,X,Y,Z,aa,ab,ad,ae,af,av,aw,ax,ay,ah,ai,aj,ak,j⟩:=j;have H:=b;simp only[O.aY,eA] at H;have f1:0<=p.Z* p.y:=ky (by omega) (by omega);have f2:p.Z* p.y<=20* 6:=tL (by omega) (by omega) (by omega) (by omega);have f3:0<=(p.rows - p.Z)* p.y:=ky (by omega) (by omega);have f4:(p.rows - p.Z)* p.y<=20* 6:=tL (by omega) (by omega) (by omega) (by omega);have N:=oH b x
 obtain⟨n,r,s,v⟩:=Cf N;have T:=Ch x;simp only[Cm b,Co b,Cp,iP] at n r s v;refine(JH S p _ _ _ _ _ _ _ _ _ _ _ _ _ _ _ _ _ _ _ _ _ _ _ _ c (jn p (aI p)) w j (p.Z* p.y) ((p.rows - p.Z)* p.y) (bh _ (by omega) (by omega)) (bh _ (by omega) (by omega)) (bh _ (by omega) (by omega)) (λz e B=>?_)).mono ?_
 .refine(Bu S p.rows p.y p.Z p.af p.ag p.ai p.aj _ _ _ _ _ _ _ _ _ _ _ _ _ _ _ _ _ _ z B (by omega) (by omega) T).mono ?_;rintro i w' ⟨rfl,l,k⟩;refine⟨rfl,l,?_⟩;rw[n,r,s,v];exact k
 .rintro i w' ⟨rfl,l,e,I,M,k⟩;refine⟨rfl,⟨e,[],0,?_,M,⟨by simp,by simp,by simp,by simp⟩,⟨by simp,λR hi=>?_,?_⟩,.inl rfl,.inr I⟩,l⟩
  .have:fM (p.at c) (.map (E e)) (aI p)=dZ p.rows p.y p.Z p.af p.ag p.ai p.aj (.map (E e)) (aU p (aI p) 0) (aU p (aI p) 1) (aU p (aI p) 2) (aU p (aI p) 3) (aW p (aI p) 0) (aW p (aI p) 1) (aW p (aI p) 2) (aW p (aI p) 3) (aE (aI p) 0) (aE (aI p) 1) (aE (aI p) 2) (aE (aI p) 3) (jn p (aI p) 0) (jn p (aI p) 1) (jn p (aI p) 2) (jn p (aI p) 3) c:=rfl;rw[this];simp only[Cm b,Co b,Cp];exact k
  .simp[aI,eZ]
  .have:(aI p).countP (λA=>A.st !=0)=0:=by
    rw[uh];intro A y;simp only[aI,kA] at y;obtain⟨R,_,rfl⟩:=y;simp
   rw[this];rfl
theorem JI{p:O}{w:U}(A:X w S (dZ 0 0 0 0 0 0 0 (.map J) 0 0 0 0 0 0 0 0 0 0 0 0 0 0 0 0 0) 164)(d:p.aY=true)(R:p.bI=true):Calls h 158 #[t #[F K p.rows,F K p.y,F K p.Z,F K p.af,F K p.ag,F K p.ai,F K p.aj],g (E (u S 0 J))] w λz w'=>z=q (aq #[])/\cF w' (λc=>c=S\/w.heap.size<=c) S (p.at 1) (aI p)/\G (λc=>c=S) w w':=by
 have i:=l λN (T:yI N S 0)=>yJ (p:=p) 0 T d R;have y:=l A;clear A;obtain⟨x,j,k,n,r,s,v,H⟩:=p;simp only at i ⊢;go_enter func158,ntmps158;go_wp2_with fail;refine((b i) _ ⟨_,_,_,_,_,_,_,_,_,_,_,_,_,_,_,_,_,_,_,_,_,_,_,_,(b y).alloc _⟩).mono ?_;rintro z e ⟨rfl,d,B⟩;have d:=d.wide (S':=λc=>c=S\/w.heap.size<=c) (λc W=>by rw[bW] at W;omega)
 obtain⟨Y,aa,Z⟩:e.cell? (u S 24 J)=E (F K 0)/\e.frozen? (u S 24 J)=false/\S<e.heap.size:=d.ue;have I:=l (show cF (e.setCell (u S 24 J) (F K 1)) (λc=>c=S\/w.heap.size<=c) S (O.at ⟨x,j,k,n,r,s,v,H⟩ 1) (aI ⟨x,j,k,n,r,s,v,H⟩) from d.oG.1);have M:=l (((G.refl (λc=>c=S) w).alloc (m #[F K x,F K j,F K k,F K n,F K r,F K s,F K v] 189)).trans B);clear d B y i;go_wp2;go_end0;refine⟨rfl,?_,(b M).at 24 _⟩
 exact b I
def due(c:Int)(b:z):Bool:=b.st==1&&decide (b.un<=c)
def eC(d:Int)(c:List z):List z:=c.map λb=>if due d b then b.bZ else b
theorem JJ{p:O}(c:aJ p k)(d:p.e v W=true):∃b,∃hi:b<k.length,k[b].row=v/\k[b].ae=W:=by
 have e:=bV.wf.jP c d;have i:=bV.wf.qA c d;exact⟨p.idx v W,e,i⟩
theorem JK{p:O}(j:gq N S)(hrel:lK N p k)(l:aJ p k)(i:R∈N):∃b,∃hi:b<k.length,k[b].row=R.r/\k[b].ae=R.c/\k[b].st=R.s/\k[b].pa=R.p/\k[b].cl=R.k/\k[b].un=R.u:=by
 obtain⟨b,hi,d,e⟩:=JJ l (hrel.qM R i).1;have c:=hrel.dX b hi;rw[d,e,Bo j i] at c;simp only[qP] at c;exact⟨b,hi,d,e,c.1.symm,c.2.1.symm,c.2.2.1.symm,c.2.2.2.symm⟩
theorem JL{p:O}(hrel:lK N p k)(hi:S<k.length)(i:k[S].st≠0):∃c∈N,c.r=k[S].row/\c.c=k[S].ae/\c.s=k[S].st/\c.u=k[S].un:=by
 have b:=hrel.dX S hi;unfold eZ at b
 cases d:N.find? (az.is k[S].row k[S].ae) with
 |none=>
  rw[d] at b;simp at b;exact absurd b.1.symm i
 |some c=>
  rw[d] at b;simp at b;have e:=vE.1 (List.find?_some d);exact⟨c,List.mem_of_find?_eq_some d,e.1,e.2,b.1,b.2.2.2⟩
structure kV (now:Int) (l l':List z) (es:List az) (seen:Array Nat):Prop where
 len:l'.length=l.length
 each:∀i (h:i<l.length) (h':i<l'.length),l'[i]=l[i]\/(due now l[i]=true/\l'[i]=l[i].bZ)
 done:∀e∈es,e.born∈seen->¬(e.s=1/\e.u<=now)
theorem kV.start(now:Int)(c:List z)(d:List az):kV now c c d #[]:=⟨rfl,λj b i=>.inl rfl,λe _ b=>by simp at b⟩
theorem kV.keep{seen:Array Nat}(d:kV v k I N seen)(y:gq N p)(s:R∈N)(x:¬(R.s=1/\R.u<=v)):kV v k I N (seen.push R.born):=by
 refine⟨d.len,d.each,λr n b=>?_⟩;obtain b|b:=Array.mem_push.1 b
 .exact d.done r n b
 .have:r=R:=by
   obtain⟨e,hi,rfl⟩:=kB n;obtain⟨i,j,rfl⟩:=kB s;have l:=mh.1 y.rR;obtain c|c|c:=yK e i
   .exact absurd b (l e i hi j c)
   .subst c;rfl
   .exact absurd b.symm (l i e j hi c)
  rw[this];exact x
theorem kV.give{seen:Array Nat}(i:kV v k I N seen)(l:gq N p)(B:R∈N)(hi:S<I.length)(hd:due v I[S]=true):kV v k (I.set S I[S].bZ) (j4 N R.r R.c) (seen.push R.born):=by
 refine⟨by simp[i.len],λc e G=>?_,λj x d=>?_⟩
 .have H:c<I.length:=by simpa using G
  simp only[pK];by_cases n:S=c
  .subst n;rw[D rfl];obtain b|⟨b,A⟩:=i.each S e hi
   .rw[b] at hd ⊢;exact .inr ⟨hd,rfl⟩
   .rw[A] at hd;simp[due,z.bZ] at hd
  .rw[f n];exact i.each c e H
 .have y:=Bp x;obtain d|d:=Array.mem_push.1 d
  .exact i.done j y d
  .have M:j=R:=by
    obtain⟨S,hi,rfl⟩:=kB y;obtain⟨c,e,rfl⟩:=kB B;have s:=mh.1 l.rR;obtain b|b|b:=yK S c
    .exact absurd d (s S c hi e b)
    .subst b;rfl
    .exact absurd d.symm (s c S e hi b)
   subst M;have r:=Bo (l.drop j.r j.c) x;rw[Bn l] at r;simp at r;rintro⟨b,_⟩;omega
theorem kV.finish{seen:Array Nat}{p:O}(d:kV v k I N seen)(hrel:lK N p I)(r:∀c∈N,c.born∈seen):I=eC v k:=by
 apply yL (by simp[eC,d.len]);intro e hi x;have s:e<k.length:=by rw[<-d.len];exact hi
 simp only[eC,sF];obtain b|⟨b,n⟩:=d.each e s hi
 .have:due v k[e]=false:=by
   cases hd:due v k[e] with
   |false=>rfl
   |true=>
    exfalso;simp only[due,mX,lD,eA] at hd;obtain⟨c,i,_,_,j,l⟩:=JL hrel hi (by rw[b];omega);exact d.done c i (r c i) ⟨by rw[j,b];exact hd.1,by rw[l,b];exact hd.2⟩
  rw[this,b];rfl
 .rw[b,n];rfl
def oI(w:U)(d e:Nat):Nat:=
 match w.heap[d]?,w.heap[e]? with
 |some (.map c _),E (.mapIter _ _ seen _)=>(c.toList.filter λb=> !seen.contains b.born).length
 |_,_=>0
theorem sG{w:U}{b:Option Nat}{k c:Nat}{seen:Array Nat}(e:w.heap[p]? =E (cX N j))(i:w.heap[S]? =E (.mapIter b k seen c)):oI w p S=(N.filter λd=> !seen.contains d.born).length:=by
 unfold oI;rw[e,i];simp only[cX];rw[List.filter_map,ui];rfl
theorem filter_lt{s:Type}{p d:s->Bool}:∀ {c e:List s},e.Sublist c->(∀x∈c,d x=true->p x=true)->(∃x∈c,p x=true/\d x=false)->(e.filter d).length<(c.filter p).length:=by
 intro c e r j b;have k:(e.filter d).length<=(c.filter d).length:=(r.filter d).length_le;have v:(c.filter d).length<(c.filter p).length:=by
  clear r k
  induction c with
  |nil=>obtain⟨x,b,_⟩:=b;simp at b
  |cons a c y=>
   have A:(c.filter d).length<=(c.filter p).length:=by
    rw[<-Cq,<-Cq];exact BQ (λx b i=>j x (rN _ b) i)
   simp only[List.filter_cons];obtain⟨x,b,l,n⟩:=b;obtain rfl|b:=List.mem_cons.1 b
   .rw[l,n];simp;omega
   .have:=y (λx b i=>j x (rN _ b) i) ⟨x,b,l,n⟩;have z:=j a (qB)
    cases k:d a<;>cases v:p a<;>simp_all<;>omega
 omega
def mv(b c d e i j k l:Int):Bool:=b==i&&(c==j&&(d==k&&e==l))
theorem Cr(d:Array V)(b:Nat)(c:V)(e:d[b]? =E c)(w:U):(part 3 d b).run h w=.ok c w:=by
 unfold part;simp[yr,isAgg,jj underlying3,e]
theorem vX(c:Nat)(is:List Nat)(e ys:Array V)(d:Nat)(x b:Int)(i:e[d* 1]? =E (F K x))(hy:ys[d* 1]? =E (F K b))(w:U):(Op.eqItems (c+1) 3 1 e ys (d::is)).run h w=if (x==b)=true then(Op.eqItems (c+1) 3 1 e ys is).run h w else .ok false w:=by
 have j:(Op.equalIn (c+1) 3 (F K x) (F K b)).run h w=.ok (x==b) w:=run_equalIn_int w c 3 K K x b underlying3;simp only[Op.eqItems,yr,Cr _ _ _ i,Cr _ _ _ hy,j,BC]
 cases x==b
 .rfl
 .rfl
theorem JM(b:Nat)(c d e i j k l n:Int)(w:U):(Op.equalIn (b+2) 37 (t #[F K c,F K d,F K e,F K i]) (t #[F K j,F K k,F K l,F K n])).run h w=.ok (mv c d e i j k l n) w:=by
 have hi:(h.info? 3).isSome=true:=by kernel_rfl
 obtain⟨r,hi⟩:=Option.isSome_iff_exists.1 hi;have p:h.cellsOf 3=1:=by kernel_rfl
 rw[run_equalIn_array w (b+1) _ _ underlying37 hi,p];rw[show jF 4=[0,1,2,3] from rfl];unfold mv;rw[vX b _ _ _ 0 c j rfl rfl,vX b _ _ _ 1 d k rfl rfl,vX b _ _ _ 2 e l rfl rfl,vX b _ _ _ 3 i n rfl rfl]
 cases c==j<;>cases d==k<;>cases e==l<;>cases i==n<;>rfl
theorem Cs(b c d e i j k l:Int)(w:U):(Op.equalIn 10000 37 (t #[F K b,F K c,F K d,F K e]) (t #[F K i,F K j,F K k,F K l])).run h w=.ok (mv b c d e i j k l) w:=JM 9998 ..
theorem JO(op:BinOp)(x d:Operand)(c ys:Array V)(w:U):(eqGuard op 37 x d (t c) (t ys)).run h w=.ok () w:=by
 have b:h.eqGuardType h.depth 37=false:=by kernel_rfl
 unfold eqGuard
 cases op<;>simp[Sem.run,program,b]
theorem JP(w:U)(c b:Nat)(e:List az)(d:w.heap[c]? =E (cX e b)):(Instr.range 162 (.map (E c))).run h w=.ok (g (E (u w.heap.size 0 J))) (w.alloc (.mapIter (E c) b #[] b)):=by
 unfold cX at d;simp[Instr.range,jj oA,getObj,Sem.run,d,newObj]
structure JQ (w w1:U):Prop where
 heap:w1.heap=w.heap
 mod:G No w w1
section
variable {P:Program} (w:U) {ops:Array Oper} {rest:List Oper} {o:Oper} {a:Act} {Q:Exit->Act->U->Prop}
theorem JR(z:o.guard=J)(it:Operand)(s:o.op=Op.next it false)(k j c:Nat)(seen:Array Nat)(d:List az)(r:a.eval it=g (E (u k 0 J)))(I:w.heap[k]? =E (.mapIter (E j) c seen c))(A:w.heap[j]? =E (cX d c))(H:gq d c)(x:Hid (∀b∈d,b.born∈seen)->wpList P ops Q rest (a.put o.dst (aq #[L false])) w)
  (y:∀b,Hid (b∈d)->Hid (b.born∉seen)->∀l,JQ w l->wpList P ops Q rest (a.put o.dst (aq #[L true,t #[F K b.r,F K b.c],t #[F K b.s,F K b.p,F K b.k,F K b.u]])) (setBlock l k (.mapIter (E j) c (seen.push b.born) c))):wpList P ops Q (o::rest) a w:=by
 refine wpList_plain z λO hK'=>?_;unfold gu
 obtain⟨v,p⟩|⟨N,e,l,M,p⟩:=run_next_at (P:=P) w o.type k j c c seen (d.map az.obj).toArray c I A (λN e=>by
  simp at e
  obtain⟨b,i,rfl⟩:=e
  exact H.rS b i) (cz _)
 .simp[execOp,s,r,p,Result.andThen];refine hK' _ _ (x λb i=>?_);have n:b.obj∉leftOf (d.map az.obj).toArray seen:=by
   rw[Array.eq_empty_of_size_eq_zero v];simp
  unfold leftOf at n;simp at n;have:=n b i rfl;exact this
 .unfold leftOf at e;simp at e;obtain⟨⟨b,i,rfl⟩,B⟩:=e;simp[execOp,s,r,p,Result.andThen];exact hK' _ _ (y b i B l (by obtain rfl|rfl:=M;exact⟨rfl,G.refl _ _⟩;exact⟨rfl,(G.refl _ _).drew⟩))
end
theorem JS{e:Nat}{p:O}{w:U}(n:cK w S p k j N e)(v:aJ p k)(b:Nat)(hi:b<k.length)(d c:Int)(s:k[b].row=d)(r:k[b].ae=c):Calls h 118 #[g (E (u S 0 J)),t #[F K d,F K c],t #[F K 0,F K 0,F K 0,F K 0]] w λl w'=>l=q (aq #[])/\cK w' S p (k.set b k[b].bZ) j (j4 N d c) e/\G (λi=>i=S\/i=j) w w':=by
 have:=vW n v b hi k[b].bZ (qN _) rfl rfl;subst s;subst r;simp only[lL,z.bZ,iP] at this;exact this
theorem JT(b:List az)(d c:Int):(j4 b d c).Sublist b:=by
 unfold j4;split
 .exact Bf ..
 .exact JU _
def oJ(c:Int)(b:List z):Bool:=b.any (due c)
def nz(c:Int)(p:O)(b:List z):O:=if oJ c b then p.next else p
theorem uj(d:Int)(j:Nat):∀c:List z,aE (eC d c) j+(c.countP λb=>due d b&&b.cl==(j:Int):Nat)=aE c j
 |[]=>rfl
 |b::c=>by
  have l:=uj d j c;simp only[aE,iO,eC] at l ⊢;simp only[oC,mW]
  cases hd:due d b with
  |false=>simp only[hd,jQ,Bool.false_and,mg];omega
  |true=>
   have k:b.st=1:=by simp[due] at hd;exact hd.1
   have e:b.ev=true:=by simp[z.ev,k]
   have i:b.bZ.ev=false:=by simp[z.ev,z.bZ]
   simp only[iP,e,i,Bool.false_and,Bool.true_and,mg,jQ]
   cases b.cl==(j:Int)<;>simp only[mg,jQ,iP]<;>omega
theorem JV{p:O}(x:aJ p k)(b:Int):mv (aE (eC b k) 0) (aE (eC b k) 1) (aE (eC b k) 2) (aE (eC b k) 3) (aE k 0) (aE k 1) (aE k 2) (aE k 3)= !oJ b k:=by
 have t0:=uj b 0 k;have t1:=uj b 1 k;have t2:=uj b 2 k;have t3:=uj b 3 k;have y:oJ b k=false->∀i:Nat,(k.countP λc=>due b c&&c.cl==(i:Int))=0:=λe i=>by
  rw[uh];intro c l;simp only[oJ,List.any_eq_false] at e;have:=e c l
  simp_all
 cases e:oJ b k with
 |false=>
  have n:=y e;rw[n 0] at t0;rw[n 1] at t1;rw[n 2] at t2;rw[n 3] at t3;simp only[mv,Bool.not_false];rw[<-t0,<-t1,<-t2,<-t3];simp
 |true=>
  simp only[oJ,List.any_eq_true] at e;obtain⟨c,l,hd⟩:=e;have r:=x.dX c l;have A:=r.oy;have B:=r.c1;have j:∀i:Nat,c.cl=(i:Int)->1<=k.countP λc=>due b c&&c.cl==(i:Int):=λi v=>
   List.countP_pos_iff.2 ⟨c,l,by simp[hd,v]⟩
  have s:c.cl=(0:Nat)\/c.cl=(1:Nat)\/c.cl=(2:Nat)\/c.cl=(3:Nat):=by omega
  simp only[mv,Bool.not_true];obtain d|d|d|d:=s
  .have:=j 0 d;have:¬aE (eC b k) 0=aE k 0:=by omega
   simp[this]
  .have:=j 1 d;have:¬aE (eC b k) 1=aE k 1:=by omega
   simp[this]
  .have:=j 2 d;have:¬aE (eC b k) 2=aE k 2:=by omega
   simp[this]
  .have:=j 3 d;have:¬aE (eC b k) 3=aE k 3:=by omega
   simp[this]
theorem cK.ev{w:U}{b:Nat}{p:O}(c:cK w S p k j N b):w.cell? (u S 16 J)=E (F K (aE k 0))/\w.cell? (u S 17 J)=E (F K (aE k 1))/\w.cell? (u S 18 J)=E (F K (aE k 2))/\w.cell? (u S 19 J)=E (F K (aE k 3)):=by
 refine⟨?_,?_,?_,?_⟩<;>(rw[c.e.T];rfl)
theorem cK.ep{w:U}{c:Nat}{p:O}(b:cK w S p k j N c):w.cell? (u S 24 J)=E (F K p.ep)/\w.frozen? (u S 24 J)=false/\S<w.heap.size:=by
 refine⟨?_,b.e.aC 24,b.e.lt⟩;rw[b.e.T];rfl
attribute [local go_sem] Cs
theorem JX{d:Nat}{p:O}{w:U}(i:cK w S p k j N d)(ba:aJ p k)(r:Int):Calls h 95 #[t #[F K r],g (E (u S 0 J))] w λc w'=>c=q (aq #[])/\(∃s,cK w' S (nz r p k) (eC r k) j s d)/\G (λB=>B=S\/B=j) w w':=by
 have a3:=i.e.pJ i.map;have bS:=i.e.lt;have bT:=(Array.getElem?_eq_some_iff.1 i.map).1;have bz:=i.e.T 7;rw[show(fM p (.map (E j)) k)[7]? =E (.map (E j)) from rfl] at bz;obtain⟨bf,bg,bh,bi⟩:=i.ev
 have bI:=JP ((w.alloc (m #[F K r] 159)).alloc (m #[F K (aE k 0),F K (aE k 1),F K (aE k 2),F K (aE k 3)] 37)) j d N (by have:=G.map (((G.refl No w).alloc (m #[F K r] 159)).alloc (m #[F K (aE k 0),F K (aE k 1),F K (aE k 2),F K (aE k 3)] 37)) i.map (λe=>e);exact this);have bl:=l i;have bJ:=l a3;have aO:=l ba;clear i a3 ba;go_enter func95,ntmps95;go_wp2
 have am:=l (show S≠w.heap.size/\j≠w.heap.size/\S≠w.heap.size+2/\j≠w.heap.size+2/\S≠w.heap.size+1/\j≠w.heap.size+1 from⟨by omega,by omega,by omega,by omega,by omega,by omega⟩);clear bf bg bh bi
 go_loopw [18] (λ_ wr=>∃x s seen,Hid (cK wr S p x j s d)/\Hid (aJ p x)/\Hid (kV r k x s seen)/\Hid (wr.heap[w.heap.size+2]? =E (.mapIter (E j) d seen d))/\Hid (G (λB=>B=S\/B=j) w wr)/\Hid (X wr w.heap.size #[F K r] 159)/\Hid (X wr (w.heap.size+1) #[F K (aE k 0),F K (aE k 1),F K (aE k 2),F K (aE k 3)] 37))
  (λ_ wr=>oI wr j (w.heap.size+2))
 case atStart=>
  have aD:G No w (((w.alloc (m #[F K r] 159)).alloc (m #[F K (aE k 0),F K (aE k 1),F K (aE k 2),F K (aE k 3)] 37)).alloc (.mapIter (E j) d #[] d)):=(((G.refl _ w).alloc _).alloc _).alloc _;have n:=b bl
  refine⟨k,N,#[],⟨aD.e n.e (λe=>e),aD.map n.map (λe=>e),n.ok,n.rel⟩,b aO,kV.start _ _ _,?_,aD.mono (λ_ _ e=>e.elim),((X.new w _ _).alloc _).alloc _,by have:=(X.new (w.alloc (m #[F K r] 159)) #[F K (aE k 0),F K (aE k 1),F K (aE k 2),F K (aE k 3)] 37).alloc (.mapIter (E j) d #[] d);rw[bW] at this;exact this⟩
  have:=heap_alloc_new ((w.alloc (m #[F K r] 159)).alloc (m #[F K (aE k 0),F K (aE k 1),F K (aE k 2),F K (aE k 3)] 37)) (.mapIter (E j) d #[] d);rw[bW,bW] at this;exact this
 case round=>
  obtain⟨x,s,seen,n,aj,au,ae,ar,av,hold⟩:=hrel;go_wp2_with (first|(at_next;refine JR _ rfl _ rfl (w.heap.size+2) j d seen s rfl (b ae) (b n).map (b n).ok ?_ ?_))
  .intro aF;have ax:=(b au).finish (b n).rel (b aF);have ai:=JV (b aO) r;rw[<-ax] at ai;obtain⟨bf,bg,bh,bi⟩:=(b n).ev;obtain⟨bM,bZ,bV⟩:=(b n).ep;have bO:=(b hold).T;have bX:=(b hold).lt;have bY:=tK p.ep;have bQ:=l (b n).oG;have H:=l (b n);have aK:=l (b ar);have aH:=l ax;have a9:nz r p k=if oJ r k then p.next else p:=rfl
   have ap:=l a9;clear n ar au ae av hold ax aF bI a9 aj
   cases Y:oJ r k with
   |false=>
    rw[Y] at ai ap;have bm:=l Y;clear Y;simp only[Bool.not_false] at ai;go_wp2_with fail;go_region
    all_goals go_wp2
    all_goals go_end0
    all_goals refine⟨rfl,⟨s,?_⟩,(b aK).drew⟩
    all_goals rw[b ap,<-b aH]
    all_goals exact⟨(b H).e.drew,(b H).map,(b H).ok,(b H).rel⟩
   |true=>
    rw[Y] at ai ap;have bm:=l Y;clear Y;simp only[Bool.not_true] at ai;have T:cK wr.drew S p x j s d:=⟨(b H).e.drew,(b H).map,(b H).ok,(b H).rel⟩;have W:=l T.oG;clear T;go_wp2_with fail;go_region
    all_goals go_wp2
    all_goals go_end0
    all_goals refine⟨rfl,⟨s,?_⟩,((b aK).drew).setCell (p:=u S 24 J) (.inl (.inl rfl)) _⟩
    all_goals rw[b ap,<-b aH]
    all_goals exact b W
  .intro c ad bH aa aB;have M:=b n;have A:=b am;have bE:j<wr.heap.size:=(Array.getElem?_eq_some_iff.1 M.map).1;have a7:w.heap.size+2<wr.heap.size:=(Array.getElem?_eq_some_iff.1 (b ae)).1;have Z:G (λB=>B=w.heap.size+2) wr (setBlock aa (w.heap.size+2) (.mapIter (E j) d (seen.push c.born) d)):=G.setBlock (S:=λB=>B=w.heap.size+2) (aB.mod.mono (λ_ _ e=>e.elim)) (.inl rfl) _
   have T:cK (setBlock aa (w.heap.size+2) (.mapIter (E j) d (seen.push c.born) d)) S p x j s d:=⟨Z.e M.e (λc=>A.2.2.1 c),Z.map M.map (λc=>A.2.2.2.1 c),M.ok,M.rel⟩;have af:(setBlock aa (w.heap.size+2) (.mapIter (E j) d (seen.push c.born) d)).heap[w.heap.size+2]? =E (.mapIter (E j) d (seen.push c.born) d):=vV (by rw[aB.heap];exact a7) _;have aw:=Z.e (b av) (λc=>by omega)
   have a4:=Z.e (b hold) (λc=>by omega);have a1:oI (setBlock aa (w.heap.size+2) (.mapIter (E j) d (seen.push c.born) d)) j (w.heap.size+2)<oI wr j (w.heap.size+2):=by
    rw[sG T.map af,sG M.map (b ae)];refine filter_lt (JU _) (λe _ n=>?_) ⟨c,b ad,?_,?_⟩
    .simp at n ⊢;exact n.1
    .simpa using b bH
    .simp
   have bC:=run_entry_at (P:=h) (setBlock aa (w.heap.size+2) (.mapIter (E j) d (seen.push c.born) d)) (w.heap.size+2) j d seen (s.map az.obj).toArray d c.obj af T.map
    (by simp;exact⟨c,b ad,rfl⟩) (by
     have:=M.ok.rR
     simp only[List.map_map]
     rw[List.nodup_iff_pairwise_ne,List.pairwise_map]
     exact this)
   have ag:=((b ar).trans' (Z) (λak hi bR=>by omega));have W:=l T;have aL:=l ag;have ao:=l af;have aG:=l aw;have aN:=l a4;have aI:=l a1;generalize bB:setBlock aa (w.heap.size+2) (.mapIter (E j) d (seen.push c.born) d)=y at *;have bL:=aw.T;have a8:w.heap.size+2<y.heap.size:=(Array.getElem?_eq_some_iff.1 af).1;have bU:w.heap.size<y.heap.size:=by omega
   clear T af ag aw Z a1 M A bB ae ar av n bE a7 aB hold a4;simp only[az.obj,iB,dP] at bC;obtain⟨ak,ay,aS,aR,aT, -, -,aU⟩:=JK (b W).ok (b W).rel (b aj) (b ad);have bo:=l λbx (bA:cK bx S p x j s d)=>JS bA (b aj) ak ay c.r c.c aS aR;have bn:=l (show due r x[ak]=true↔(c.s=1/\c.u<=r) from by simp[due,aT,aU]);clear aS aR aT aU
   have v:G No y ((y.alloc (m #[F K c.r,F K c.c] 36)).alloc (m #[F K c.s,F K c.p,F K c.k,F K c.u] 199)):=((G.refl _ y).alloc _).alloc _;have aQ:=l v;clear v
   have bd:¬(c.s=1/\c.u<=r)->(∃x s seen,Hid (cK ((y.alloc (m #[F K c.r,F K c.c] 36)).alloc (m #[F K c.s,F K c.p,F K c.k,F K c.u] 199)) S p x j s d)/\Hid (aJ p x)/\Hid (kV r k x s seen)/\
     Hid (((y.alloc (m #[F K c.r,F K c.c] 36)).alloc (m #[F K c.s,F K c.p,F K c.k,F K c.u] 199)).heap[w.heap.size+2]? =E (.mapIter (E j) d seen d))/\
     Hid (G (λB=>B=S\/B=j) w ((y.alloc (m #[F K c.r,F K c.c] 36)).alloc (m #[F K c.s,F K c.p,F K c.k,F K c.u] 199)))/\Hid (X ((y.alloc (m #[F K c.r,F K c.c] 36)).alloc (m #[F K c.s,F K c.p,F K c.k,F K c.u] 199)) w.heap.size #[F K r] 159)/\Hid (X ((y.alloc (m #[F K c.r,F K c.c] 36)).alloc (m #[F K c.s,F K c.p,F K c.k,F K c.u] 199)) (w.heap.size+1) #[F K (aE k 0),F K (aE k 1),F K (aE k 2),F K (aE k 3)] 37))/\
     oI ((y.alloc (m #[F K c.r,F K c.c] 36)).alloc (m #[F K c.s,F K c.p,F K c.k,F K c.u] 199)) j (w.heap.size+2)<oI wr j (w.heap.size+2):=λbF=>by
    have v:=b aQ;have n:=b W;have aZ:((y.alloc (m #[F K c.r,F K c.c] 36)).alloc (m #[F K c.s,F K c.p,F K c.k,F K c.u] 199)).heap[w.heap.size+2]? =E (.mapIter (E j) d (seen.push c.born) d):=by
     rw[v.block _ a8 (λe=>e)];exact b ao
    have ag:=v.map n.map (λe=>e);refine⟨⟨x,s,seen.push c.born,⟨v.e n.e (λe=>e),ag,n.ok,n.rel⟩,b aj,(b au).keep n.ok (b ad) bF,aZ,(b aL).trans (v.mono (λ_ _ e=>e.elim)),v.e (b aG) (λe=>e),v.e (b aN) (λe=>e)⟩,?_⟩;rw[sG ag aZ,<-sG n.map (b ao)];exact b aI
   have aP:=l bd;clear bd;by_cases I:c.s=1
   .by_cases aY:c.u<=r
    .have ab:=l (gE I aY);have aX:(c.s==1)=true:=by simp[I]
     clear I;go_wp2_with fail;have v:=b aQ;have R:=b W;have bc:cK ((y.alloc (m #[F K c.r,F K c.c] 36)).alloc (m #[F K c.s,F K c.p,F K c.k,F K c.u] 199)) S p x j s d:=⟨v.e R.e (λe=>e),v.map R.map (λe=>e),R.ok,R.rel⟩;refine((b bo) _ bc).mono ?_;rintro bP bk ⟨rfl,aC,ah⟩;have aA:bk.heap[w.heap.size+2]? =E (.mapIter (E j) d (seen.push c.born) d):=by
      have A:=b am;rw[ah.block _ (by simp only[bW];omega) (by rintro(i|i);exact A.2.2.1 i.symm;exact A.2.2.2.1 i.symm),v.block _ a8 (λe=>e)];exact b ao
     have aW:=ah.e (v.e (b aG) (λe=>e)) (by
      have A:=b am
      rintro(i|i);exact A.1 i.symm;exact A.2.1 i.symm)
     have a5:=ah.e (v.e (b aN) (λe=>e)) (by
      have A:=b am
      rintro(i|i);exact A.2.2.2.2.1 i.symm;exact A.2.2.2.2.2 i.symm)
     have bt:=l a5;have a2:=((b aL).trans (v.mono (λ_ _ e=>e.elim))).trans ah;have a0:oI bk j (w.heap.size+2)<oI wr j (w.heap.size+2):=by
      refine Nat.lt_of_le_of_lt ?_ (b aI);rw[sG aC.map aA,sG R.map (b ao)];refine((JT s c.r c.c).filter _).length_le
     have a6:=(b au).give R.ok (b ad) ay ((b bn).2 (b ab));have bb:aJ p (x.set ak x[ak].bZ):=(b aj).set ay (qN _) rfl rfl;have bw:=l aC;have bq:=l aA;have bp:=l aW;have bs:=l a2;have br:=l a0;have bu:=l a6;have bv:=l bb;clear a5 aC aA aW a2 a0 a6 bb ah bc R v;go_wp2;exact⟨⟨_,_,_,bw,bv,bu,bq,bs,bp,bt⟩,b br⟩
    .have ab:=l (show ¬(c.s=1/\c.u<=r) from λi=>aY i.2);have aX:(c.s==1)=true:=by simp[I]
     clear I;go_wp2;exact(b aP) (b ab)
   .have ab:=l (show ¬(c.s=1/\c.u<=r) from λi=>I i.1);have aX:(c.s==1)=false:=by simp[I]
    clear I;go_wp2;exact(b aP) (b ab)
def aw(b:aK):Array V:=
 #[F K b.kind,F K b.aF,F K b.aA,F K b.ac,F K b.dd,F K b.de,F K b.bJ,F K b.bF,F K b.time,
  F K b.c.rows,F K b.c.y,F K b.c.Z,F K b.c.af,F K b.c.ag,F K b.c.ai,F K b.c.aj]
attribute [local go_sem] rV rW rX rY
def dg(b:aK):Int:=if b.bF<0\/b.bF>=4 then 6 else if b.bJ<1\/b.bJ>1000 then 7 else 0
theorem JY(b:aK)(w:U):Calls h 119 #[t (aw b)] w λe w'=>e=q (F K (dg b))/\G No w w':=by
 unfold aw;by_cases c:b.bF<0
 .go_enter func119,ntmps119;go_wp2;go_ret;refine⟨by simp[dg,c],(G.refl _ _).alloc _⟩
 .by_cases d:b.bF>=4
  .go_enter func119,ntmps119;go_wp2;go_ret;refine⟨by simp[dg,d],(G.refl _ _).alloc _⟩
  .by_cases i:b.bJ<1
   .go_enter func119,ntmps119;go_wp2;go_ret;refine⟨by simp[dg,c,d,i],(G.refl _ _).alloc _⟩
   .by_cases j:b.bJ>1000
    .go_enter func119,ntmps119;go_wp2;go_ret;refine⟨by simp[dg,c,d,j],(G.refl _ _).alloc _⟩
    .go_enter func119,ntmps119;go_wp2;go_ret;have k:dg b=0:=by
      unfold dg;rw[f (by omega),f (by omega)]
     rw[k];exact⟨rfl,(G.refl _ _).alloc _⟩
def fX(p:O):V:=t #[F K p.rows,F K p.y,F K p.Z,F K p.af,F K p.ag,F K p.ai,F K p.aj]
theorem Ct(p:O)(w:U):Calls h 96 #[fX p] w λb w'=>b=q (L p.aY)/\G No w w':=by
 unfold fX O.aY;by_cases c:p.rows>=1
 .by_cases d:p.rows<=20
  .by_cases e:p.y>=1
   .by_cases i:p.y<=6
    .by_cases j:p.Z>=0
     .by_cases k:p.Z<=p.rows
      all_goals (go_enter func96,ntmps96;go_wp2;go_ret;exact⟨by simp;omega,(G.refl _ _).alloc _⟩)
     .go_enter func96,ntmps96;go_wp2;go_ret;exact⟨by simp;omega,(G.refl _ _).alloc _⟩
    .go_enter func96,ntmps96;go_wp2;go_ret;exact⟨by simp;omega,(G.refl _ _).alloc _⟩
   .go_enter func96,ntmps96;go_wp2;go_ret;exact⟨by simp;omega,(G.refl _ _).alloc _⟩
  .go_enter func96,ntmps96;go_wp2;go_ret;exact⟨by simp;omega,(G.refl _ _).alloc _⟩
 .go_enter func96,ntmps96;go_wp2;go_ret;exact⟨by simp;omega,(G.refl _ _).alloc _⟩
theorem JZ(c d e i:Int)(w:U):Calls h 97 #[t #[F K c,F K d,F K e,F K i]] w λs w'=>s=q (L (decide (0<=c/\c<=200/\0<=d/\d<=c/\0<=e/\e<=d/\0<=i/\i<=e)))/\G No w w':=by
 go_enter func97,ntmps97;go_wp2
 go_loopw [3,7] (λn k wr=>((k=F K 0/\n=F K 200)\/(k=F K 1/\n=F K c/\Hid (0<=c/\c<=200))\/(k=F K 2/\n=F K d/\Hid (0<=c/\c<=200/\0<=d/\d<=c))\/
  (k=F K 3/\n=F K e/\Hid (0<=c/\c<=200/\0<=d/\d<=c/\0<=e/\e<=d))\/(k=F K 4/\n=F K i/\Hid (0<=c/\c<=200/\0<=d/\d<=c/\0<=e/\e<=d/\0<=i/\i<=e)))/\
  wr=w.alloc (m #[F K c,F K d,F K e,F K i] 37)) (λ_ k _=>4 - (intOf k).toNat)
 case atStart=>exact⟨.inl ⟨rfl,rfl⟩,rfl⟩
 case round=>
  obtain⟨x,v⟩:=hrel;subst v;obtain⟨rfl,rfl⟩|⟨rfl,rfl,j⟩|⟨rfl,rfl,j⟩|⟨rfl,rfl,j⟩|⟨rfl,rfl,j⟩:=x
  .by_cases p:c<0
   .go_wp2;go_ret;exact⟨by simp;omega,(G.refl _ _).alloc _⟩
   by_cases r:c>200
   .go_wp2;go_ret;exact⟨by simp;omega,(G.refl _ _).alloc _⟩
   .go_wp2;go_roundw
    .exact⟨.inr (.inl ⟨rfl,rfl,l (by omega)⟩),trivial⟩
    .simp[intOf]
  .by_cases p:d<0
   .go_wp2;go_ret;exact⟨by simp;omega,(G.refl _ _).alloc _⟩
   by_cases r:d>c
   .go_wp2;go_ret;exact⟨by simp;omega,(G.refl _ _).alloc _⟩
   .go_wp2;go_roundw
    .have:=b j;exact⟨.inr (.inr (.inl ⟨rfl,rfl,l (by omega)⟩)),trivial⟩
    .simp[intOf]
  .by_cases p:e<0
   .go_wp2;go_ret;exact⟨by simp;omega,(G.refl _ _).alloc _⟩
   by_cases r:e>d
   .go_wp2;go_ret;exact⟨by simp;omega,(G.refl _ _).alloc _⟩
   .go_wp2;go_roundw
    .have:=b j;exact⟨.inr (.inr (.inr (.inl ⟨rfl,rfl,l (by omega)⟩))),trivial⟩
    .simp[intOf]
  .by_cases p:i<0
   .go_wp2;go_ret;exact⟨by simp;omega,(G.refl _ _).alloc _⟩
   by_cases r:i>e
   .go_wp2;go_ret;exact⟨by simp;omega,(G.refl _ _).alloc _⟩
   .go_wp2;go_roundw
    .have:=b j;exact⟨.inr (.inr (.inr (.inr ⟨rfl,rfl,l (by omega)⟩))),trivial⟩
    .simp[intOf]
  .go_wp2;go_ret;have:=b j;exact⟨by simp;omega,(G.refl _ _).alloc _⟩
def nC(w:U)(e:Nat)(j c k i d l:Int):Prop:=
 ∀b,G No w b->(ji 162 (.map (E e)) (t #[F K j,F K c]) false).run h b=.ok (t #[F K k,F K i,F K d,F K l]) b
theorem cK.sees{w:U}{p:O}{e:Nat}(c:cK w S p k j N e)(l:aJ p k)(b:Nat)(hi:b<k.length):nC w j k[b].row k[b].ae k[b].st k[b].pa k[b].cl k[b].un:=by
 intro n r;have s:=bV.wf.kU l hi;have i:=bV.wf.bounds l;have d:=s.1;simp only[O.e,eA] at d;have:=vA n j N e (r.map c.map (λv=>v)) c.ok k[b].row k[b].ae (by simp only at i d;omega) (by simp only at i d;omega);rw[c.rel.dX b hi] at this;exact this
theorem vY(b c d e:V)(w:U):(Instr.field 199 (t #[b,c,d,e]) 0).run h w=.ok b w:=by kernel_rfl
attribute [local go_sem] vY
def ft(c b:Int):Int:=if c≠0 then 9 else if b=0 then 11 else 0
theorem J3(A R j:Nat)(ak:j<4)(x:Array V)(r:aK)(M:r.bF=(j:Int))(i ag aa ah e:Int)(w:U)(s:X w A x 164)(I:x[7]? =E (.map (E R)))(N:x[20+j]? =E (F K e))(y:nC w R r.aA r.ac i ag aa ah):Calls h 120 #[g (E (u A 0 J)),t (aw r)] w λab w'=>ab=q (F K (ft i e))/\G No w w':=by
 obtain⟨O,H,z,ac,W,T,S,ai,time,c⟩:=r;simp only at M;subst M;simp only at y;unfold aw;simp only;have ao:=s.lt;have Z:=s.T 7;rw[I] at Z;have Y:=s.T (20+j);rw[N] at Y
 generalize ad:(#[F K O,F K H,F K z,F K ac,F K W,F K T,F K S,F K (j:Int),F K time,
  F K c.rows,F K c.y,F K c.Z,F K c.af,F K c.ag,F K c.ai,F K c.aj]:Array V)=B at *
 have aj:=λn=>y ((w.alloc (m B 41)).drewN n) (((G.refl No w).alloc (m B 41)).drewN n);clear y s I N;subst ad;have am:(j:Int)<4:=by omega
 have mw:∀n,G No w ((w.alloc (m #[F K O,F K H,F K z,F K ac,F K W,F K T,F K S,F K (j:Int),F K time,
  F K c.rows,F K c.y,F K c.Z,F K c.af,F K c.ag,F K c.ai,F K c.aj] 41)).drewN n):=λn=>((G.refl No w).alloc _).drewN n
 have v:=l mw;clear mw;by_cases d:i=0
 .have ae:(i !=0)=false:=by simp[d]
  by_cases k:e=0
  .have af:(e==0)=true:=by simp[k]
   have hS:ft i e=11:=by simp[ft,d,k]
   have p:=l hS;clear k d hS;go_enter func120,ntmps120;go_wp2_with fail;go_quiet (fail);go_wp2_with fail;go_quiet (fail);go_wp2;go_ret;exact⟨by rw[b p];rfl,((b v) _).drewN _⟩
  .have af:(e==0)=false:=by simp[k]
   have hS:ft i e=0:=by simp[ft,d,k]
   have p:=l hS;clear k d hS;go_enter func120,ntmps120;go_wp2_with fail;go_quiet (fail);go_wp2_with fail;go_quiet (fail);go_wp2;go_ret;exact⟨by rw[b p];rfl,((b v) _).drewN _⟩
 .have ae:(i !=0)=true:=by simp[d]
  have hS:ft i e=9:=by simp[ft,d]
  have p:=l hS;clear d hS;go_enter func120,ntmps120;go_wp2_with fail;go_quiet (fail);go_wp2;go_ret;exact⟨by rw[b p];rfl,(b v) _⟩
def dK(b c d:Int):Int:=if ¬(b=1\/b=2) then 10 else if c≠d then 7 else 0
theorem J4(I Y c:Nat)(O:Array V)(d:aK)(e s v:Int)(w:U)(y:X w I O 164)(S:O[7]? =E (.map (E Y)))(A:nC w Y d.aA d.ac c e s v):Calls h 121 #[g (E (u I 0 J)),t (aw d)] w λR w'=>R=q (F K (dK c e d.bJ))/\G No w w':=by
 have aj:=y.lt;have M:=y.T 7;rw[S] at M;have ab:=A (w.alloc (m (aw d) 41)).drew ((G.refl _ _).alloc _).drew;have ad:=λH=>A ((w.alloc (m (aw d) 41)).alloc H).drew (((G.refl No w).alloc _).alloc H).drew;unfold aw at *;clear A y S;go_enter func121,ntmps121;go_wp2_with fail
 go_cut [5] (λah B=>ah=g (E ⟨w.heap.size+1,0,J⟩)/\Hid (G No w B)/\Hid (X B w.heap.size (aw d) 41)/\Hid (X B (w.heap.size+1) #[F K c,F K e,F K s,F K v] 199))
 case first=>
  go_region
  all_goals go_wp2
  all_goals go_meet
  all_goals (refine⟨rfl,(((G.refl No w).alloc _).alloc _).drew,((X.new w _ _).alloc _).drew,?_⟩;have:=X.new (w.alloc (m (aw d) 41)) #[F K c,F K e,F K s,F K v] 199;rw[bW] at this;exact this)
 case rest=>
  obtain⟨rfl,T,z,n⟩:=hcut;have Z:=(b n).T;have ag:=(b n).lt;have N:=(b z).T;unfold aw at N;clear ab ad M;go_wp2_with fail;refine(yo c e s v _).mono ?_;rintro R w3 ⟨rfl,p⟩;have ai:=(p.e (b n) (λr=>r)).T;have aa:=(p.e (b z) (λr=>r)).T;have ak:=(p.e (b n) (λr=>r)).lt;unfold aw at aa;have x:=l ((b T).trans p);clear p Z N ag T z n;by_cases k:c=1\/c=2
  .have ae:decide (c=1\/c=2)=true:=by simp[k]
   have W:(c:Int)=1\/(c:Int)=2:=by omega
   by_cases i:e=d.bJ
   .have af:(e !=d.bJ)=false:=by simp[i]
    have j:=l (show dK c e d.bJ=0 by unfold dK;rw[f (by omega),f (by simpa using i)]);clear k i W;go_wp2;go_ret;exact⟨by rw[b j];rfl,b x⟩
   .have af:(e !=d.bJ)=true:=by simp[i]
    have j:=l (show dK c e d.bJ=7 by unfold dK;rw[f (by omega),D i]);clear k i W;go_wp2;go_ret;exact⟨by rw[b j];rfl,b x⟩
  .have ae:decide (c=1\/c=2)=false:=by simp[k]
   have j:=l (show dK c e d.bJ=10 by unfold dK;rw[D (by omega)]);clear k;go_wp2;go_ret;exact⟨by rw[b j];rfl,b x⟩
def refuse(b:Int):V:=aq #[.nilIface,F K b]
def ey(b:V):V:=aq #[b,F K 0]
def gF(e b i d c j:Int):V:=.iface 202 (t #[F K e,F K b,F K i,F K d,F K c,F K j])
def oK(c b:Int):V:=.iface 214 (t #[F K c,F K b])
def qQ(c b d c':Int):V:=.iface 216 (t #[F K c,F K b,F K d,F K c'])
def kW(p:O):V:=.iface 189 (fX p)
def pL(b:Int):V:=.iface 159 (t #[F K b])
attribute [local go_sem] vY
theorem sH(s:Nat)(c d rows i:Int)(p:Array V)(w:U)(k:X w s p 164)(v:p[0]? =E (F K rows))(x:p[1]? =E (F K i)):Calls h 99 #[g (E (u s 0 J)),t #[F K c,F K d]] w λH w'=>H=q (L (decide (1<=c/\c<=rows/\1<=d/\d<=i)))/\G No w w':=by
 have M:=k.lt;have A:=k.T 0;rw[v] at A;have B:=k.T 1;rw[x] at B;have j:=l (λI=>((G.refl No w).alloc (m #[F K c,F K d] 36)).drewN I);clear k v x;by_cases n:c>=1
 .have d1:decide (c>=1)=true:=decide_eq_true n;by_cases y:c<=rows
  .by_cases r:d>=1
   .by_cases z:d<=i
    .have e:=l (show decide (1<=c/\c<=rows/\1<=d/\d<=i)=true by simp;omega);go_enter func99,ntmps99;go_wp2_with fail;go_quiet (fail);go_wp2;go_ret;exact⟨by rw[b e];rfl,(b j) _⟩
    .have d4:decide (d<=i)=false:=qF z;have e:=l (show decide (1<=c/\c<=rows/\1<=d/\d<=i)=false by simp;omega);go_enter func99,ntmps99;go_wp2_with fail;go_quiet (fail);go_wp2;go_ret;exact⟨by rw[b e];rfl,(b j) _⟩
   .have d4:decide (d>=1)=false:=qF r;have d5:decide (1<=d)=false:=qF r;have e:=l (show decide (1<=c/\c<=rows/\1<=d/\d<=i)=false by simp;omega);go_enter func99,ntmps99;go_wp2_with fail;go_quiet (fail);go_wp2;go_ret;exact⟨by rw[b e];rfl,(b j) _⟩
  .have d4:decide (c<=rows)=false:=qF y;have e:=l (show decide (1<=c/\c<=rows/\1<=d/\d<=i)=false by simp;omega);go_enter func99,ntmps99;go_wp2_with fail;go_quiet (fail);go_wp2;go_ret;exact⟨by rw[b e];rfl,(b j) _⟩
 .have d4:decide (c>=1)=false:=qF n;have d5:decide (1<=c)=false:=qF n;have e:=l (show decide (1<=c/\c<=rows/\1<=d/\d<=i)=false by simp;omega);go_enter func99,ntmps99;go_wp2_with fail;go_quiet (fail);go_wp2;go_ret;exact⟨by rw[b e];rfl,(b j) _⟩
def kG(b:aK)(d c sl:Int):V:=
 if c≠0 then refuse c else if b.time<=d\/b.time>d+100 then refuse 8 else if sl≠0 then refuse sl else ey (gF b.aA b.ac 1 b.bJ b.bF b.time)
theorem J5(R:Nat)(c:aK)(e i sl:Int)(aa:0<=e/\e<=4611686018427387000)(w:U)(S:∀s,G No w s->Calls h 119 #[t (aw c)] s λj w'=>j=q (F K i)/\G No s w')(hS:i=0->∀s,G No w s->Calls h 120 #[g (E (u R 0 J)),t (aw c)] s λj w'=>j=q (F K sl)/\G No s w'):Calls h 100 #[g (E (u R 0 J)),t (aw c),F K e] w λj w'=>j=q (kG c e i sl)/\G No w w':=by
 have ab:K.wrap (e+100)=e+100:=bh _ (by omega) (by omega);have z:=l S;have N:=l hS;have k:=l ((G.refl No w).alloc (m (aw c) 41));have y:=l (X.new w (aw c) 41);unfold aw at z N k y ⊢;clear S hS;by_cases v:i=0
 .have d1:(i !=0)=false:=by simp[v]
  have A:=l v;clear v;by_cases W:c.time<=e
  .have p:=l (show kG c e i sl=refuse 8 by unfold kG;rw[f (by simpa using b A),D (.inl W)]);go_enter func100,ntmps100;go_wp2_with fail;refine((b z) _ (b k)).mono ?_;rintro j M ⟨rfl,d⟩;have H:=(d.e (b y) (λn=>n)).T;have r:=l ((b k).trans d);clear d;go_wp2;go_ret2;exact⟨by rw[b p];rfl,b r⟩
  .by_cases Y:c.time>e+100
   .have p:=l (show kG c e i sl=refuse 8 by unfold kG;rw[f (by simpa using b A),D (.inr Y)]);go_enter func100,ntmps100;go_wp2_with fail;refine((b z) _ (b k)).mono ?_;rintro j M ⟨rfl,d⟩;have H:=(d.e (b y) (λn=>n)).T;have r:=l ((b k).trans d);clear d;go_wp2;go_ret2;exact⟨by rw[b p];rfl,b r⟩
   .have p:=l (show kG c e i sl=if sl≠0 then refuse sl else ey (gF c.aA c.ac 1 c.bJ c.bF c.time) by unfold kG;rw[f (by simpa using b A),f (by omega)]);go_enter func100,ntmps100;go_wp2_with fail;refine((b z) _ (b k)).mono ?_;rintro j M ⟨rfl,d⟩;have H:=(d.e (b y) (λn=>n)).T;have r:=l ((b k).trans d);have T:=l (d.e (b y) (λn=>n));clear d;go_wp2_with fail;refine((b N) (b A) _ (b r)).mono ?_
    rintro j ad ⟨rfl,I⟩;have Z:=(I.e (b T) (λn=>n)).T;have O:=l ((b r).trans I);clear I H;by_cases x:sl=0
    .have d4:(sl !=0)=false:=by simp[x]
     have B:=l (show kG c e i sl=ey (gF c.aA c.ac 1 c.bJ c.bF c.time) by rw[b p,f (by simpa using x)]);clear x;go_wp2;go_ret2;exact⟨by rw[b B];rfl,b O⟩
    .have d4:(sl !=0)=true:=by simp[x]
     have B:=l (show kG c e i sl=refuse sl by rw[b p,D x]);clear x;go_wp2;go_ret2;exact⟨by rw[b B];rfl,b O⟩
 .have d1:(i !=0)=true:=by simp[v]
  have p:=l (show kG c e i sl=refuse i by unfold kG;rw[D v]);clear v;go_enter func100,ntmps100;go_wp2_with fail;refine((b z) _ (b k)).mono ?_;rintro j M ⟨rfl,d⟩;have r:=l ((b k).trans d);clear d;go_wp2;go_ret2;exact⟨by rw[b p];rfl,b r⟩
attribute [local go_sem] vY
theorem nC.on{w w':U}{d c b e:Int}(j:nC w p v W d c b e)(l:G No w w'):nC w' p v W d c b e:=λi k=>j i (l.trans k)
def pM(b:aK)(c:Int):V:=if c≠0 then refuse c else ey (oK b.aA b.ac)
theorem J7(x:Nat)(c:aK)(d:Int)(w:U)(y:∀s,G No w s->Calls h 121 #[g (E (u x 0 J)),t (aw c)] s λk w'=>k=q (F K d)/\G No s w'):Calls h 102 #[g (E (u x 0 J)),t (aw c)] w λk w'=>k=q (pM c d)/\G No w w':=by
 have n:=l y;have j:=l ((G.refl No w).alloc (m (aw c) 41));have v:=l (X.new w (aw c) 41);unfold aw at n j v ⊢;clear y;by_cases e:d=0
 .have d1:(d !=0)=false:=by simp[e]
  have p:=l (show pM c d=ey (oK c.aA c.ac) by unfold pM;rw[f (by simpa using e)]);clear e;go_enter func102,ntmps102;go_wp2_with fail;refine((b n) _ (b j)).mono ?_;rintro k z ⟨rfl,i⟩;have B:=(i.e (b v) (λA=>A)).T;have r:=l ((b j).trans i);clear i;go_wp2;go_ret2;exact⟨by rw[b p];rfl,b r⟩
 .have d1:(d !=0)=true:=by simp[e]
  have p:=l (show pM c d=refuse d by unfold pM;rw[D e]);clear e;go_enter func102,ntmps102;go_wp2_with fail;refine((b n) _ (b j)).mono ?_;rintro k z ⟨rfl,i⟩;have r:=l ((b j).trans i);clear i;go_wp2;go_ret2;exact⟨by rw[b p];rfl,b r⟩
def nD(b:aK)(c d:Int):V:=if c≠0 then refuse c else if d≠0 then refuse 9 else ey (qQ b.aA b.ac b.dd b.de)
theorem J8(B S:Nat)(N:Array V)(c:aK)(d e ad aa ae:Int)(w:U)(O:X w B N 164)(ab:N[7]? =E (.map (E S)))(r:d=0->nC w S c.dd c.de e ad aa ae)(R:∀A,G No w A->Calls h 121 #[g (E (u B 0 J)),t (aw c)] A λp w'=>p=q (F K d)/\G No A w'):Calls h 103 #[g (E (u B 0 J)),t (aw c)] w λp w'=>p=q (nD c d e)/\G No w w':=by
 have y:=l R;have Y:=l O;have x:=l r;have j:=l ((G.refl No w).alloc (m (aw c) 41));have M:=l (X.new w (aw c) 41);unfold aw at y j M ⊢;clear R O r;by_cases k:d=0
 .have d1:(d !=0)=false:=by simp[k]
  have r:=b x k;have x:=l r;have s:=l (show nD c d e=if e≠0 then refuse 9 else ey (qQ c.aA c.ac c.dd c.de) by unfold nD;rw[f (by simpa using k)]);clear k r;go_enter func103,ntmps103;go_wp2_with fail;refine((b y) _ (b j)).mono ?_;rintro p W ⟨rfl,i⟩;have af:=(i.e (b M) (λI=>I)).T;have H:=((b j).trans i).e (b Y) (λI=>I);have ah:=H.lt;have Z:=H.T 7;rw[ab] at Z
  have ag:=λT=>(b x) (W.drewN T) (((b j).trans i).drewN T);have v:=l ((b j).trans i);clear i H;by_cases n:e=0
  .have d2:(e !=0)=false:=by simp[n]
   have z:=l (show nD c d e=ey (qQ c.aA c.ac c.dd c.de) by rw[b s,f (by simpa using n)]);clear n;go_wp2_with fail;go_quiet (fail);go_wp2;go_ret2;exact⟨by rw[b z];rfl,(b v).drewN _⟩
  .have d2:(e !=0)=true:=by simp[n]
   have z:=l (show nD c d e=refuse 9 by rw[b s,D n]);clear n;go_wp2_with fail;go_quiet (fail);go_wp2;go_ret2;exact⟨by rw[b z];rfl,(b v).drewN _⟩
 .have d1:(d !=0)=true:=by simp[k]
  have s:=l (show nD c d e=refuse d by unfold nD;rw[D k]);clear k;go_enter func103,ntmps103;go_wp2_with fail;refine((b y) _ (b j)).mono ?_;rintro p W ⟨rfl,i⟩;have v:=l ((b j).trans i);clear i;go_wp2;go_ret2;exact⟨by rw[b s];rfl,b v⟩
def pN(b:aK)(c:Int):V:=if c≠0 then refuse 9 else ey (gF b.aA b.ac 3 0 0 0)
def pO(b:aK)(c:Int):V:=if c≠3 then refuse 10 else ey (oK b.aA b.ac)
theorem J9(n v:Nat)(p:Array V)(c:aK)(d H z I:Int)(w:U)(k:X w n p 164)(r:p[7]? =E (.map (E v)))(s:nC w v c.aA c.ac d H z I):Calls h 104 #[g (E (u n 0 J)),t (aw c)] w λA w'=>A=q (pN c d)/\G No w w':=by
 have M:=k.lt;have y:=k.T 7;rw[r] at y;have B:=λx=>s ((w.alloc (m (aw c) 41)).drewN x) (((G.refl No w).alloc _).drewN x);have j:=l ((G.refl No w).alloc (m (aw c) 41));unfold aw at B j ⊢;clear k s r;by_cases e:d=0
 .have d2:(d !=0)=false:=by simp[e]
  have i:=l (show pN c d=ey (gF c.aA c.ac 3 0 0 0) by unfold pN;rw[f (by simpa using e)]);clear e;go_enter func104,ntmps104;go_wp2_with fail;go_quiet (fail);go_wp2;go_ret2;exact⟨by rw[b i];rfl,(b j).drewN _⟩
 .have d2:(d !=0)=true:=by simp[e]
  have i:=l (show pN c d=refuse 9 by unfold pN;rw[D e]);clear e;go_enter func104,ntmps104;go_wp2_with fail;go_quiet (fail);go_wp2;go_ret2;exact⟨by rw[b i];rfl,(b j).drewN _⟩
theorem J'(n v:Nat)(p:Array V)(c:aK)(d H z I:Int)(w:U)(k:X w n p 164)(r:p[7]? =E (.map (E v)))(s:nC w v c.aA c.ac d H z I):Calls h 105 #[g (E (u n 0 J)),t (aw c)] w λA w'=>A=q (pO c d)/\G No w w':=by
 have M:=k.lt;have y:=k.T 7;rw[r] at y;have B:=λx=>s ((w.alloc (m (aw c) 41)).drewN x) (((G.refl No w).alloc _).drewN x);have j:=l ((G.refl No w).alloc (m (aw c) 41));unfold aw at B j ⊢;clear k s r;by_cases e:d=3
 .have d2:(d !=3)=false:=by simp[e]
  have i:=l (show pO c d=ey (oK c.aA c.ac) by unfold pO;rw[f (by simpa using e)]);clear e;go_enter func105,ntmps105;go_wp2_with fail;go_quiet (fail);go_wp2;go_ret2;exact⟨by rw[b i];rfl,(b j).drewN _⟩
 .have d2:(d !=3)=true:=by simp[e]
  have i:=l (show pO c d=refuse 10 by unfold pO;rw[D e]);clear e;go_enter func105,ntmps105;go_wp2_with fail;go_quiet (fail);go_wp2;go_ret2;exact⟨by rw[b i];rfl,(b j).drewN _⟩
def jo(b:aK)(c i e d sl:Int):V:=
 if c≠0 then refuse c else if i=1/\e=b.bJ/\d=b.bF then ey (gF b.aA b.ac 2 b.bJ b.bF 0) else if sl≠0 then refuse sl else ey (gF b.aA b.ac 2 b.bJ b.bF 0)
theorem Ka(af av:Nat)(ao:Array V)(c:aK)(e sl k j i ax:Int)(w:U)(H:X w af ao 164)(aE:ao[7]? =E (.map (E av)))(au:nC w av c.aA c.ac k j i ax)(ap:∀I,G No w I->Calls h 119 #[t (aw c)] I λs w'=>s=q (F K e)/\G No I w')(hS:e=0->∀I,G No w I->Calls h 120 #[g (E (u af 0 J)),t (aw c)] I λs w'=>s=q (F K sl)/\G No I w'):
  Calls h 101 #[g (E (u af 0 J)),t (aw c)] w λs w'=>s=q (jo c e k j i sl)/\G No w w':=by
 have ab:=l ap;have Y:=l hS;have aA:=l H;have aj:=l au;have z:=l ((G.refl No w).alloc (m (aw c) 41));have ai:=l (X.new w (aw c) 41);unfold aw at ab Y z ai ⊢;clear ap hS H au;by_cases N:e=0
 .have d1:(e !=0)=false:=by simp[N]
  have ad:=l N;have R:=l (show jo c e k j i sl=if k=1/\j=c.bJ/\i=c.bF then ey (gF c.aA c.ac 2 c.bJ c.bF 0) else if sl≠0 then refuse sl else ey (gF c.aA c.ac 2 c.bJ c.bF 0) by unfold jo;rw[f (by simpa using N)]);clear N;go_enter func101,ntmps101;go_wp2_with fail;refine((b ab) _ (b z)).mono ?_;rintro s T ⟨rfl,x⟩;have v:=x.e (b ai) (λy=>y);have Z:=v.T;have aH:=v.lt
  have ag:=((b z).trans x).e (b aA) (λy=>y);have aJ:=ag.lt;have am:=ag.T 7;rw[aE] at am;have aF:=(b aj) T.drew ((b z).trans x).drew;have aG:=λak=>(b aj) (T.alloc ak).drew (((b z).trans x).alloc ak).drew;have ae:=l ((b z).trans x);have az:=l v;clear x ag v;go_wp2_with fail
  go_cut [7] (λaI ah=>aI=g (E (u T.heap.size 0 J))/\Hid (G No w ah)/\Hid (X ah w.heap.size (aw c) 41)/\Hid (X ah T.heap.size #[F K k,F K j,F K i,F K ax] 199))
  case first=>
   go_region
   all_goals go_wp2
   all_goals go_meet
   all_goals exact⟨rfl,((b ae).alloc _).drew,((b az).alloc _).drew,(X.new T _ _).drew⟩
  case rest=>
   obtain⟨rfl,O,v,ar⟩:=hcut;have Z:=(b ar).T;have aH:=(b ar).lt;have aa:=(b v).T;unfold aw at aa;clear aF aG am;by_cases B:k=1
   .have aB:(k==1)=true:=by simp[B]
    by_cases M:j=c.bJ
    .have aC:(j==c.bJ)=true:=by simp[M]
     by_cases S:i=c.bF
     .have aD:(i==c.bF)=true:=by simp[S]
      have r:=l (show jo c e k j i sl=ey (gF c.aA c.ac 2 c.bJ c.bF 0) by rw[b R,D ⟨B,M,S⟩]);clear B M S;go_wp2;go_ret2;exact⟨by rw[b r];rfl,b O⟩
     .have aD:(i==c.bF)=false:=by simp[S]
      have r:=l (show jo c e k j i sl=if sl≠0 then refuse sl else ey (gF c.aA c.ac 2 c.bJ c.bF 0) by rw[b R,f (λH=>S H.2.2)]);clear B M S;go_wp2_with fail;refine((b Y) (b ad) _ (b O)).mono ?_;rintro s ay ⟨rfl,p⟩;have W:=(p.e (b v) (λy=>y)).T;have A:=l ((b O).trans p);clear p aa Z;unfold aw at W;by_cases d:sl=0
      .have d4:(sl !=0)=false:=by simp[d]
       have n:=l (show jo c e k j i sl=ey (gF c.aA c.ac 2 c.bJ c.bF 0) by rw[b r,f (by simpa using d)]);clear d;go_wp2;go_ret2;exact⟨by rw[b n];rfl,b A⟩
      .have d4:(sl !=0)=true:=by simp[d]
       have n:=l (show jo c e k j i sl=refuse sl by rw[b r,D d]);clear d;go_wp2;go_ret2;exact⟨by rw[b n];rfl,b A⟩
    .have aC:(j==c.bJ)=false:=by simp[M]
     have r:=l (show jo c e k j i sl=if sl≠0 then refuse sl else ey (gF c.aA c.ac 2 c.bJ c.bF 0) by rw[b R,f (λH=>M H.2.1)]);clear B M;go_wp2_with fail;refine((b Y) (b ad) _ (b O)).mono ?_;rintro s ay ⟨rfl,p⟩;have W:=(p.e (b v) (λy=>y)).T;have A:=l ((b O).trans p);clear p aa Z;unfold aw at W;by_cases d:sl=0
     .have d4:(sl !=0)=false:=by simp[d]
      have n:=l (show jo c e k j i sl=ey (gF c.aA c.ac 2 c.bJ c.bF 0) by rw[b r,f (by simpa using d)]);clear d;go_wp2;go_ret2;exact⟨by rw[b n];rfl,b A⟩
     .have d4:(sl !=0)=true:=by simp[d]
      have n:=l (show jo c e k j i sl=refuse sl by rw[b r,D d]);clear d;go_wp2;go_ret2;exact⟨by rw[b n];rfl,b A⟩
   .have aB:(k==1)=false:=by simp[B]
    have r:=l (show jo c e k j i sl=if sl≠0 then refuse sl else ey (gF c.aA c.ac 2 c.bJ c.bF 0) by rw[b R,f (λH=>B H.1)]);clear B;go_wp2_with fail;refine((b Y) (b ad) _ (b O)).mono ?_;rintro s ay ⟨rfl,p⟩;have W:=(p.e (b v) (λy=>y)).T;have A:=l ((b O).trans p);clear p aa Z;unfold aw at W;by_cases d:sl=0
    .have d4:(sl !=0)=false:=by simp[d]
     have n:=l (show jo c e k j i sl=ey (gF c.aA c.ac 2 c.bJ c.bF 0) by rw[b r,f (by simpa using d)]);clear d;go_wp2;go_ret2;exact⟨by rw[b n];rfl,b A⟩
    .have d4:(sl !=0)=true:=by simp[d]
     have n:=l (show jo c e k j i sl=refuse sl by rw[b r,D d]);clear d;go_wp2;go_ret2;exact⟨by rw[b n];rfl,b A⟩
 .have d1:(e !=0)=true:=by simp[N]
  have R:=l (show jo c e k j i sl=refuse e by unfold jo;rw[D N]);clear N;go_enter func101,ntmps101;go_wp2_with fail;refine((b ab) _ (b z)).mono ?_;rintro s T ⟨rfl,x⟩;have ae:=l ((b z).trans x);clear x;go_wp2;go_ret2;exact⟨by rw[b R];rfl,b ae⟩
def vZ(p:O):V:=if p.aY=true/\p.bI=true then ey (kW p) else refuse 4
theorem Cu(p:O)(w:U):Calls h 76 #[fX p] w λk w'=>k=q (vZ p)/\G No w w':=by
 have j:=l λv=>Ct p v;have n:=l λv=>JZ p.af p.ag p.ai p.aj v;have M:p.bI=decide (0<=p.af/\p.af<=200/\0<=p.ag/\p.ag<=p.af/\0<=p.ai/\p.ai<=p.ag/\0<=p.aj/\p.aj<=p.ai):=rfl;rw[<-M] at n;clear M;have B:=l (show ∀d c,p.aY=d->p.bI=c->vZ p=if d=true/\c=true then ey (kW p) else refuse 4 by rintro d c rfl rfl;rfl);unfold fX at j ⊢;obtain⟨d,y⟩:∃d,p.aY=d:=⟨_,rfl⟩;obtain⟨c,x⟩:∃c,p.bI=c:=⟨_,rfl⟩;rw[y] at j
 rw[x] at n;have H:=l ((G.refl No w).alloc (m #[F K p.rows,F K p.y,F K p.Z,F K p.af,F K p.ag,F K p.ai,F K p.aj] 39));have A:=l (X.new w #[F K p.rows,F K p.y,F K p.Z,F K p.af,F K p.ag,F K p.ai,F K p.aj] 39);have r:=l ((b B) d c y x);clear y x B
 cases d with
 |false=>
  go_enter func76,ntmps76;go_wp2_with fail;refine((b j) _).mono ?_;rintro k S ⟨rfl,e⟩;have s:=l ((b H).trans e);clear e;go_wp2;go_ret2;exact⟨by rw[b r,f (by simp)];rfl,b s⟩
 |true=>
  go_enter func76,ntmps76;go_wp2_with fail;refine((b j) _).mono ?_;rintro k S ⟨rfl,e⟩;have R:=(e.e (b A) (λi=>i)).T;have s:=l ((b H).trans e);have N:=l (e.e (b A) (λi=>i));clear e;go_wp2_with fail;refine((b n) _).mono ?_;rintro k W ⟨rfl,z⟩;have T:=(z.e (b N) (λi=>i)).T;have I:=l ((b s).trans z);clear z R
  cases c with
  |true=>
   go_wp2;go_ret2;exact⟨by rw[b r,D (by simp)];rfl,b I⟩
  |false=>
   go_wp2;go_ret2;exact⟨by rw[b r,f (by simp)];rfl,b I⟩
def cG(b:List z):Nat:=b.countP λc=>c.st !=0
def my(d:O)(c:List z)(b:z):List z:=if b.st≠0/\d.e b.row b.ae=true then c.set (d.idx b.row b.ae) b else c
def stay(b:O)(c:List z):List z:=c.foldl (my b) (aI b)
def bY(d:O)(c:List z):List z:=c.filter λb=>b.st !=0&& !d.e b.row b.ae
def dL(b:List z):Nat:=b.findIdx λc=>c.st==0
def z.at(b x:z):z:=⟨x.row,x.ae,b.st,b.pa,b.cl,b.un⟩
def dh(b:List z)(c:z):List z:=b.set (dL b) (z.at c (b.getD (dL b) kT))
def gR(c:O)(b:List z):List z:=(bY c b).foldl dh (stay c b)
def gG(p b:O):O:=⟨b.rows,b.y,b.Z,p.af,p.ag,p.ai,p.aj,ik p.ep⟩
theorem Cv{c x:z}(b:c.wf):(z.at c x).wf:=⟨b.ou,b.s1,b.oy,b.c1,b.bare,b.pa,b.un,b.vu⟩
structure oL (q:O) (l acc:List z) (i:Nat):Prop where
 wf:aJ q acc
 from_:∀j (h:j<acc.length),acc[j].st≠0->∃k,∃hk:k<l.length,k<i/\l[k].row=acc[j].row/\l[k].ae=acc[j].ae
 count:cG acc+(bY q (l.take i)).length=cG (l.take i)
theorem oL.start{p:O}(e:List z)(c:B.aY=true)(d:B.bI=true):oL B e (aI B) 0:=by
 refine⟨oH c d,λk i b=>?_,?_⟩
 .simp[aI] at b
 .have:cG (aI B)=0:=by
   unfold cG;rw[uh];intro l b;simp only[aI,kA] at b;obtain⟨j,_,rfl⟩:=b;simp
  rw[this];rfl
theorem take_succ{e:Type}(c:List e)(b:Nat)(d:b<c.length):c.take (b+1)=c.take b++[c[b]]:=by
 rw[mD,du d];rfl
theorem Cw{j:Nat}(c:j<k.length)(b:z)(d:k[j].st=0)(e:b.st≠0):cG (k.set j b)=cG k+1:=by
 have:=countP_set (λb:z=>b.st !=0) k j c b;simp[d,e] at this;unfold cG;omega
theorem oL.free{p:O}(b:oL B k I S)(r:aJ p k)(hi:S<k.length)(i:B.e k[S].row k[S].ae=true):∃c:B.idx k[S].row k[S].ae<I.length,I[B.idx k[S].row k[S].ae].st=0/\I[B.idx k[S].row k[S].ae].row=k[S].row/\I[B.idx k[S].row k[S].ae].ae=k[S].ae:=by
 have c:B.idx k[S].row k[S].ae<I.length:=bV.wf.jP b.wf i;have d:=bV.wf.qA b.wf i;refine⟨c,?_,d⟩;by_cases e:I[B.idx k[S].row k[S].ae].st=0
 .exact e
 .obtain⟨v,n,s,j,l⟩:=b.from_ _ c e;have:=r.yk n hi (by rw[j];exact d.1) (by rw[l];exact d.2);omega
theorem oL.step{p:O}(d:oL B k I S)(G:aJ p k)(hi:S<k.length):oL B k (my B I k[S]) (S+1):=by
 have X:=G.dX _ (eK hi);have Y:=d.count;have A:cG (k.take (S+1))=cG (k.take S)+(if k[S].st≠0 then 1 else 0):=by
  rw[take_succ k S hi];unfold cG;rw[qO];by_cases b:k[S].st=0<;>simp[b]
 have y:(bY B (k.take (S+1))).length=(bY B (k.take S)).length+(if k[S].st≠0/\¬B.e k[S].row k[S].ae=true then 1 else 0):=by
  rw[take_succ k S hi];unfold bY;rw[Cx,bG];congr 1;by_cases b:k[S].st=0
  .simp[b]
  .cases N:B.e k[S].row k[S].ae<;>simp[b,N]
 unfold my;by_cases c:k[S].st≠0/\B.e k[S].row k[S].ae=true
 .rw[D c];obtain⟨j,f0,M,H⟩:=d.free G hi c.2;refine⟨d.wf.set j X M.symm H.symm,λi R e=>?_,?_⟩
  .have T:i<I.length:=by simpa using R
   simp only[pK] at e ⊢;by_cases x:B.idx k[S].row k[S].ae=i
   .rw[D x];exact⟨S,hi,by omega,rfl,rfl⟩
   .rw[f x] at e ⊢;obtain⟨s,r,W,l,n⟩:=d.from_ i T e;exact⟨s,r,by omega,l,n⟩
  .rw[Cw j k[S] f0 c.1,A,y,D c.1,f (λv=>v.2 c.2)];omega
 .rw[f c];refine⟨d.wf,λi j e=>?_,?_⟩
  .obtain⟨s,r,W,l,n⟩:=d.from_ i j e;exact⟨s,r,by omega,l,n⟩
  .rw[A,y];by_cases b:k[S].st=0
   .rw[f (by simp[b]),f (by simp[b])];omega
   .have:¬B.e k[S].row k[S].ae=true:=λv=>c ⟨b,v⟩;rw[D b,D ⟨b,this⟩];omega
theorem pP(d:O)(c:List z)(b:Nat)(hi:b<c.length):stay d (c.take (b+1))=my d (stay d (c.take b)) c[b]:=by
 rw[take_succ c b hi];unfold stay;rw[sI];rfl
theorem nE(d:O)(c:List z)(b:Nat)(hi:b<c.length):bY d (c.take (b+1))=bY d (c.take b)++(if c[b].st≠0/\¬d.e c[b].row c[b].ae=true then[c[b]] else[]):=by
 rw[take_succ c b hi];unfold bY;rw[Cx];congr 1;by_cases e:c[b].st=0
 .simp[e]
 .cases i:d.e c[b].row c[b].ae<;>simp[e,i]
theorem uk{p:O}(e:aJ p k)(c:B.aY=true)(d:B.bI=true):∀b,b<=k.length->oL B k (stay B (k.take b)) b
 |0,_=>oL.start (p:=p) k c d
 |b+1,i=>by
  rw[pP B k b (by omega)];exact(uk e c d b (by omega)).step e (by omega)
structure jU (q:O) (acc:List z) (n:Nat):Prop where
 wf:aJ q acc
 ay:cG acc+n<=acc.length
theorem v8{n:Nat}(e:jU B k (n+1)):dL k<k.length:=by
 unfold dL;rw[List.findIdx_lt_length];by_cases c:∃b∈k,(b.st==0)=true
 .exact c
 .exfalso;have:cG k=k.length:=by
   unfold cG;rw[List.countP_eq_length];intro b i;have:¬(b.st==0)=true:=λd=>c ⟨b,i,d⟩;simpa using this
  have:=e.ay;omega
theorem v9(b:dL k<k.length):k[dL k].st=0:=by
 have:=List.findIdx_getElem (p:=λc:z=>c.st==0) (w:=b);simp only[lD] at this;exact this
theorem Kb{j:Nat}(b:j<dL k)(d:j<k.length):k[j].st≠0:=by
 have:=List.not_of_lt_findIdx (p:=λc:z=>c.st==0) (xs:=k) (i:=j) b;simpa using this
theorem jU.step(c:jU B k (p+1)){d:z}(j:d.wf)(i:d.st≠0):jU B (dh k d) p:=by
 have b:=v8 c;have e:k.getD (dL k) kT=k[dL k]:=by
  rw[qR,du b];rfl
 unfold dh;rw[e];refine⟨c.wf.set b (Cv j) rfl rfl,?_⟩;rw[Cw b _ (v9 b) (by exact i),kH];have:=c.ay;omega
theorem um{p q:O}(d:aJ p k):∀c∈bY q k,c.wf/\c.st≠0:=by
 intro c b;unfold bY at b;rw[List.mem_filter] at b;refine⟨d.dX c b.1,?_⟩;have:=b.2;simp only[mX] at this;simpa using this.1
theorem we{p:O}(j:aJ p k)(c:B.aY=true)(d:B.bI=true)(l:¬B.rows* B.y<(cG k:Int)):jU B (stay B k) (bY B k).length:=by
 have b:=uk j c d k.length (cz _);rw[fN] at b;refine⟨b.wf,?_⟩;have e:=b.count;rw[fN] at e;have i:=b.wf.len;simp only at i;omega
theorem Cy:∀(b:List z) (d:List z),(∀c∈b,c.wf/\c.st≠0)->jU B d b.length->aJ B (b.foldl dh d)
 |[],d,_,e=>e.wf
 |c::b,d,i,e=>by
  rw[jT];exact Cy b _ (λx j=>i x (rN _ j)) (jU.step e (i c (qB)).1 (i c (qB)).2)
theorem yM{p q:O}(b:aJ p k)(c:q.aY=true)(d:q.bI=true)(e:¬q.rows* q.y<(cG k:Int)):aJ q (gR q k):=
 Cy _ _ (um b) (we b c d e)
def pQ(b:O):V:=.iface 212 (t #[F K b.rows,F K b.y,F K b.Z])
def uo(b:O)(c:Nat):V:=if b.aY=true/\¬(b.rows* b.y<(c:Int)) then ey (pQ b) else refuse 4
theorem Kc(w:U)(c d:Nat)(b:List az)(e:w.heap[c]? =E (cX b d))(ty:TypeId):(Builtin.len_ #[162] ty #[.map (E c)]).run h w=.ok (F K (b.length:Nat)) w:=by
 unfold cX at e;have i:(getObj c).run h w=.ok (.map (b.map az.obj).toArray d) w:=by simp[getObj,Sem.run,e]
 simp[Builtin.len_,jj oA,i,goInt]
theorem Kd(y s:Nat)(M:Array V)(c:O)(j:Nat)(w:U)(z:X w y M 164)(A:M[7]? =E (.map (E s)))(N:∀p,G No w p->∀ty,(Builtin.len_ #[162] ty #[.map (E s)]).run h p=.ok (F K (j:Nat)) p)(r:c.aY=true->K.wrap (c.rows* c.y)=c.rows* c.y):Calls h 98 #[g (E (u y 0 J)),fX c] w λW w'=>W=q (uo c j)/\G No w w':=by
 have k:=l λp=>Ct c p;have I:=l (show ∀i,c.aY=i->uo c j=if i=true/\¬(c.rows* c.y<(j:Int)) then ey (pQ c) else refuse 4 by rintro i rfl;rfl);unfold fX at k ⊢;obtain⟨i,B⟩:∃i,c.aY=i:=⟨_,rfl⟩;rw[B] at k r;have x:=l ((b I) i B);have S:=l z;have n:=l ((G.refl No w).alloc (m #[F K c.rows,F K c.y,F K c.Z,F K c.af,F K c.ag,F K c.ai,F K c.aj] 39))
 have H:=l (X.new w #[F K c.rows,F K c.y,F K c.Z,F K c.af,F K c.ag,F K c.ai,F K c.aj] 39);have T:=l N;have ab:=z.lt;clear B I N z;have aa:∀(d:gZ (w.alloc (m #[F K c.rows,F K c.y,F K c.Z,F K c.af,F K c.ag,F K c.ai,F K c.aj] 39))) (o:Nat),d.W.cell? (u w.heap.size o J)=_:=(b H).wd
 have A:∀d:gZ (w.alloc (m #[F K c.rows,F K c.y,F K c.Z,F K c.af,F K c.ag,F K c.ai,F K c.aj] 39)),d.W.cell? (u y 7 J)=E (.map (E s)):=λd=>by
  rw[((b n).e (b S) (λd=>d)).wd d 7,A]
 have Y:∀(d:gZ (w.alloc (m #[F K c.rows,F K c.y,F K c.Z,F K c.af,F K c.ag,F K c.ai,F K c.aj] 39))) ty,(Builtin.len_ #[162] ty #[.map (E s)]).run h d.W=.ok (F K (j:Nat)) d.W:=λd ty=>(b T) _ ((b n).trans d.h) ty;have ad:=vH (w.alloc (m #[F K c.rows,F K c.y,F K c.Z,F K c.af,F K c.ag,F K c.ai,F K c.aj] 39))
 cases i with
 |false=>
  clear r A Y;go_enter func98,ntmps98;go_wp2_with fail;refine qG (w0:=(w.alloc (m #[F K c.rows,F K c.y,F K c.Z,F K c.af,F K c.ag,F K c.ai,F K c.aj] 39))) (by kernel_rfl) (by kernel_rfl) (G.refl _ _) ?_
  repeat (go_big_quiet_step ((go_at_call 96;exact Calls.wd _ ((b k) _))))
  refine sJ ?_;rintro w3 ⟨⟨_,e⟩,rfl⟩;go_wp2;go_ret2;exact⟨by rw[b x,f (by simp)];rfl,(b n).trans e⟩
 |true=>
  have r:=r rfl;by_cases hd:c.rows* c.y<(j:Int)
  .have v:=l hd;go_enter func98,ntmps98;go_wp2_with fail;refine qG (w0:=(w.alloc (m #[F K c.rows,F K c.y,F K c.Z,F K c.af,F K c.ag,F K c.ai,F K c.aj] 39))) (by kernel_rfl) (by kernel_rfl) (G.refl _ _) ?_
   repeat (go_big_quiet_step ((go_at_call 96;exact Calls.wd _ ((b k) _))))
   refine sJ ?_;rintro w3 ⟨⟨_,e⟩,rfl⟩;go_wp2;go_ret2;exact⟨by rw[b x,f (by have:=b v;omega)];rfl,(b n).trans e⟩
  .have v:=l hd;have R:=l λ(w3:U) (e:G No (w.alloc (m #[F K c.rows,F K c.y,F K c.Z,F K c.af,F K c.ag,F K c.ai,F K c.aj] 39)) w3)=>(e.e (b H) (λd=>d));go_enter func98,ntmps98;go_wp2_with fail;refine qG (w0:=(w.alloc (m #[F K c.rows,F K c.y,F K c.Z,F K c.af,F K c.ag,F K c.ai,F K c.aj] 39))) (by kernel_rfl) (by kernel_rfl) (G.refl _ _) ?_
   repeat (go_big_quiet_step ((go_at_call 96;exact Calls.wd _ ((b k) _))))
   refine sJ ?_;rintro w3 ⟨⟨_,e⟩,rfl⟩;have Z:=((b R) w3 e).T;go_wp2;go_ret2;exact⟨by rw[b x,D (by have:=b v;simp;omega)];rfl,(b n).trans e⟩
theorem Ke(k:Nat)(d:aK)(v:Int)(x r:V)(n:d.kind=9)(w:U)(hS:∀i,G No w i->Calls h 98 #[g (E (u k 0 J)),fX d.c] i λe w'=>e=q (aq #[x,r])/\G No i w'):Calls h 77 #[g (E (u k 0 J)),t (aw d),F K v] w λe w'=>e=q (aq #[x,r])/\G No w w':=by
 have j:=l hS;have c:=l ((G.refl No w).alloc (m (aw d) 41));unfold aw at c ⊢;unfold fX at j;rw[n] at c ⊢;clear n hS;go_enter func77,ntmps77;go_wp2_with fail;refine((b j) _ (b c)).mono ?_;rintro e y ⟨rfl,p⟩;have s:=l ((b c).trans p);clear p;go_wp2;go_ret2;exact⟨rfl,b s⟩
end Go.Proofs.YthhibagcpjeihaaGreat
