import Derived.Test.YthhibagcpjeihaaGreatWi
import Derived.Test.YthhibagcpjeihaaGreatWk
import Derived.Test.YthhibagcpjeihaaGreatWl
import Derived.Deep.RegionHeld3
open Go.Proofs.Tryz
open Go.Addr renaming mk->u
open Go.Value renaming int->F,pointer->g,slice->C,bool->L,agg->t,tuple->aq,ownBlock->aV
open Go.IntKind renaming i64->K
open Option renaming none->J,some->E
open Go renaming World->U,Value->V
open Go.Proofs.Tryz renaming prog->h
open Go.Ending renaming returned->q
open Go.Obj renaming cells->m
open Go.Act renaming eval->aM,put->bN
open Go.Region renaming wanted->jD
open List renaming range->jF
open Go.Oper renaming wp->gu
set_option linter.unusedVariables false
set_option linter.unusedSimpArgs false
set_option maxRecDepth 100000
set_option maxHeartbeats 8000000
namespace Go.Proofs.YthhibagcpjeihaaGreat
open Go.RowKit
open M
structure cJ (N:Int) (now:Int) (fl:aQ):Prop where
 iw:∀j,j=0\/20<j->fl j=J
 wf:∀j p l,fl j=E (p,l)->aJ p l
 ep:∀j p l,fl j=E (p,l)->1<=p.ep/\p.ep<=N+1
 one:∀j p l,fl j=E (p,l)->p.ep=1->∀s∈l,s.st=0
 hold:∀j p l,fl j=E (p,l)->∀s∈l,s.st=1->now<s.un
 time:0<=now/\now<=100* N
 pw:0<=N/\N<=1099511627776
theorem cJ.zero:cJ 0 0 gJ:=⟨λ_ _=>rfl,λ_ _ _ a=>(by cases a),λ_ _ _ a=>(by cases a),λ_ _ _ a=>(by cases a),λ_ _ _ a=>(by cases a),by omega,by omega⟩
variable {w Q P:Int} {p:aQ} {S:Nat} {o:Nat->Option Nat} {j:List z} {k:Nat->Nat} {I:U} {v:bU} {W:aH} {N:Nat->Option (O×List z)} {B:List az} {R:aK} {i:Option (Int×aQ)} {n:Bool}
theorem cJ.more{M:Int}(a:cJ w Q p)(i:w<=M)(j:M<=1099511627776):cJ M Q p:=
 ⟨a.iw,a.wf,λc e d b=>by have:=a.ep c e d b;omega,a.one,a.hold,by have:=a.time;omega,by have:=a.pw;omega⟩
theorem ve(a:1<=w/\w<=Q+1)(b:0<=Q/\Q<=1099511627776):ik w=w+1:=by
 unfold ik;rw[lF];omega
def tw(b:Int)(a:z):Bool:=a.st==1&&decide (a.un<=b)
theorem Rv(b:Int):Ask (tw b):=⟨λc a=>by unfold tw at a;simp at a;omega,λc d=>rfl⟩
theorem Rw(b:∀a∈j,a.st=1->w<a.un):j.countP (tw w)=0:=by
 rw[uh];intro a d;unfold tw;simp only[mX,lD,eA];rintro⟨c,e⟩;have:=b a d c;omega
theorem Rx(b:j.countP (tw w)=0):∀a∈j,a.st=1->w<a.un:=by
 rw[uh] at b;intro a d c;have:=b a d;unfold tw at this;simp only[mX,lD,eA] at this;have:=λe=>this ⟨c,e⟩;omega
theorem Ry{p:O}(d:aJ p j)(e:0<=w/\w<=4611686018427387000)(b:bH p j R w=0):aJ (iG p R) (eD p j R):=by
 by_cases a:R.kind=9
 .unfold bH at b;rw[D a] at b;by_cases c:R.c.aY=true/\¬(R.c.rows* R.c.y<(cG j:Int))
  .unfold iG eD;rw[D a,D a];exact yM (q:=gG p R.c) d c.1 d.bI c.2
  .rw[f c] at b;omega
 .unfold iG;rw[f a];exact(zm d e b a).next
theorem AF(p:O)(a:aK):(iG p a).ep=ik p.ep:=by
 unfold iG;split<;>rfl
theorem Rz{p:O}(o:aJ p j)(e:bH p j R w=0)(c:∀a∈j,a.st=1->w<a.un):∀a∈eD p j R,a.st=1->w<a.un:=by
 by_cases i:R.kind=9
 .unfold bH at e;rw[D i] at e;by_cases l:R.c.aY=true/\¬(R.c.rows* R.c.y<(cG j:Int))
  .unfold eD;rw[D i];refine Rx ?_;rw[Ns (q:=gG p R.c) (Rv w) o l.1 o.bI l.2];exact Rw c
  .rw[f l] at e;omega
 .obtain⟨_,I,P,k,N⟩:=uy e i;obtain⟨hi,n,_⟩:=nF o I;have M:(aZ p j R.aA R.ac).st=1->w<(aZ p j R.aA R.ac).un:=by rw[n];exact c _ (eK hi)
  have put:∀(s:List z) y (b:z),(∀a∈s,a.st=1->w<a.un)->(b.st=1->w<b.un)->∀a∈s.set y b,a.st=1->w<a.un:=λs y b H k a n=>by
   obtain v|v:=Ce n
   .exact H a v
   .subst v;exact k
  have x:∀b:z,b.bZ.st=1->w<b.bZ.un:=λb d=>by simp[z.bZ] at d
  unfold eD;rw[f i];by_cases r:R.kind=2
  .rw[D r];exact put _ _ _ c (λ_=>(k r).2.1)
  rw[f r];by_cases A:R.kind=3
  .rw[D A];exact put _ _ _ c (λd=>by simp at d)
  rw[f A];by_cases B:R.kind=5
  .rw[D B];exact put _ _ _ (put _ _ _ c (x _)) M
  rw[f B];by_cases G:R.kind=6
  .rw[D G];exact put _ _ _ c (λd=>by simp at d)
  rw[f G];exact put _ _ _ c (x _)
theorem cJ.step{fl':aQ}(i:cJ w Q p)(hd:br Q p R=(0,P,fl'))(ah:w+1<=1099511627776):cJ (w+1) P fl':=by
 have ai:=Fq hd;have H:=i.pw;have aj:=i.time;unfold br at hd;by_cases Y:R.kind<1\/R.kind>9
 .rw[D Y] at hd;exact absurd hd (by simp)
 rw[f Y] at hd;by_cases X:R.kind=8
 .rw[D X] at hd;by_cases aa:1<=R.time/\R.time<=100
  .rw[D aa] at hd;injection hd with _ hd;injection hd with v x;rw[<-x,v];have get:∀a c b,(p a).map (jV P)=E (c,b)->∃k l,p a=E (k,l)/\c=nz P k l/\b=eC P l:=λa c b d=>by
    cases e:p a with
    |none=>rw[e] at d;cases d
    |some A=>
     rw[e] at d;obtain⟨k,l⟩:=A;injection d with d;injection d with N S;exact⟨k,l,rfl,N.symm,S.symm⟩
   refine⟨λa T=>(by show(p a).map _=J;rw[i.iw a T];rfl),λa c b d=>?_,λa c b d=>?_,λa c b d=>?_,λa c b d=>?_,by omega,by omega⟩
   .obtain⟨k,l,e,rfl,rfl⟩:=get a c b d;exact Cz (i.wf a k l e) P
   .obtain⟨k,l,e,rfl,rfl⟩:=get a c b d;have:=i.ep a k l e;unfold nz;split
    .show 1<=ik k.ep/\ik k.ep<=w+1+1;rw[ve this H];omega
    .omega
   .obtain⟨k,l,e,rfl,rfl⟩:=get a c b d;have M:=i.ep a k l e;intro n o j;unfold nz at n;split at n
    .have n:ik k.ep=1:=n;rw[ve M H] at n;omega
    .simp only[eC,kA] at j;obtain⟨A,ad,rfl⟩:=j;have:=i.one a k l e n A ad;split
     .rfl
     .exact this
   .obtain⟨k,l,e,rfl,rfl⟩:=get a c b d;intro o j n;simp only[eC,kA] at j;obtain⟨A,ad,rfl⟩:=j;by_cases I:due P A=true
    .rw[D I] at n;simp[z.bZ] at n
    .rw[f I] at n ⊢;unfold due at I;simp only[n,beq_self_eq_true,Bool.true_and,eA] at I;omega
  .rw[f aa] at hd;exact absurd hd (by simp)
 rw[f X] at hd;by_cases Z:1<=R.aF/\R.aF<=20
 case neg=>rw[D Z] at hd;exact absurd hd (by simp)
 rw[f (by simpa using Z)] at hd;have dc:∀(r:O) (s:List z),fl'=(λa=>if a=R.aF.toNat then E (r,s) else p a)->P=Q->aJ r s->(1<=r.ep/\r.ep<=w+1+1)->(r.ep=1->∀o∈s,o.st=0)->(∀o∈s,o.st=1->Q<o.un)->cJ (w+1) P fl':=λr s v x ae af w3 ag=>by
  subst v;rw[x];have get:∀a c b,(if a=R.aF.toNat then E (r,s) else p a)=E (c,b)->(r=c/\s=b)\/p a=E (c,b):=λa c b d=>by
   split at d
   .injection d with d;injection d with N S;exact .inl ⟨N,S⟩
   .exact .inr d
  refine⟨λa T=>?_,λa c b d=>?_,λa c b d=>?_,λa c b d=>?_,λa c b d=>?_,by omega,by omega⟩
  .rw[f (by omega)];exact i.iw a T
  .obtain⟨rfl,rfl⟩|y:=get a c b d
   .exact ae
   .exact i.wf a c b y
  .obtain⟨rfl,rfl⟩|y:=get a c b d
   .exact af
   .have:=i.ep a c b y;omega
  .obtain⟨rfl,rfl⟩|y:=get a c b d
   .exact w3
   .exact i.one a c b y
  .obtain⟨rfl,rfl⟩|y:=get a c b d
   .exact ag
   .exact i.hold a c b y
 cases e:p R.aF.toNat with
 |none=>
  rw[e] at hd;simp only at hd;by_cases G:R.kind=1
  .rw[D G] at hd;by_cases j:R.c.aY=true/\R.c.bI=true
   .rw[D j] at hd;injection hd with _ hd;injection hd with v x;have W:∀o∈aI R.c,o.st=0:=λo j=>by
     simp only[aI,kA] at j;obtain⟨ak,_,rfl⟩:=j;rfl
    exact dc _ _ x.symm v.symm ((oH j.1 j.2).at 1) ⟨by show(1:Int)<=1;omega,by show(1:Int)<=w+1+1;omega⟩ (λ_=>W) (λo j d=>by rw[W o j] at d;omega)
   .rw[f j] at hd;exact absurd hd (by simp)
  .rw[f G] at hd;exact absurd hd (by simp)
 |some A=>
  obtain⟨c,b⟩:=A;rw[e] at hd;simp only at hd;by_cases G:R.kind=1
  .rw[D G] at hd;exact absurd hd (by simp)
  rw[f G] at hd;by_cases B:bH c b R Q=0
  .rw[D B] at hd;injection hd with _ hd;injection hd with v x;have M:=i.ep _ c b e;have ab:=i.wf _ c b e;exact dc _ _ x.symm v.symm (Ry ab (by omega) B) (by rw[AF,ve M H];omega) (λd=>by rw[AF,ve M H] at d;omega) (Rz ab B (i.hold _ c b e))
  .rw[f B] at hd;exact absurd (mu (·.1) hd) B
open Go.RowKit Go.WideMaps
open Go.ChangeMaps (setBlock)
def fG(a:List z):List z:=a.filter λb=>b.st !=0
theorem AG(b:List z)(a:Nat)(hi:a<b.length):fG (b.take (a+1))=fG (b.take a)++(if b[a].st≠0 then[b[a]] else[]):=by
 unfold fG;rw[take_succ b a hi,Cx];by_cases c:b[a].st=0
 .simp[c]
 .simp[c]
structure lz (w wr:U) (b m dY cb:Nat) (p:O) (l:List z) (es:List az) (v:V) (i:Nat):Prop where
 fl:cK wr b p l m es dY
 box:X wr cb (mM p v).toArray 196
 row:wr.ownsRow 0 202 6 v (fG (l.take i)).length ((fG (l.take i)).flatMap eS)
 new:∀k,v.ownBlock=E k->w.heap.size<=k/\k≠cb
 mod:G No w wr
 Gx:w.heap.size<=cb
theorem lz.still{wr w2:U}{k e d:Nat}{p:O}{l:V}{i:Nat}(a:lz I wr S k e d p j B l i)(c:G No wr w2):lz I w2 S k e d p j B l i:=
 ⟨⟨c.e a.fl.e (λb=>b),c.map a.fl.map (λb=>b),a.fl.ok,a.fl.rel⟩,c.e a.box (λb=>b),c.owns a.row (λ_ _ b=>b),a.new,a.mod.trans c,a.Gx⟩
theorem lz.free{wr:U}{e d c:Nat}{p:O}{i:V}{a:Nat}(b:lz I wr S e d c p j B i a)(hi:a<j.length)(l:j[a].st=0):lz I wr S e d c p j B i (a+1):=by
 have k:fG (j.take (a+1))=fG (j.take a):=by rw[AG j a hi,f (by simp[l]),dG]
 exact⟨b.fl,b.box,by rw[k];exact b.row,b.new,b.mod,b.Gx⟩
theorem lz.put{wr w6:U}{n x b:Nat}{p:O}{e v':V}{c:Nat}(N:lz I wr S n x b p j B e c)(hi:c<j.length)(P:j[c].st≠0)(l:S<I.heap.size/\n<I.heap.size)(v:Obj)(W:w6.ownsRow 0 202 6 v' ((fG (j.take c)).length+1) (((fG (j.take c)).flatMap eS)++eS j[c]))(R:(wr.alloc v).grownBy w6 e.ownBlock)(Y:fm (wr.alloc v) e v'):lz I (w6.setCell (u b 7 J) v') S n x b p j B v' (c+1):=by
 obtain⟨k,y,aa,o,A,Q⟩:=N;have ad:=A.size;have ab:=y.lt;have M:G (λa=>e.ownBlock=E a) wr w6:=((G.refl _ wr).alloc v).grown R (λa i=>.inl i);have s:G (λa=>e.ownBlock=E a\/a=b) wr (w6.setCell (u b 7 J) v'):=(M.mono (λ_ _ Z=>.inl Z)).setCell (p:=u b 7 J) (.inl (.inr rfl)) _;have r:∀a,a<I.heap.size->¬(e.ownBlock=E a\/a=b):=λa i=>by
  rintro(d|d)
  .have:=(o a d).1;omega
  .omega
 have H:∀a,v'.ownBlock=E a->I.heap.size<=a/\a≠b:=λa i=>by
  obtain w|w:=Y a i
  .exact o a w
  .rw[bW] at w;omega
 have d:fG (j.take (c+1))=fG (j.take c)++[j[c]]:=by rw[AG j c hi,D P]
 refine⟨⟨s.e k.e (r S l.1),s.map k.map (r n l.2),k.ok,k.rel⟩,?_,?_,H,A.trans' s (λa i T=>absurd i (r a T)),Q⟩
 .have l:X w6 b (mM p e).toArray 196:=M.e y (λd=>(o b d).2 rfl);exact l.set 7 v'
 .rw[d,bG,jW];have:=jh W (a:=u b 7 J) (λd=>(H b (by simpa using d)).2 rfl) v';simpa using this
theorem RA{e c:Nat}{p:O}(a:cK I S p j e B c)(b:p.ep=1):Calls h 90 #[g (E (u S 0 J))] I λd w'=>d=q (.iface 189 (t #[F K p.rows,F K p.y,F K p.Z,F K p.af,F K p.ag,F K p.ai,F K p.aj]))/\G No I w':=by
 have i:=a.e.lt;have f0:I.cell? (u S 0 J)=E (F K p.rows):=a.e.T 0;have f1:I.cell? (u S 1 J)=E (F K p.y):=a.e.T 1;have f2:I.cell? (u S 2 J)=E (F K p.Z):=a.e.T 2;have f3:I.cell? (u S 3 J)=E (F K p.af):=a.e.T 3;have f4:I.cell? (u S 4 J)=E (F K p.ag):=a.e.T 4;have f5:I.cell? (u S 5 J)=E (F K p.ai):=a.e.T 5;have f6:I.cell? (u S 6 J)=E (F K p.aj):=a.e.T 6
 have f24:I.cell? (u S 24 J)=E (F K p.ep):=a.e.T 24;rw[b] at f24;clear a b;go_enter func90,ntmps90;go_wp2_with fail;go_ret;exact⟨rfl,G.refl _ _⟩
theorem RB{ae am:Nat}{p:O}{d:List z}(e:cK I S p d ae B am)(W:aJ p d)(w:p.ep≠1):Calls h 90 #[g (E (u S 0 J))] I λP w'=>∃a k,P=q (.iface 196 (t (mM p (C a (fG d).length k)).toArray))/\w'.ownsRow 0 202 6 (C a (fG d).length k) (fG d).length ((fG d).flatMap eS)/\(∀j,(C a (fG d).length k).ownBlock=E j->I.heap.size<=j)/\G No I w':=by
 have bn:=e.e.lt;have f0:I.cell? (u S 0 J)=E (F K p.rows):=e.e.T 0;have f1:I.cell? (u S 1 J)=E (F K p.y):=e.e.T 1;have f2:I.cell? (u S 2 J)=E (F K p.Z):=e.e.T 2;have f3:I.cell? (u S 3 J)=E (F K p.af):=e.e.T 3;have f4:I.cell? (u S 4 J)=E (F K p.ag):=e.e.T 4;have f5:I.cell? (u S 5 J)=E (F K p.ai):=e.e.T 5;have f6:I.cell? (u S 6 J)=E (F K p.aj):=e.e.T 6
 have f24:I.cell? (u S 24 J)=E (F K p.ep):=e.e.T 24;have bS:(p.ep==1)=false:=by simpa using w
 have bo:=(Array.getElem?_eq_some_iff.1 e.map).1;have aT:=W.bounds;simp only at aT;have aF:=W.len;simp only at aF;have aW:d.length<=120:=bV.wf.jO W;have aY:K.wrap (p.rows* p.y)=p.rows* p.y:=bh _ (by omega) (by omega);have aC:=l λn (Q:G No I n)=>CT S _ _ p.rows p.y n (Q.e e.e (λs=>s)) rfl rfl aY;rw[<-aF] at aC;obtain⟨ay,aE⟩:∃ay:Nat,p.y=(ay:Int):=⟨p.y.toNat,by omega⟩
 have a4:=l λn (Q:G No I n) (c:Nat) (hi:c<d.length)=>(show Calls h 113 #[g (E (u S 0 J)),F K (c:Int)] n λP w'=>P=q (t #[F K d[c].row,F K d[c].ae])/\G No n w' from by
  have:=wu S _ _ ay c n (Q.e e.e (λs=>s)) (by rw[<-aE];rfl) (by omega) (by omega)
  have aG:=W.place c hi
  simp only at aG
  rw[aG.1,aG.2,aE]
  exact this)
 have a6:=l λ(c:Nat) (hi:c<d.length)=>CU e.map e.ok e.rel W c hi;have ab:lz I (I.alloc (m #[F K p.rows,F K p.y,F K p.Z,F K p.af,F K p.ag,F K p.ai,F K p.aj,C J 0 0,F K p.ep] 196)).drew S ae am I.heap.size p d B (C J 0 0) 0:=by
  have R:G No I (I.alloc (m #[F K p.rows,F K p.y,F K p.Z,F K p.af,F K p.ag,F K p.ai,F K p.aj,C J 0 0,F K p.ep] 196)).drew:=((G.refl _ I).alloc _).drew;refine⟨⟨R.e e.e (λs=>s),R.map e.map (λs=>s),e.ok,e.rel⟩,(X.new I _ _).drew,?_,λbZ bk=>by simp[aV] at bk,R,cz _⟩;simpa [fG] using dx _ _ _ _
 have ab:=l ab;have a5:=l λ(wr aI:U) (bA aw:V) (c:Nat) (hS:lz I wr S ae am I.heap.size p d B bA c) (hi:c<d.length) (v:d[c].st≠0)=>lz.put (w6:=aI) (v':=aw) hS hi v ⟨bn,bo⟩;obtain⟨bu,bv,bw,bx,bz⟩:=fq Fb;clear e W aT aE w aY aF;go_enter func90,ntmps90;go_wp2_with fail;go_region;go_wp2_with fail;refine((b aC) _ (b ab).mod).mono ?_;rintro P ax ⟨rfl,af⟩;have aQ:=l ((b ab).still af)
 clear ab af aC f0 f1 f2 f3 f4 f5 f6 f24;have bC:=l aW;go_wp2_with fail;go_loopw [30] (λah wr=>∃(c:Nat) (a:Option Addr) (y:Nat),ah=F K (c:Int)/\c<=d.length/\Hid (lz I wr S ae am I.heap.size p d B (C a (fG (d.take c)).length y) c)) (λah _=>d.length - (intOf ah).toNat)
 case atStart=>exact⟨0,J,0,rfl,by omega,aQ⟩
 case round=>
  obtain⟨c,a,y,rfl,hi,i⟩:=hrel;clear aQ;by_cases w:c<d.length
  .have bf:(c:Int)<(d.length:Int):=by omega
   have bY:K.wrap ((c:Int)+1)=((c+1:Nat):Int):=by rw[bh _ (by omega) (by omega)];rfl
   have aN:=l ((b a4) _ (b i).mod c w);have aA:=l ((b a6) c w);have aK:=l λn (Q:G No wr n) (aI:U) aw=>(b a5) n aI _ aw c ((b i).still Q) w;have aL:=l λn (Q:G No wr n) (v:d[c].st=0)=>((b i).still Q).free w v;have bT:(fG (d.take c)).length<=120:=by
    have:(fG (d.take c)).length<=(d.take c).length:=sP _ _;rw[eO] at this;omega
   have aa:=l (AG d c w);generalize bp:d[c]=ah at *;obtain⟨H,k,r,A,x,M⟩:=ah;simp only at aN aA aK aL aa;have bB:=l hi;have aj:=l w;clear bp w hi aW;go_wp2_with fail;refine(b aN).mono ?_;rintro P ax ⟨rfl,af⟩;have a7:=l af;clear af;go_upto_region 8 with fail;have R:=l (((b a7).alloc (m #[F K H,F K k] 36)));have Z:=l ((b i).still (b R));have ag:=X.new ax #[F K H,F K k] 36;have aP:=l ag
   generalize bs:ax.alloc (m #[F K H,F K k] 36)=N at *;generalize bX:ax.heap.size=au at *;clear bs;have bb:N.cell? (u S 7 J)=E (.map (E ae)):=(b Z).fl.e.T 7;have ba:=(b Z).fl.e.lt;have aZ:N.cell? (u au 0 J)=E (F K H):=ag.T 0;have a0:N.cell? (u au 1 J)=E (F K k):=ag.T 1;have a1:=ag.lt;have bl:=(b aA) N.drew ((b Z).mod.drew)
   have bm:=(b aA) (N.alloc (m #[F K 0,F K 0,F K 0,F K 0] 199)).drew (((b Z).mod.alloc _).drew);clear ag;go_region
   all_goals
    have aH:=l (((b R).alloc (m #[F K r,F K A,F K x,F K M] 199)).drew);have T:=l ((b i).still (b aH));have ar:=((b aP).alloc (m #[F K r,F K A,F K x,F K M] 199)).drew;have Y:=(X.new N #[F K r,F K A,F K x,F K M] 199).drew;clear bl bm bb ba aZ a0 a1 Z R aP;generalize bt:(N.alloc (m #[F K r,F K A,F K x,F K M] 199)).drew=o at *;generalize br:N.heap.size=av at *;clear bt br
    have aZ:o.cell? (u au 0 J)=E (F K H):=ar.T 0;have a0:o.cell? (u au 1 J)=E (F K k):=ar.T 1;have a1:=ar.lt;have b0:o.cell? (u av 0 J)=E (F K r):=Y.T 0;have b1:o.cell? (u av 1 J)=E (F K A):=Y.T 1;have b2:o.cell? (u av 2 J)=E (F K x):=Y.T 2;have b3:o.cell? (u av 3 J)=E (F K M):=Y.T 3;have sl:=Y.lt;have bc:o.cell? (u I.heap.size 7 J)=E (C a (fG (d.take c)).length y):=(b T).box.T 7
    have bP:=(b T).box.aC;have bd:=(b T).box.lt;clear ar Y;by_cases v:r=0
    .have aO:=l v;subst v;have ad:=(b aL) _ (b aH) rfl;have ap:=b aa;rw[f (by simp),dG] at ap;rw[<-ap] at ad;have ai:=l ad;have ak:=l (mu List.length ap);clear ad ap aa;go_wp2_with fail;exact⟨⟨c+1,a,y,rfl,by have:=b aj;omega,by rw[b ak];rw[b ak] at ai;exact ai⟩,by simp[intOf];have:=b aj;omega⟩
    .have aO:=l v;have bU:(r !=0)=true:=by simp[v]
     have a3:=l (((G.refl No o).alloc (m #[F K H,F K k,F K r,F K A,F K x,F K M] 202)).owns (b T).row (λ_ _ s=>s));have aB:=l (Fc o ⟨H,k,r,A,x,M⟩);have a2:=l (((G.refl No o).alloc (m #[F K H,F K k,F K r,F K A,F K x,F K M] 202)).e (b T).box (λs=>s));have a8:=l (show E I.heap.size≠(C a (fG (d.take c)).length y).ownBlock from λP=>((b T).new _ P.symm).2 rfl)
     have ak:=l (show(fG (d.take (c+1))).length=(fG (d.take c)).length+1 by
      rw[b aa,D v]
      simp)
     unfold eS at aB;simp only at aB;clear v aa
     go_wp2_with (first|(at_builtin;refine fJ rfl (.tmp 47) (.tmp 51) 194 rfl 202 bu _ 6 48 underlying194 bv bw bx bz rfl (by decide) (C a (fG (d.take c)).length y) (fG (d.take c)).length _ (by simp[aM]) (by exact b a3) (C (E (u o.heap.size 0 J)) 1 1) 1 [F K H,F K k,F K r,F K A,F K x,F K M] (by simp[aM]) (by exact b aB) rfl (by intro b4 hu;simp at hu;obtain rfl|rfl|rfl|rfl|rfl|rfl:=hu<;>rfl) (by unfold maxLen;omega) (by omega) ?_;intro aw w3 aX aU bq;obtain⟨a9,aS,rfl⟩:=aR aX;have aD:=l (X.grown (b a2) aU (b a8));have bM:w3.cell? (u I.heap.size 7 J)=E (C a (fG (d.take c)).length y):=(b aD).T 7;have bQ:=(b aD).aC;have bR:=(b aD).lt))
     have ad:=(b aK) o (b aH) w3 _ (b aO) _ aX aU bq;have ai:=l ad;exact⟨⟨c+1,a9,aS,rfl,by have:=b aj;omega,by rw[b ak];exact ai⟩,by simp[intOf];have:=b aj;omega⟩
  .have bg:c=d.length:=by omega
   subst bg;have bf:¬((d.length:Nat):Int)<(d.length:Int):=by omega
   have bE:wr.cell? (u I.heap.size 0 J)=E (F K p.rows):=(b i).box.T 0;have bF:wr.cell? (u I.heap.size 1 J)=E (F K p.y):=(b i).box.T 1;have bH:wr.cell? (u I.heap.size 2 J)=E (F K p.Z):=(b i).box.T 2;have aS:wr.cell? (u I.heap.size 3 J)=E (F K p.af):=(b i).box.T 3;have bI:wr.cell? (u I.heap.size 4 J)=E (F K p.ag):=(b i).box.T 4;have bJ:wr.cell? (u I.heap.size 5 J)=E (F K p.ai):=(b i).box.T 5
   have bL:wr.cell? (u I.heap.size 6 J)=E (F K p.aj):=(b i).box.T 6;have bc:wr.cell? (u I.heap.size 7 J)=E (C a (fG (d.take d.length)).length y):=(b i).box.T 7;have bO:wr.cell? (u I.heap.size 8 J)=E (F K p.ep):=(b i).box.T 8;have bd:=(b i).box.lt;go_wp2_with fail;go_ret;have ao:=b i;rw[fN] at ao;exact⟨a,y,rfl,by have:=ao.row;rw[fN] at this;exact this,λj bi=>(ao.new j bi).1,ao.mod⟩
theorem RC{x n:Nat}{p:O}(e:cK I S p j x B n)(w:aJ p j)(d:Nat):Calls h 90 #[g (E (u S 0 J))] I λb w'=>∃i,b=q i/\dV w' I.heap.size i (eR d (p,j))/\G No I w':=by
 by_cases a:p.ep=1
 .refine(RA e a).mono ?_;rintro b w' ⟨rfl,v⟩;refine⟨_,rfl,?_,v⟩;unfold dV;have c:(eR d (p,j)).kind=1:=by unfold eR;simp[a]
  rw[f (by omega)];unfold eH;rw[D c];rfl
 .refine(RB e w a).mono ?_;rintro b w' ⟨k,l,rfl,o,r,s⟩;refine⟨_,rfl,?_,s⟩;unfold dV;have c:(eR d (p,j)).kind=7:=by unfold eR;simp[a]
  rw[D c];exact⟨k,l,rfl,o,r⟩
def gi(b:Int)(c:aQ)(d:Nat):List aD:=
 (if 0<b then[⟨0,6,⟨0,0,0,0,0,0,0,0⟩,kT,0,0,b,[]⟩] else[])++(jF d).filterMap λa=>(c a).map (eR a)
theorem lB(b:Int)(a:aQ):gi b a 21=fD b a:=rfl
theorem rE(a:p S=J):gi w p (S+1)=gi w p S:=by
 unfold gi;rw[ug,RD];simp[a]
theorem tx{now:Int}{x:O×List z}(a:p S=E x):gi now p (S+1)=gi now p S++[eR S x]:=by
 unfold gi;rw[ug,RD];simp[a]
theorem qm(e:Int)(b:aQ)(a:Nat):(gi e b a).length<=a+1:=by
 unfold gi;have d:=List.length_filterMap_le (λc=>(b c).map (eR c)) (jF a);rw[yG] at d;rw[bG];split
 .simp;omega
 .simp;omega
theorem RE{now:Int}(d:p 0=J)(a:Nat)(i:1<=a):(gi now p a).length<=a:=by
 induction a with
 |zero=>omega
 |succ a c=>
  by_cases e:a=0
  .subst e;rw[rE d];exact qm now p 0
  .cases b:p a with
   |none=>rw[rE b];have:=c (by omega);omega
   |some j=>rw[tx b,bG];have:=c (by omega);simp;omega
structure ma (w wr:U) (v:V) (L:List (Int×V)) (es:List aD):Prop where
 row:gW wr w.heap.size v L
 qh:cV wr w.heap.size L es
 mod:G No w wr
theorem ma.still{wr j:U}{i:V}{d:List (Int×V)}{e:List aD}(a:ma I wr i d e)(b:G No wr j):ma I j i d e:=
 ⟨a.row.mod b (λ_ _ c=>c),a.qh.mod b (λ_ _ c=>c),a.mod.trans b⟩
theorem ma.next{wr w6:U}{j v':V}{c:List (Int×V)}{n:List aD}(p:ma I wr j c n){e:aD}{f:Int}{t:TypeId}{u:V}(s:f=e.fl)(y:dV wr I.heap.size (.iface t u) e)(l:Obj)(w:w6.ownsRow 0 125 2 v' (c.length+1) ((c.flatMap gz)++[F K f,.iface t u]))(v:(wr.alloc l).grownBy w6 j.ownBlock)(x:fm (wr.alloc l) j v'):ma I w6 v' (c++[(f,.iface t u)]) (n++[e]):=by
 obtain⟨d,r,o⟩:=p;have H:=o.size;have k:G (λb=>j.ownBlock=E b) wr w6:=((G.refl _ wr).alloc l).grown v (λb i=>.inl i);refine⟨⟨?_,λb i=>?_,λA z=>?_⟩,?_,o.trans' k (λb i B=>by have:=d.own b i;omega)⟩
 .have e:(c++[(f,Value.iface t u)]).flatMap gz=c.flatMap gz++[F K f,.iface t u]:=by rw[jW];simp[gz]
  rw[e,bG];exact w
 .obtain a|a:=x b i
  .exact d.own b a
  .rw[bW] at a;omega
 .obtain a|a:=jR.1 z
  .exact d.one A a
  .simp at a;subst a;rfl
 .exact cV.append (L':=[(f,.iface t u)]) (es':=[e]) ⟨⟨s,y.app d.row (by exact k)⟩,trivial⟩ (cV.app d.row k r)
theorem Gy(d:U)(a:Int)(b:TypeId)(c:V):Reads (d.alloc (m #[F K a,.iface b c] 125)) (C (E (u d.heap.size 0 J)) 1 1) 1 [F K a,.iface b c]:=Fj d (a,.iface b c)
theorem xM(N:cI I k S w o p)(ar:p 0=J)(z:eY 0 (fD w p)):Calls h 57 #[g (E (u S 0 J))] I λr w'=>∃i,r=q i/\uD I w' i (a9 w p):=by
 have bm:=N.e.lt;have ba:I.cell? (u S 0 J)=E (F K w):=N.e.T 0;have X:=l N;have aJ:=l z;have aK:=l ar;obtain⟨az,aD,aE,aF,aG⟩:=fq Ac;clear N z ar;go_enter func57,ntmps57;go_upto_if 10 with fail;go_cut [3] from 10 to 20 (λH a5=>∃i c,H=i/\Hid (ma I a5 i c (gi w p 0)))
 case first=>
  by_cases e:0<w
  .have aZ:w>0:=e;have ag:=l (show gi w p 0=[]++[⟨0,6,⟨0,0,0,0,0,0,0,0⟩,kT,0,0,w,[]⟩] by unfold gi;rw[D e];rfl);have n:ma I I (C J 0 0) [] []:=⟨⟨dx _ _ _ _,λa3 ai=>by simp[aV] at ai,λj aj=>by simp at aj⟩,trivial,G.refl _ _⟩;have Y:=l (((G.refl No I).alloc (m #[F K 0,.iface 159 (t #[F K w])] 125)).owns n.row.row (λ_ _ j=>j));have Z:=l (Gy I 0 159 (t #[F K w]))
   have ab:=l (λ(W:U) (M:V)=>ma.next (w6:=W) (v':=M) n (e:=⟨0,6,⟨0,0,0,0,0,0,0,0⟩,kT,0,0,w,[]⟩) (f:=0) (t:=159) (u:=t #[F K w]) rfl rfl);clear n
   go_wp2_with (first|(at_builtin;refine fJ rfl (.tmp 11) (.tmp 19) 111 rfl 125 az _ 2 24 underlying111 aD aE aF aG rfl (by decide) (C J 0 0) 0 [] (by simp[aM]) (by exact b Y) (C (E (u I.heap.size 0 J)) 1 1) 1 [F K 0,.iface 159 (t #[F K w])] (by simp[aM]) (by exact b Z) rfl (by intro aH hu;simp at hu;obtain rfl|rfl:=hu<;>rfl) (by unfold maxLen;omega) (by omega) ?_;intro M w3 av aW a0;obtain⟨a7,bb,rfl⟩:=aR av))
   go_meet;exact⟨_,_,rfl,by rw[b ag];exact(b ab) _ _ _ av aW a0⟩
  .have aZ:¬w>0:=e;have ag:=l (show gi w p 0=[] by unfold gi;rw[f e];rfl);go_wp2_with fail;go_meet;exact⟨_,[],rfl,by rw[b ag];exact⟨⟨dx _ _ _ _,λa3 ai=>by simp[aV] at ai,λj aj=>by simp at aj⟩,trivial,G.refl _ _⟩⟩
 case rest=>
  obtain⟨bp,a6,rfl,n⟩:=hcut;have ax:=CG ((b n).mod.e (b X).e (λj=>j));go_wp2_with (refine wpList_load_mid rfl 115 _ rfl S 1 rfl (uq o) (.array 21 114) ax CA rfl CC ?_);go_loopw [3,25] (λH a4 wr=>∃(a:Nat) (i:V) (c:List (Int×V)),H=i/\a4=F K a/\a<=21/\Hid (ma I wr i c (gi w p a))) (λ_ H _=>21 - (intOf H).toNat)
  case atStart=>exact⟨0,_,_,rfl,rfl,by omega,n⟩
  case round=>
   obtain⟨a,i,c,rfl,rfl,P,d⟩:=hrel;clear n ax;have s:c.length=(gi w p a).length:=(b d).qh.len;have ah:=qm w p a;obtain⟨ad,ap,rfl⟩:=aR (b d).row.row;by_cases af:a<21
   .have aY:(a:Int)<21:=by omega
    have bl:K.wrap ((a:Int)+1)=((a+1:Nat):Int):=by rw[bh _ (by omega) (by omega)];rfl
    have O:=CD o a af wr
    cases v:p a with
    |none=>
     have A:=(b X).gone a af v;rw[A] at O;rw[show bL J=g J from rfl] at O;have aL:=l (show ma I wr (C ad c.length ap) c (gi w p (a+1)) by rw[rE v];exact b d);clear v A d;go_wp2_with fail;exact⟨⟨a+1,_,c,rfl,rfl,by omega,aL⟩,by simp[intOf];omega⟩
    |some j=>
     obtain⟨aC,aA⟩:=j;obtain⟨y,A,ay,z⟩:=(b X).here a aC aA af v;rw[A] at O;rw[show bL (E y)=g (E (u y 0 J)) from rfl] at O;obtain⟨bo,bi,bd,f1,f2,f3,f4,f5,f6⟩:=z.bC (b d).mod;have am:=l (RC ⟨f1,f2,f3,f4⟩ ay a);have aI:=l (tx (now:=w) v);clear v A ay z f1 f2 f3 f4 f5 f6;go_wp2_with fail;refine(b am).mono ?_;rintro r T ⟨aH,rfl,B,aB⟩;obtain⟨Q,R,rfl⟩:=B.iface;have ao:=l ((b d).still aB)
     have Y:=l (((G.refl No T).alloc (m #[F K a,.iface Q R] 125)).owns (b ao).row.row (λ_ _ j=>j));have Z:=l (Gy T a Q R);have ab:=l (λ(W:U) (M:V)=>ma.next (w6:=W) (v':=M) (b ao) (e:=eR a (aC,aA)) (f:=a) (t:=Q) (u:=R) rfl (B.low (b d).mod.size));have bn:c.length<=22:=by omega
     clear B aB am s ah
     go_wp2_with (first|(at_builtin;refine fJ rfl (.tmp 31) (.tmp 36) 111 rfl 125 az _ 2 24 underlying111 aD aE aF aG rfl (by decide) (C ad c.length ap) c.length _ (by simp[aM]) (by exact b Y) (C (E (u T.heap.size 0 J)) 1 1) 1 [F K a,.iface Q R] (by simp[aM]) (by exact b Z) rfl (by intro aH hu;simp at hu;obtain rfl|rfl:=hu<;>rfl) (by unfold maxLen;omega) (by omega) ?_;intro M W aw aX a1;obtain⟨a8,bc,rfl⟩:=aR aw))
     have aN:=l ((b ab) _ _ _ aw aX a1);exact⟨⟨a+1,_,_,rfl,rfl,by omega,by rw[b aI];exact aN⟩,by simp[intOf];omega⟩
   .have aY:¬(a:Int)<21:=by omega
    obtain rfl:a=21:=by omega
    rw[lB] at d s;by_cases au:c.length=0
    .have a2:(c.length:Int)=0:=by omega
     have e:fD w p=[]:=iC (by omega);have aa:=l (show a9 w p=[] by unfold a9;rw[D e]);clear ah s e;go_wp2_with fail;go_ret;exact⟨_,rfl,by rw[b aa];exact⟨dx _ _ _ _,λa P=>by simp[aV] at P,(b d).mod⟩⟩
    .have aU:c≠[]:=λr=>au (by rw[r];rfl);have a2:((c.length:Int)==0)=false:=by simpa using aU
     have e:fD w p≠[]:=λr=>au (by rw[s,r];rfl);obtain⟨y,rfl⟩:∃y,ad=E (u y 0 J):=by
      obtain⟨_,bk⟩|⟨aS,bf,bg,B,_⟩:=(b d).row.row.2
      .omega
      .injection B with aP _ _;exact⟨aS,aP⟩
     have ae:=RE (now:=w) (b aK) 21 (by omega);rw[lB] at ae;have ak:=l (PQ (b d).row (b d).qh (b aJ) ⟨by rw[<-s];omega,ae⟩);have aa:=l (show a9 w p=aT 0 (fD w p) by unfold a9;rw[f e]);clear ah s e ae;go_wp2_with fail;refine(b ak).mono ?_;rintro r T ⟨i,rfl,x⟩;have aO:=l x;clear x ak;go_wp2_with fail;go_ret
     exact⟨_,rfl,by
      rw[b aa]
      have x:=b aO
      exact⟨x.row,λa P=>cC (b d).mod.size (x.new a P),(b d).mod.trans x.mod⟩⟩
theorem Gz{i:Program}{ops:Array Oper}{c:Oper}{a:Act}{j:Act->U->Prop}{o:Exit->Act->U->Prop}{n:Prop}(y:jD c (yielded ops a.tmps)=true)(d:FuncId)(args:Array Operand)(z:Array TypeId)(v:c.op=Op.call { callee:=Callee.value (Operand.func d),args:=args,argTypes:=z })(e:Array V)(x:args.map a.eval=e)(s:∀k,(callFunc d e).run i k=.ok (.enter d e) k)(R:V->U->Prop)(r:Calls i d e I λl w'=>∃b,l=q b/\R b w')
  (p:∀b w',R b w'->j (a.put c.dst b) w'):if jD c (yielded ops a.tmps)=true then gu i c a I j o else n:=by
 rw[D y];unfold gu execOp;simp[go_sem,v,x];rw[s];simp[go_sem];refine r.mono ?_;rintro l w' ⟨b,rfl,w⟩;exact p _ _ w
theorem GB{c:Array V}(e:X I S c 121)(a:c[30]? =E (g J))(n:Option Addr)(i k:Nat):Calls h 79 #[g (E (u S 30 J)),C n i k] I λd w'=>d=q (F K 17)/\w'=I:=by
 have j:=l (Dh e a (i:Int));clear e a;go_enter func79,ntmps79;go_wp2_with fail;refine(b j).mono ?_;rintro d o ⟨rfl,rfl⟩;go_wp2;go_ret;exact⟨rfl,rfl⟩
theorem RG{e:Array V}(a:X I S e 121)(d:e[30]? =E (g J))(k:Option Addr)(j c:Nat):Calls h 56 #[g (E (u S 30 J)),C k j c] I λi w'=>i=q (F K 17)/\G No I w':=by
 have d0:=a.T 30;rw[d] at d0;have s:=a.lt;have n:=l λo (p:G No I o)=>(GB (p.e a (λr=>r)) d k j c);clear a;go_enter func56,ntmps56;go_wp2_with fail;go_quiet (fail);go_wp2_with fail;refine((b n) _ ((G.refl No I).drewN _)).mono ?_;rintro i v ⟨rfl,rfl⟩;go_wp2;go_ret;exact⟨rfl,(G.refl No I).drewN _⟩
theorem RI{S:Nat->Prop}{d tb:Nat}{n:Array V}(c:X I d n 121)(v:n[30]? =E (g (E (u tb 0 J))))(x:aS I S tb W)(a:Nat)(hi:a<2)(w:n[31]? =E (F K a))(R:Option Addr)(p B:Nat)(P:(W.b a).length<=p):Calls h 56 #[g (E (u d 30 J)),C R p B] I λk w'=>k=q (F K 0)/\G No I w':=by
 have d0:=c.T 30;rw[v] at d0;have d1:=c.T 31;rw[w] at d1;have T:=c.lt
 have z:=l λe (O:G No I e)=>(show Calls h 89 #[g (E (u tb 0 J)),F K a] e λk w'=>∃r,k=q r/\∃i j,r=C i (W.b a).length j/\G No e w' from(za (x.bC O) a (by omega)).mono (λk w' ⟨r,H,M,Y,N⟩=>by
  obtain⟨i,j,rfl⟩:=aR M
  exact⟨_,H,i,j,rfl,N⟩))
 have A:=l λw3 (o:G No I.drew w3)=>(show w3.cell? (u d 30 J)=E (g (E (u tb 0 J)))/\w3.cell? (u d 31 J)=E (F K a) from⟨((o.e c.drew (λs=>s)).T 30).trans v,((o.e c.drew (λs=>s)).T 31).trans w⟩);have Z:((W.b a).length:Int)<=(p:Int):=by omega
 generalize (W.b a).length=o at *;clear c x P;go_enter func56,ntmps56;go_wp2_with fail
 go_region_held3 (λw'=>w'.cell? (u d 30 J)=E (g (E (u tb 0 J)))/\w'.cell? (u d 31 J)=E (F K a)) (first|with_reducible assumption|go_keep) (first
  |(refine Gz (by first|rfl|simp[jD,yielded]) 89 _ _ rfl #[g (E (u tb 0 J)),F K a] (by simp[aM,bN]) (λe=>by kernel_rfl) _ ((b z) _ (G.refl No I).drew) ?_;rintro ad w3 ⟨i,j,rfl,y⟩;have Q:=(b A) w3 y;obtain⟨aa,ab⟩:=id Q))
 all_goals go_wp2_with fail
 all_goals go_ret
 all_goals exact⟨rfl,(G.refl No I).drew.trans y⟩
theorem RJ{S:Nat->Prop}{d tb:Nat}{n:Array V}(j:X I d n 121)(w:n[30]? =E (g (E (u tb 0 J))))(ag:¬S d)(z:aS I S tb W)(a:Nat)(hi:a<2)(y:n[31]? =E (F K a))(tn:Bool)(ab:n[32]? =E (L tn))(r:Option Addr)(p:Nat)(c:List Int)(P:Reads I (C r c.length p) c.length (dt c))(Q:(C r c.length p).ownBlock≠E tb)(O:∀x∈c,0<=x/\x<256)(N:(W.b (1 - a)).length+c.length<=17592186044416)(ah:¬(W.b a).length<=c.length):
  Calls h 56 #[g (E (u d 30 J)),C r c.length p] I λe w'=>e=q (F K (cU W a c).1)/\rB I w' S d tb a n (cU W a c):=by
 have d0:=j.T 30;rw[w] at d0;have d1:=j.T 31;rw[y] at d1;have am:=j.lt
 have T:=l λi (k:G No I i)=>(show Calls h 89 #[g (E (u tb 0 J)),F K a] i λe w'=>∃M,e=q M/\∃s v,M=C s (W.b a).length v/\G No i w' from(za (z.bC k) a (by omega)).mono (λe w' ⟨M,ad,ae,ao,af⟩=>by
  obtain⟨s,v,rfl⟩:=aR ae
  exact⟨_,ad,s,v,rfl,af⟩))
 have R:=l λi (k:G No I i)=>(show Calls h 79 #[g (E (u d 30 J)),C r c.length p] i λe w'=>e=q (F K (cU W a c).1)/\rB I w' S d tb a n (cU W a c) from
  (Gj (k.e j (λx=>x)) w ag (z.bC k) a hi y tn ab r p c (P.mod k (λ_ _ x=>x)) Q O N).mono (λe w' ⟨ai,H⟩=>⟨ai,H.tape.wide (λar o=>o.imp id (λo=>cC k.size o)),H.e,(k.mono (λ_ _ x=>x.elim)).trans H.mod⟩))
 have Y:=l λw3 (A:G No I.drew w3)=>(show w3.cell? (u d 30 J)=E (g (E (u tb 0 J)))/\w3.cell? (u d 31 J)=E (F K a) from⟨((A.e j.drew (λx=>x)).T 30).trans w,((A.e j.drew (λx=>x)).T 31).trans y⟩);have ap:¬((W.b a).length:Int)<=(c.length:Int):=by omega
 generalize cU W a c=ak at *;generalize (W.b a).length=A at *;generalize c.length=au at *;clear j z ah P Q O N;go_enter func56,ntmps56;go_wp2_with fail
 go_region_held3 (λw'=>w'.cell? (u d 30 J)=E (g (E (u tb 0 J)))/\w'.cell? (u d 31 J)=E (F K a)) (first|with_reducible assumption|go_keep) (first
  |(refine Gz (by first|rfl|simp[jD,yielded]) 89 _ _ rfl #[g (E (u tb 0 J)),F K a] (by simp[aM,bN]) (λi=>by kernel_rfl) _ ((b T) _ (G.refl No I).drew) ?_;rintro ax w3 ⟨s,v,rfl,B⟩;have aj:=(b Y) w3 B;obtain⟨av,aw⟩:=id aj;have Z:=l ((G.refl No I).drew.trans B);clear B))
 all_goals go_wp2_with fail
 all_goals refine((b R) _ (b Z)).mono ?_
 all_goals rintro e ay ⟨rfl,o⟩
 all_goals have aa:=l o
 all_goals clear o
 all_goals go_wp2
 all_goals go_ret
 all_goals exact⟨rfl,b aa⟩
def oe(b:Nat->Option Nat)(c:Int)(d:Nat):Nat->Option Nat:=
 if c=16 then oS b else if c=0 then(λa=>if a=30 then(if d=0 then E 0 else J) else if a=31 then J else b a) else b
theorem xN(a:Nat->Option Nat)(b:Int)(c j:Nat)(d:j<29):oe a b c j=a j:=by
 unfold oe oS
 repeat' split
 all_goals first|rfl|omega|skip
 all_goals simp only
 all_goals rw[f (by omega)]
 all_goals first|rfl|rw[f (by omega)]
theorem RK(c:Int)(d:Nat->Option Nat)(b:Int)(a:Nat)(hi:a<2):Au b a (dA c d)=dA c (oe d b a):=by
 unfold Au oe;split
 .rw[DC]
 .split
  .have:a=0\/a=1:=by omega
   obtain rfl|rfl:=this<;>rfl
  .rfl
def dD(a:bU)(R:Int×aH):bU:={ a with T:=R.2,live:=R.1 !=16,file:=if R.1=0 then 1 - a.file else a.file,torn:=if R.1=0 then false else a.torn }
theorem GC{a:List Int}(b:v.live=true):kd v a=((cU v.T v.file a).1,dD v (cU v.T v.file a)):=by
 unfold kd cU dD;rw[f (by simp[b])];by_cases c:v.T.ay<(v.T.used:Int)+a.length
 .rw[D c,D c];obtain⟨tb,n,p,o,j⟩:=v;simp only at b;subst b;rfl
 rw[f c,f c];simp only;generalize (if a=[] then(true,v.T) else fQ v.T (1 - v.file) a)=k;obtain⟨r,d⟩:=k
 cases r with
 |false=>rfl
 |true=>
  have e:¬((true,d):Bool×aH).1=false:=by simp
  rw[f e];simp only[f e];generalize fO d v.file=i;obtain⟨l,s⟩:=i
  cases l with
  |false=>rfl
  |true=>
   obtain⟨tb,n,p,o,j⟩:=v;simp only at b;subst b;rfl
theorem dH.GD{j w':U}{R:Int×aH}(n:dH I k S w o N v)(X:v.live=true)(H:G No I j)(hi:v.file<2)(Z:rB j w' (λa=>k a=30) S v.tb v.file (dA w o) R):dH w' (nI k j.heap.size w'.heap.size) S w (oe o R.1 v.file) N (dD v R)/\(∀a,a<I.heap.size->nI k j.heap.size w'.heap.size a=k a)/\G (λa=>k a≠0) I w':=by
 obtain⟨aa,A,B⟩:=Z;have i:=n.keep;have Y:=H.size;have ag:=B.size;have hold:∀a,k a≠0->a<j.heap.size:=λa b=>bj (i.bg a b) Y;have x:G (λa=>k a=30\/a=S) I w':=(H.mono (λ_ _ af=>af.elim)).trans B;rw[RK w o R.1 v.file hi] at A
 refine⟨⟨?_,?_,?_,?_,?_⟩,λa b=>D (by omega),x.mono (λa _ e=>by
  obtain e|e:=e
  .show k a≠0;omega
  .show k a≠0;rw[e,i.bw];omega)⟩
 .have ab:cI w' k S w (oe o R.1 v.file) N:=by
   refine⟨A,i.bw,λa b=>bj (i.bg a b) x.size,λl s r=>by rw[xN o _ _ l (by omega)];exact i.gone l s r,λl ae ad s r=>?_⟩;obtain⟨M,P,Q,T⟩:=i.here l ae ad s r;refine⟨M,by rw[xN o _ _ l (by omega)];exact P,Q,T.mod x (λa b e=>?_)⟩;obtain e|e:=e
   .omega
   .rw[e,i.bw] at b;omega
  refine ab.ow j.heap.size (λa b=>D b) hold (λa b=>?_);unfold nI at b;split at b
  .omega
  .split at b
   .assumption
   .exact absurd rfl b
 .have y:=n.ptr;rw[D X] at y;unfold oe oS dD;by_cases d:R.1=16
  .rw[D d];simp[d]
  .rw[f d];by_cases c:R.1=0
   .rw[D c];simp[c,y]
   .rw[f c];simp[d,y]
 .have:=n.file;unfold oM oe oS dD at *;by_cases d:R.1=16
  .rw[D d];simp[d];exact this
  .rw[f d];by_cases c:R.1=0
   .rw[D c];have p:v.file=0\/v.file=1:=by omega
    obtain p|p:=p<;>simp[c,p]
   .rw[f c];simp[c];exact this
 .have:=n.torn;unfold nG oe oS dD at *;by_cases d:R.1=16
  .rw[D d];simp[d];exact this
  .rw[f d];by_cases c:R.1=0
   .rw[D c];simp[c]
   .rw[f c];simp[c];exact this
 .refine aa.narrow.wide (λa ⟨b,W⟩=>?_);show nI k j.heap.size w'.heap.size a=30;unfold nI;obtain b|b:=b
  .rw[D (hold a (by omega))];exact b
  .rw[f (by omega),D W]
theorem RM(n:dH I k S w o p v)(B:v.live=false)(H:v.torn=true)(aa:p 0=J)(ad:eY 0 (fD w p))(c:aD)(ae:∃d e,eH c=.iface d e):Calls h 50 #[g (E (u S 0 J)),t #[F K c.fl,eH c]] I λN w'=>N=q (F K 17)/\G No I w':=by
 obtain⟨d,e,M⟩:=ae;have x:G No I (I.alloc (m #[F K c.fl,.iface d e] 125)):=(G.refl _ _).alloc _;have A:=n.bC x;have r:=n.ptr;rw[B,f (by simp)] at r;rw[M];have a:=l A;have W:=l x;have Q:=l r;have R:=l H;clear n A x r M B H;go_enter func50,ntmps50;go_upto_region 3 with fail;generalize I.alloc (m #[F K c.fl,.iface d e] 125)=aj at *;have z:=l (uC (b a).keep.e true (by rw[rj,(b a).torn,b R]))
 have ah:=(b a).keep.e.lt;go_wp2_with fail;refine(b z).mono ?_;rintro N i ⟨rfl,rfl⟩;have T:=l (xM ((b a).keep.mod (G.refl No i).drew (λ_ _ y=>y)) aa ad);have P:=l λj X af Z (ab:G No i j)=>GB (ab.e (b a).keep.e (λy=>y)) (by rw[pW,b Q];rfl) X af Z;clear z;go_wp2_with fail
 go_region_law (first
  |(refine oT rfl 57 _ _ rfl #[g (E (u S 0 J))] (by simp[aM,bN]) (λj=>by kernel_rfl) _ (b T) ?_;intro ai O s;obtain⟨Y,ag,rfl⟩:=aR s.row)
  |(refine fP rfl 79 _ _ rfl #[g (E (u S 30 J)),_] (by simp[aM,bN];try rfl) (λj=>by kernel_rfl) (F K 17) (λw'=>w'=O) ((b P) O Y (a9 w p).length ag ((G.refl No i).drew.trans s.mod)) ?_;rintro ak rfl))
 all_goals go_wp2
 all_goals go_ret
 all_goals exact⟨rfl,(b W).trans ((G.refl No i).drew.trans s.mod)⟩
structure AH (w W w':U) (ow:Nat->Nat) (kb:Nat) (now:Int) (dS:Nat->Option Nat) (fl:aQ) (K':bU):Prop where
 ex:∃ow' pt',dH w' ow' kb now pt' fl K'/\(∀k,k<w.heap.size->ow' k=ow k)/\∀j,j<29->pt' j=dS j
 mod:G (λk=>ow k≠0) w w'
 T4:G (λk=>ow k≠0) W w'
theorem AH.saved{b w':U}(a:AH I b w' k S w o p v):lU I w' k S w o p v:=⟨a.ex,a.mod⟩
structure qn (now:Int) (fl:aQ) (K:bU):Prop where
 zero:fl 0=J
 fit:eY 0 (fD now fl)
 byte:∀x∈a9 now fl,0<=x/\x<256
 file:K.file<2
 len:(K.T.b (1 - K.file)).length+(a9 now fl).length<=8796093022208
theorem RN{w W:U}{a:bU}(c:dH I k S Q o p a)(j:a.live=true)(i:qn Q p a)(l:G No I w)(B:G No w W){v:V}(s:W.ownsRow 0 5 1 v (a9 Q p).length (dt (a9 Q p)))(H:∀b,v.ownBlock=E b->w.heap.size<=b):Calls h 79 #[g (E (u S 30 J)),v] W λy w'=>y=q (F K (cU a.T a.file (a9 Q p)).1)/\AH I W w' k S Q o p (dD a (cU a.T a.file (a9 Q p))):=by
 obtain⟨z,A,rfl⟩:=aR s;have n:=l.trans B;have e:=c.bC n;have aa:=c.tape.lt;have M:k S=1:=c.keep.bw;have r:=c.ptr;rw[D j] at r;have Y:=l.size;refine(Gj (S:=λb=>k b=30) e.keep.e (by rw[pW,r];rfl) (by omega) e.tape a.file i.file (by rw[uE,e.file]) a.torn (by rw[rj,e.torn]) z A (a9 Q p) (pB s) (λR=>by have:=H _ R;omega) i.byte (by have:=i.len;omega)).mono ?_;rintro y w' ⟨T,x⟩
 obtain⟨N,O,P⟩:=dH.GD c j n i.file x
 exact⟨T,⟨_,_,N,O,λZ X=>xN _ _ _ _ (by omega)⟩,P,x.mod.mono (λb _ d=>by
  obtain d|d:=d
  .show k b≠0;omega
  .show k b≠0;rw[d,M];omega)⟩
theorem RO(Q:dH I k S w o p v)(am:v.live=true)(aw:v.torn=true)(ak:qn w p v)(c:aD)(ar:jG w c):Calls h 50 #[g (E (u S 0 J)),t #[F K c.fl,eH c]] I λR w'=>R=q (F K (eg v (a9 w p) (aT w [c])).1)/\lU I w' k S w o p (eg v (a9 w p) (aT w [c])).2:=by
 obtain⟨s,x,ax⟩:=sS c;have az:G No I (I.alloc (m #[F K c.fl,.iface s x] 125)):=(G.refl _ _).alloc _;have aL:=X.new I #[F K c.fl,.iface s x] 125;have aS:I.heap.size+1<=(I.alloc (m #[F K c.fl,.iface s x] 125)).heap.size:=by simp
 have aP:k I.heap.size=0:=by
  by_cases e:k I.heap.size=0
  .exact e
  .have:=Q.keep.bg _ e;omega
 have aN:=Q.bC az;have ba:=l ax;rw[ax];unfold eg;rw[D aw,GC am];simp only;obtain⟨d,Y⟩:∃d,cU v.T v.file (a9 w p)=d:=⟨_,rfl⟩;have O:=l λ(ad a:U) y (bk:G No I ad) (Z:G No ad a) B M=>RN Q am ak (w:=ad) (W:=a) (v:=y) bk Z B M;rw[Y] at O ⊢;have aO:d.1=0->(dD v d).live=true/\(dD v d).torn=false/\(dD v d).file<2/\((dD v d).T.b (dD v d).file).length+42<=17592186044416:=λaj=>by
  have bh:=ak.file;have bH:=ak.len;unfold dD;refine⟨by simp[aj],by simp[aj],by simp only[D aj];omega,?_⟩;simp only[D aj];obtain⟨_,e,_⟩|⟨e,_⟩|⟨e,_⟩:=Gm v.T bh (a9 w p)
  .rw[Y] at e;rw[e,f (by omega),D rfl,bG];omega
  .rw[Y] at e;omega
  .rw[Y] at e;omega
 have aF:=l aO;have A:=l aN;have bx:=l Q;have aH:=l az;have a1:=l aL;have aG:=l aw;have bA:=l aS;have a4:=l aP;have af:=l ak;have hold:=l Q.keep.bg;clear Q aN az aL ax aw Y aO aS aP;by_cases aa:d.1=0
 .rw[D aa];obtain⟨ay,aU,bn,bL⟩:=(b aF) aa;rw[aa] at O;generalize dD v d=W at *;unfold iW;rw[ay,f (by simp)];simp only;obtain⟨P,ap⟩:∃P,iq W.T W.file (aT w [c])=P:=⟨_,rfl⟩;rw[ap];have a3:=l ap;have aE:=l ay;have bz:=l aU;clear ap ay aU aF;go_enter func50,ntmps50;go_upto_region 3 with fail;generalize I.alloc (m #[F K c.fl,.iface s x] 125)=ad at *
  have T:=l (uC (b A).keep.e true (by rw[rj,(b A).torn,b aG]));have bo:=(b A).keep.e.lt;go_wp2_with fail;refine(b T).mono ?_;rintro R z ⟨rfl,rfl⟩;have ag:=l (xM ((b A).keep.mod (G.refl No z).drew (λ_ _ N=>N)) (b af).zero (b af).fit);have ae:=l λa y (H:G No z a) B M=>(b O) z a y (b aH) H B M;clear T O;go_wp2_with fail
  go_region_law (first
   |(refine oT rfl 57 _ _ rfl #[g (E (u S 0 J))] (by simp[aM,bN]) (λa=>by kernel_rfl) _ (b ag) ?_;intro bw aB j;obtain⟨bd,bv,rfl⟩:=aR j.row)
   |(refine fP rfl 79 _ _ rfl #[g (E (u S 30 J)),_] (by simp[aM,bN];try rfl) (λa=>by kernel_rfl) (F K 0) _ ((b ae) aB _ ((G.refl No z).drew.trans j.mod) j.row j.new) ?_;intro n av))
  all_goals
   obtain⟨⟨aA,bP,ab,aY,aZ⟩,aW,aX⟩:=av;have ai:=aX.e (j.mod.e (b a1).drew (λN=>N)) (λe=>e (b a4));have bC:n.cell? (u S 0 J)=E (F K w):=ab.keep.e.T 0;have bO:=ab.keep.e.lt;have bE:n.cell? (u I.heap.size 0 J)=E (F K c.fl):=ai.T 0;have bF:n.cell? (u I.heap.size 1 J)=E (.iface s x):=ai.T 1;have bM:=ai.lt;have au:=ab.ptr;rw[b aE,D rfl] at au;have a5:=l au;have ah:=l ab;have aK:=l aY;have bb:=l aZ
   have aI:=l aW;have aC:=l (X.new n #[F K c.fl,.iface s x] 125);have aJ:=l ((G.refl No n).alloc (m #[F K c.fl,.iface s x] 125));have a6:=l λa (bg:X a n.heap.size #[F K c.fl,.iface s x] 125)=>zu (b ba) ar n.heap.size 1 bg;have a7:=l (DB ar);have a8:=l (zt ar);have a2:=l λa y (H:G No n a) (B:a.ownsRow 0 5 1 y (aT w [c]).length (dt (aT w [c]))) (M:∀i,y.ownBlock=E i->n.heap.size<=i)=>
    (show Calls h 80 #[g (E (u S 30 J)),y] a λR w'=>R=q (F K P.1)/\lU I w' k S w o p { W with T:=P.2,live:=P.1 !=16 } from by
     rw[<-b a3]
     obtain⟨bc,bf,rfl⟩:=aR B
     have Z:=(b ah).bC H
     have bR:=(b ah).tape.lt
     have bJ:aA S=1:=(b ah).keep.bw
     refine(Dj (S:=λi=>aA i=30) Z.keep.e (by rw[pW,b a5];rfl) (by omega) Z.tape W.file bn (by rw[uE,Z.file]) bc bf (aT w [c]) (pB B) (λe=>by have:=M _ e;omega) (b a7) (by have:=b a8;omega)).mono ?_
     rintro R w' ⟨bp,bq,br,a0⟩
     obtain⟨bs,bt,bu⟩:=dH.laid (b ah) H.size a0.size (b aE) bq br ((H.mono (λ_ _ N=>N.elim)).trans a0)
     exact⟨bp,⟨_,_,bs,λi r=>(bt i (bj r (b aI).size)).trans ((b aK) i r),λbm bi=>(sR _ _ _ (by omega)).trans ((b bb) bm bi)⟩,(b aI).trans' bu (λi r am=>by
      have r:aA i≠0:=r
      rw[(b aK) i am] at r
      exact r)⟩)
   clear ai ab aY aZ aW aX au ag ae j;go_wp2_with fail
   go_region_law (first
    |(refine oT rfl 81 _ _ rfl #[F K w,C (E (u n.heap.size 0 J)) 1 1] (by simp[aM,bN]) (λa=>by kernel_rfl) _ ((b a6) _ (by first|with_reducible exact(b aC).drew|with_reducible exact(b aC))) ?_;intro bS bT ao;obtain⟨bB,bQ,rfl⟩:=aR ao.row)
    |(refine fP rfl 80 _ _ rfl #[g (E (u S 30 J)),_] (by simp[aM,bN];try rfl) (λa=>by kernel_rfl) (F K P.1) _ ((b a2) _ _ ((b aJ).drew.trans ao.mod) ao.row (λi r=>cC (b aJ).size (ao.new i r))) ?_;intro bV bl))
   all_goals go_wp2
   all_goals go_ret
   all_goals exact⟨rfl,bl⟩
 .rw[f aa];generalize dD v d=W at *;go_enter func50,ntmps50;go_upto_region 3 with fail;generalize I.alloc (m #[F K c.fl,.iface s x] 125)=ad at *;have T:=l (uC (b A).keep.e true (by rw[rj,(b A).torn,b aG]));have bo:=(b A).keep.e.lt;go_wp2_with fail;refine(b T).mono ?_;rintro R z ⟨rfl,rfl⟩;have ag:=l (xM ((b A).keep.mod (G.refl No z).drew (λ_ _ N=>N)) (b af).zero (b af).fit)
  have ae:=l λa y (H:G No z a) B M=>(b O) z a y (b aH) H B M;have bI:(d.1 !=0)=true:=by simpa using aa
  clear T O;go_wp2_with fail
  go_region_law (first
   |(refine oT rfl 57 _ _ rfl #[g (E (u S 0 J))] (by simp[aM,bN]) (λa=>by kernel_rfl) _ (b ag) ?_;intro bw aB j;obtain⟨bd,bv,rfl⟩:=aR j.row)
   |(refine fP rfl 79 _ _ rfl #[g (E (u S 30 J)),_] (by simp[aM,bN];try rfl) (λa=>by kernel_rfl) (F K d.1) _ ((b ae) aB _ ((G.refl No z).drew.trans j.mod) j.row j.new) ?_;intro n av))
  all_goals go_wp2
  all_goals go_ret
  all_goals exact⟨rfl,av.saved⟩
theorem RP{a b:List Int}(c:v.live=false):eg v a b=(17,v):=by
 unfold eg kd iW;simp[c]
theorem RQ(b:dH I k S w o p v)(d:qn w p v)(A:(v.T.b v.file).length+42<=17592186044416)(a:aD)(i:jG w a):Calls h 50 #[g (E (u S 0 J)),t #[F K a.fl,eH a]] I λn w'=>n=q (F K (eg v (a9 w p) (aT w [a])).1)/\lU I w' k S w o p (eg v (a9 w p) (aT w [a])).2:=by
 by_cases e:v.live=true
 .by_cases c:v.torn=true
  .exact RO b e c d a i
  .have B:v.torn=false:=by simpa using c
   have z:eg v (a9 w p) (aT w [a])=iW v (aT w [a]):=by unfold eg;rw[f c]
   rw[z];exact MV b e B d.file A a i
 .have r:v.live=false:=by simpa using e
  rw[RP r];have y:∀w',G No I w'->lU I w' k S w o p v:=λw' s=>⟨⟨k,o,b.bC s,λ_ _=>rfl,λ_ _=>rfl⟩,s.mono (λ_ _ H=>H.elim)⟩;by_cases c:v.torn=true
  .exact(RM b r c d.zero d.fit a (sS a)).mono (λn w' ⟨j,l⟩=>⟨j,y w' l⟩)
  .have x:=b.ptr;rw[f e] at x;exact(MU b.keep.e x (by rw[b.torn];simpa using c) a i).mono (λn w' ⟨j,l⟩=>⟨j,y w' l⟩)
theorem RT(av:dH I k S w o N v)(ah:0<=w/\w<=4611686018427387000)(a:aK)(aG:jG w (aP w a)->∀b,G No I b->Calls h 50 #[g (E (u S 0 J)),t #[F K (aP w a).fl,eH (aP w a)]] b λy w'=>y=q (F K (eg v (a9 w N) (aT w [aP w a])).1)/\lU b w' k S w o N (eg v (a9 w N) (aT w [aP w a])).2):Calls h 25 #[g (E (u S 0 J)),t (aw a)] I λd w'=>
   d=q (F K (fT w N v a).1)/\jw I w' k S o (fT w N v a).2.1 (fT w N v a).2.2.1 (fT w N v a).2.2.2:=by
 have W:=av.keep;have no:∀e:Int,e≠0->(br w N a).1=e->(∀b,G No I b->Calls h 49 #[g (E (u S 0 J)),t (aw a)] b λd w'=>d=q (refuse e)/\G No b w')->
   Calls h 25 #[g (E (u S 0 J)),t (aw a)] I λd w'=>d=q (F K (fT w N v a).1)/\jw I w' k S o (fT w N v a).2.1 (fT w N v a).2.2.1 (fT w N v a).2.2.2:=λe az hd r=>by
  unfold fT;rw[hd,D az];exact(LM S a e az I r).mono (λd w' ⟨y,ag⟩=>⟨y,jw.same av ag⟩)
 have au:∀ar ak,(br w N a)=(0,ar,ak)->jG w (aP w a)->(∀b,G No I b->Calls h 49 #[g (E (u S 0 J)),t (aw a)] b λd w'=>d=q (ey (eH (aP w a)))/\G No b w')->
   (∀b j l,cI b j S w l N->Calls h 44 #[g (E (u S 0 J)),t #[F K a.aF,eH (aP w a)]] b λd w'=>d=q (aq #[])/\oR b w' j S l ar ak)->
   Calls h 25 #[g (E (u S 0 J)),t (aw a)] I λd w'=>d=q (F K (fT w N v a).1)/\jw I w' k S o (fT w N v a).2.1 (fT w N v a).2.2.1 (fT w N v a).2.2.2:=λar ak hd p r hA=>by
  obtain⟨aA,aB,aL⟩:=sS (aP w a);have hS:∀b,G No I b->Calls h 50 #[g (E (u S 0 J)),t #[F K a.aF,eH (aP w a)]] b λy w'=>y=q (F K (eg v (a9 w N) (aT w [aP w a])).1)/\lU b w' k S w o N (eg v (a9 w N) (aT w [aP w a])).2:=aG p;unfold fT;rw[hd,f (by simp)];rw[aL] at r hS hA;by_cases s:(eg v (a9 w N) (aT w [aP w a])).1=0
  .rw[D s];rw[s] at hS;refine LP S a aA aB I (λaC=>∃j l,dH aC j S w l N (eg v (a9 w N) (aT w [aP w a])).2/\(∀H,H<I.heap.size->j H=k H)/\(∀B,B<29->l B=o B)/\G (λH=>k H≠0) I aC) _ r (λb P c aW aE=>?_) (λb aF=>?_)
   .refine(hS b c).mono ?_;rintro y w' ⟨ai,⟨j,l,X,aa,ab⟩,ad⟩;have aO:k P=0:=by
     by_cases d:k P=0
     .exact d
     .have:=W.bg P d;omega
    exact⟨ai,⟨j,l,X,λH R=>aa H (bj R c.size),ab,(c.mono (λ_ _ e=>e.elim)).trans ad⟩,ad.e aE (λd=>d aO)⟩
   .obtain⟨j,l,X,aa,ab,ad⟩:=aF;refine(hA b j l X.keep).mono ?_;rintro d w' ⟨aQ,aR⟩;exact⟨aQ,jw.Om W.bg ⟨j,l,X,aa,ab,aR⟩ ad⟩
  .rw[f s];refine LO S a aA aB _ s I _ r (λb c=>(hS b c).mono ?_);rintro y w' ⟨ai,⟨j,l,X,aa,ab⟩,ad⟩;exact⟨ai,(⟨⟨j,l,X,aa,λaN _ hi=>ab aN hi⟩,ad⟩:jw b w' k S o w N _).first c⟩
 by_cases Y:a.kind<1\/a.kind>9
 .exact no 1 (by omega) (by unfold br;rw[D Y]) (λb _=>Lk S a Y b)
 by_cases A:a.kind=8
 .have ax:∀b,G No I b->∀i,G No b i->Calls h 32 #[g (E (u S 0 J))] i λd w'=>d=q (F K w)/\w'=i:=λb c i Q=>yN (W.mod (c.trans Q) (λ_ _ e=>e));by_cases ae:1<=a.time/\a.time<=100
  .refine au _ _ (by unfold br;rw[f Y,D A,D ae]) (Ek A ae ah) (λb c=>?_) (λb j l R=>?_)
   .rw[zM A];exact CX S a w _ _ A b (ax b c) (λi=>Li a.time w i ae.1 ae.2 ah)
   .rw[zM A];exact zj S a.aF (w+a.time) b _ (λi Q=>(yR (R.mod Q (λ_ _ e=>e)) (w+a.time)).mono (λd w' ⟨y,H,ag⟩=>⟨y,⟨j,l,H,λ_ _=>rfl,λ_ _=>rfl⟩,(Q.mono (λ_ _ e=>e.elim)).trans ag⟩))
  .exact no 8 (by omega) (by unfold br;rw[f Y,D A,f ae]) (λb c=>CX S a w _ _ A b (ax b c) (λi=>Lj a.time w i ae))
 by_cases p:1<=a.aF/\a.aF<=20
 case neg=>
  exact no 2 (by omega) (by unfold br;rw[f Y,f A,D p]) (λb _=>Ll S a (by omega) p b)
 have aj:((a.aF.toNat:Nat):Int)=a.aF:=by omega
 have hF:∀b,G No I b->∀i,G No b i->Calls h 59 #[g (E (u S 0 J)),F K a.aF] i λd w'=>d=q (bL (o a.aF.toNat))/\w'=i:=λb c i Q=>by
  have:=wg (W.mod (c.trans Q) (λ_ _ e=>e)) a.aF.toNat (by omega);rw[aj] at this;exact this
 cases Z:N a.aF.toNat with
 |none=>
  have ap:=W.gone _ (by omega) Z;rw[ap] at hF;have n:br w N a=if a.kind=1 then(if a.c.aY=true/\a.c.bI=true then(0,w,λB=>if B=a.aF.toNat then E (a.c.at 1,aI a.c) else N B) else(4,w,N)) else(2,w,N):=by
   unfold br;rw[f Y,f A,f (by simpa using p),Z]
  by_cases x:a.kind=1
  .rw[D x] at n;by_cases T:a.c.aY=true/\a.c.bI=true
   .rw[D T] at n;have hA:∀b,Calls h 76 #[fX a.c] b λd w'=>d=q (aq #[kW a.c,F K 0])/\G No b w':=λb=>by
     have:=Cu a.c b;unfold vZ at this;rw[D T] at this;exact this
    refine au _ _ n (Ej x p T.1 T.2) (λb c=>?_) (λb j l R=>?_)
    .rw[zL x];exact CY S a _ _ x p b (hF b c) hA
    .rw[zL x];have:=Dd R a.aF.toNat (by omega) Z a.c T.1 T.2;rw[aj] at this;exact this
   .rw[f T] at n;have hA:∀b,Calls h 76 #[fX a.c] b λd w'=>d=q (aq #[.nilIface,F K 4])/\G No b w':=λb=>by
     have:=Cu a.c b;unfold vZ at this;rw[f T] at this;exact this
    exact no 4 (by omega) (by rw[n]) (λb c=>CY S a _ _ x p b (hF b c) hA)
  .rw[f x] at n;exact no 2 (by omega) (by rw[n]) (λb c=>Ln S a (by omega) p b (hF b c))
 |some e=>
  obtain⟨M,af⟩:=e;obtain⟨P,ap,ay,aH⟩:=W.here _ M af (by omega) Z;rw[ap] at hF;have n:br w N a=if a.kind=1 then(3,w,N) else if bH M af a w=0 then(0,w,λB=>if B=a.aF.toNat then E (iG M a,eD M af a) else N B) else(bH M af a w,w,N):=by
   unfold br;rw[f Y,f A,f (by simpa using p),Z]
  by_cases x:a.kind=1
  .rw[D x] at n;exact no 3 (by omega) (by rw[n]) (λb c=>Lm S P a x p b (hF b c))
  .rw[f x] at n;have r:∀b,G No I b->∀i,G No b i->Calls h 77 #[g (E (u P 0 J)),t (aw a),F K w] i λd w'=>d=q (lM M af a w)/\G No i w':=λb c i Q=>by
    obtain⟨ag,aU,aS,ai,X,aa,ab,ad,aX⟩:=aH.bC (c.trans Q);exact Kn ⟨ai,X,aa,ab⟩ ay a w ah (by omega)
   unfold lM at r;have ao:2<=a.kind/\a.kind<=9/\a.kind≠8:=by omega
   by_cases s:bH M af a w=0
   .rw[D s] at r n;refine au _ _ n (Em ao p ay ah s) (λb c=>?_) (λb j l R=>?_)
    .rw[zN ao];exact CZ S P a w _ _ _ (by omega) p b (c.e W.e (λe=>e)) rfl (hF b c) (r b c)
    .rw[zN ao];by_cases am:a.kind=9
     .have:=De R a.aF.toNat (by omega) Z a am s;rw[aj] at this;exact this
     have:=C7 R a.aF.toNat (by omega) Z ah a (by omega) s am;rw[aj] at this;refine this.mono ?_;rintro d w' ⟨y,aJ,ag⟩;have aD:iG M a=M.next:=by unfold iG;rw[f am]
     rw[aD];exact⟨y,⟨j,l,aJ,λ_ _=>rfl,λ_ _=>rfl⟩,ag⟩
   .rw[f s] at r n;exact no _ s (by rw[n]) (λb c=>CZ S P a w _ _ _ (by omega) p b (c.e W.e (λe=>e)) rfl (hF b c) (r b c))
theorem xO(b:dH I k S w o p v)(l:0<=w/\w<=4611686018427387000)(d:qn w p v)(j:(v.T.b v.file).length+42<=17592186044416)(a:aK):Calls h 25 #[g (E (u S 0 J)),t (aw a)] I λc w'=>c=q (F K (fT w p v a).1)/\jw I w' k S o (fT w p v a).2.1 (fT w p v a).2.2.1 (fT w p v a).2.2.2:=
 RT b l a (λi n e=>RQ (b.bC e) d j _ i)
def gM(c:Int)(b:aQ)(a:bU):Int×bU:=
 if a.live=false then(17,a) else if (a.T.b a.file).length<=(a9 c b).length then(0,a) else((cU a.T a.file (a9 c b)).1,dD a (cU a.T a.file (a9 c b)))
theorem RU(a:dH I k S w o p v)(e:qn w p v):Calls h 30 #[g (E (u S 0 J))] I λO w'=>O=q (F K (gM w p v).1)/\lU I w' k S w o p (gM w p v).2:=by
 have ao:=a.keep.e.lt;have aa:=l (xM (a.keep.mod (G.refl No I).drew (λ_ _ Q=>Q)) e.zero e.fit);obtain⟨n,P⟩:∃n,gM w p v=n:=⟨_,rfl⟩;rw[P];have W:G No I I.drew:=(G.refl No I).drew;have H:∀d B,G No I d->d.ownsRow 0 5 1 B (a9 w p).length (dt (a9 w p))->(∀j,B.ownBlock=E j->I.heap.size<=j)->Calls h 56 #[g (E (u S 30 J)),B] d λY w'=>Y=q (F K n.1)/\lU I w' k S w o p n.2:=by
  rw[<-P];intro d B x X ad;unfold gM;obtain⟨M,N,rfl⟩:=aR X;have c:=a.bC x;have Z:∀w',G No d w'->lU I w' k S w o p v:=λw' T=>⟨⟨k,o,a.bC (x.trans T),λ_ _=>rfl,λ_ _=>rfl⟩,(x.trans T).mono (λ_ _ Q=>Q.elim)⟩;by_cases y:v.live=false
  .rw[D y];have i:=a.ptr;rw[y,f (by simp)] at i;exact(RG c.keep.e (by rw[pW,i];rfl) M _ N).mono (λO w' ⟨r,s⟩=>⟨r,Z w' s⟩)
  rw[f y];have R:v.live=true:=by simpa using y
  have i:=a.ptr;rw[D R] at i;by_cases z:(v.T.b v.file).length<=(a9 w p).length
  .rw[D z];exact(RI c.keep.e (by rw[pW,i];rfl) c.tape v.file e.file (by rw[uE,c.file]) M _ N z).mono (λO w' ⟨r,s⟩=>⟨r,Z w' s⟩)
  rw[f z];have av:=a.tape.lt;have ar:k S=1:=a.keep.bw;refine(RJ (S:=λj=>k j=30) c.keep.e (by rw[pW,i];rfl) (by omega) c.tape v.file e.file (by rw[uE,c.file]) v.torn (by rw[rj,c.torn]) M N (a9 w p) (pB X) (λai=>by have:=ad _ ai;omega) e.byte (by have:=e.len;omega) z).mono ?_;rintro Y w' ⟨r,s⟩;obtain⟨af,ag,ah⟩:=dH.GD a R x e.file s;exact⟨r,⟨_,_,af,ag,λap am=>xN _ _ _ _ (by omega)⟩,ah⟩
 have H:=l H;clear a P;go_enter func30,ntmps30;go_wp2_with fail
 go_region_law (first
  |(refine oT rfl 57 _ _ rfl #[g (E (u S 0 J))] (by simp[aM,bN]) (λd=>by kernel_rfl) _ (b aa) ?_;intro aw aj A;obtain⟨ak,au,rfl⟩:=aR A.row)
  |(refine fP rfl 56 _ _ rfl #[g (E (u S 30 J)),_] (by simp[aM,bN];try rfl) (λd=>by kernel_rfl) (F K n.1) _ ((b H) aj _ (W.trans A.mod) A.row (λj ab=>cC W.size (A.new j ab))) ?_;intro ax ae))
 all_goals go_wp2
 all_goals go_ret
 all_goals exact⟨rfl,ae⟩
theorem xP:∀(a:List aD) {b:List aD} {k i j:Int} {e f1 f2:aQ},ki k e a i f1->ki i f1 b j f2->ki k e (a++b) j f2
 |[],b,_,_,_,_,_,_,c,d=>by obtain⟨rfl,rfl⟩:=c;exact d
 |r::a,b,_,_,_,_,_,_,c,d=>by
  obtain⟨p,l,n,o⟩:=c;exact⟨p,l,n,xP a o d⟩
theorem xQ{f1:aQ}{a:aD}(b:xx w p a Q f1):ki w p [a] Q f1:=⟨Q,f1,b,rfl,rfl⟩
theorem eY.append:∀ {a d:List aD} {c:Int},eY c a->eY (ij c a) d->eY c (a++d)
 |[],_,_,_,b=>b
 |i::a,d,c,b,e=>⟨b.1,eY.append b.2 e⟩
theorem GG:∀(a b:List aD) (c:Int),ij c (a++b)=ij (ij c a) b
 |[],_,_=>rfl
 |d::a,b,c=>GG a b (ib c d)
theorem GI:∀(a:List aD) (b:Int),a.foldl ib b=ij b a
 |[],_=>rfl
 |c::a,b=>GI a (ib b c)
theorem RV{p:O}(c:aJ p j)(l:∀k∈j,k.st=0):aI p=j:=by
 apply yL
 .exact xw c
 .intro b r d;have e:=c.place b d;have i:=l j[b] (eK d);have a:=(c.dX j[b] (eK d)).bare (.inl i);simp only at e;simp only[aI,sF,CK];rw[<-e.1,<-e.2];generalize j[b]=k at *;obtain⟨v,n,w,s,o,x⟩:=k;simp only at i a;rw[i,a.1,a.2.1,a.2.2]
theorem RZ{p:O}(a:p.ep=1):p.at 1=p:=by
 obtain⟨b,c,d,e,i,k,l,j⟩:=p;simp only at a;subst a;rfl
def below(b:aQ)(c:Nat):aQ:=λa=>if a<c then b a else J
theorem R6(a:aQ):below a 0=gJ:=by
 funext b;unfold below gJ;rw[f (by omega)]
theorem R7(d:p S=J):below p (S+1)=below p S:=by
 funext b;unfold below;by_cases c:b=S
 .subst c;rw[D (by omega),f (by omega),d]
 .by_cases a:b<S
  .rw[D (by omega),D a]
  .rw[f (by omega),f a]
theorem R9{x:O×List z}(c:p S=E x):below p (S+1)=λj=>if j=S then E x else below p S j:=by
 funext j;unfold below;by_cases a:j=S
 .subst a;rw[D (by omega),D rfl,c]
 .rw[f a];by_cases b:j<S
  .rw[D (by omega),D b]
  .rw[f (by omega),f b]
theorem GJ(d:cJ w Q p):∀a,ki 0 gJ (gi Q p a) Q (below p a)
 |0=>by
  rw[R6];unfold gi;by_cases k:0<Q
  .rw[D k];refine xQ (.inr (.inl ⟨?_,λ_=>rfl,rfl,by omega⟩));unfold canon;rfl
  .rw[f k];have:=d.time;exact⟨by omega,rfl⟩
 |a+1=>by
  have o:=GJ d a
  cases b:p a with
  |none=>rw[rE b,R7 b];exact o
  |some x=>
   obtain⟨c,j⟩:=x;have i:=d.wf a c j b;have n:1<=a/\a<=20:=by
    by_cases v:a=0\/20<a
    .rw[d.iw a v] at b;cases b
    .omega
   have l:below p a a=J:=f (by omega);rw[tx b,R9 b];refine xP _ o (xQ ?_);by_cases e:c.ep=1
   .refine .inl ⟨⟨1,a,0,0,0,0,0,0,0,c⟩,?_,?_⟩
    .have r:canon (eR a (c,j))=sX a c:=by unfold canon eR;simp only[D e];rfl
     rw[r];rfl
    .unfold br;rw[f (by simp),f (by simp),f (by simp;omega)];have s:((a:Nat):Int).toNat=a:=by omega
     simp only[s,l,iP];rw[D ⟨i.aY,i.bI⟩,RZ e,RV i (d.one a c j b e)]
   .refine .inr (.inr ⟨a,c,j,?_,n.1,n.2,l,i,rfl,rfl⟩);unfold canon eR;simp only[f e];rfl
theorem Sa(a:Int)(b:Nat)(x:O×List z):ib a (eR b x)=a:=by
 unfold ib eR;simp only;rw[f (by split<;>omega)]
theorem xR(b:cJ w Q p):∀a,ij 0 (gi Q p a)=Q
 |0=>by
  unfold gi;by_cases c:0<Q
  .rw[D c];rfl
  .rw[f c];have:=b.time;show(0:Int)=Q;omega
 |a+1=>by
  have e:=xR b a
  cases d:p a with
  |none=>rw[rE d];exact e
  |some i=>
   rw[tx d,GG,e];exact Sa Q a i
theorem GK{p:O}(b:p.bI=true)(a:Nat):0<=p.cD a/\p.cD a<16384:=by
 simp only[O.bI,eA] at b;unfold O.cD;split<;>omega
theorem GL{n:aQ}(d:cJ w Q n)(I:S<32){p:O}(l:n S=E (p,j)):pn Q (eR S (p,j)):=by
 have i:=d.wf S p j l;have v:=i.bounds;have k:=GK i.bI;have G:=d.ep S p j l;have B:=d.pw;have M:=d.time;simp only at v k;by_cases o:p.ep=1
 .have r:(eR S (p,j)).kind=1:=by unfold eR;simp[o]
  exact⟨by omega,λ_=>⟨by omega,λ_=>⟨by show(0:Int)<=S;omega,by show(S:Int)<32;omega⟩,λ_=>⟨by show 0<=p.rows/\p.rows<128;omega,by show 0<=p.y/\p.y<128;omega,by show 0<=p.Z/\p.Z<128;omega,k⟩,λa=>by omega,λa=>by omega,λa=>by omega,λa=>by omega,λa=>by omega⟩,λa=>by omega,λa=>by omega,λa=>by omega,λa=>by omega⟩
 .have r:(eR S (p,j)).kind=7:=by unfold eR;simp[o]
  have x:=bV.wf.jO i;have H:=sP (λb:z=>b.st !=0) j;simp only at x;refine⟨by omega,λa=>absurd r a,λa=>by omega,λ_=>⟨by show(0:Int)<=S;omega,by show(S:Int)<32;omega⟩,λ_=>⟨by show 0<=p.rows/\p.rows<128;omega,by show 0<=p.y/\p.y<128;omega,by show 0<=p.Z/\p.Z<128;omega,k,by show 0<=p.ep;omega,by show p.ep<=4611686018427387904;omega⟩,λ_=>⟨by show(j.filter _).length<=120;omega,λb e=>?_⟩⟩
  have e:b∈j.filter (λb=>b.st !=0):=e;have s:=Fo i b e;have A:=(List.mem_filter.1 e).1;have y:=s.2;simp only[O.e,eA] at y;have c:=s.1;have:=c.ou;have:=c.s1;have:=c.oy;have:=c.c1;have:=c.pa;have:=c.un;exact⟨⟨by omega,by omega,by omega,by omega,by omega,λa=>by have:=d.hold S p j l b A a;omega,by omega⟩,c⟩
theorem AJ(c:cJ w Q p):∀b,b<=21->eY 0 (gi Q p b)
 |0,_=>by
  unfold gi;have l:=c.time;have j:=c.pw;by_cases e:0<Q
  .rw[D e]
   refine⟨⟨by show(1:Int)<=6/\(6:Int)<=7;omega,λ_=>⟨by show(1:Int)<=6/\(6:Int)<=6;omega,λa=>absurd rfl a,λa=>absurd a (by show ¬(6:Int)=1;omega),λa=>absurd a (by show ¬(6:Int)=2;omega),λa=>absurd a (by show ¬((6:Int)=3\/(6:Int)=4);omega),λa=>absurd a (by show ¬(6:Int)=4;omega),λa=>absurd a (by show ¬(6:Int)=5;omega),λ_=>⟨by omega,by show 0<=Q;omega,by show Q<=4611686018427387904;omega⟩⟩,λa=>absurd a (by show ¬(6:Int)=2;omega),λa=>absurd a (by show ¬(6:Int)=7;omega),λa=>absurd a (by show ¬(6:Int)=7;omega),λa=>absurd a (by show ¬(6:Int)=7;omega)⟩,trivial⟩
  .rw[f e];trivial
 |b+1,k=>by
  have i:=AJ c b (by omega)
  cases d:p b with
  |none=>rw[rE d];exact i
  |some n=>
   rw[tx d];refine eY.append i ⟨?_,trivial⟩;rw[xR c b];exact GL c (by omega) d
theorem Sb{p:O}(a:p.rows<16384/\p.y<16384/\p.Z<16384/\∀b,p.cD b<16384):(jm p).length<=14:=by
 have j:=jS a.1;have k:=jS a.2.1;have l:=jS a.2.2.1;have c:=jS (a.2.2.2 0);have d:=jS (a.2.2.2 1);have e:=jS (a.2.2.2 2);have i:=jS (a.2.2.2 3);simp only[O.cD] at c d e i;unfold jm lG;simp only[bG];omega
theorem Sc{a:z}(d:lS w a):(iT w a).length<=15:=by
 obtain⟨l,n,o,p,r,s,v⟩:=d;have e:=jS (x:=(a.row - 1)* 6+a.ae - 1) (by omega);have i:=jS (x:=a.st* 4+a.cl) (by omega);have b:=jS (x:=a.pa) (by omega);have c:=(eM (a.un - w)).2;unfold iT gO;simp only[bG];have j:(if a.st=3 then[] else bX a.pa).length<=2:=by
  split
  .simp
  .exact b
 have k:(if a.st=1 then bX (a.un - w) else[]).length<=9:=by
  split
  .exact c
  .simp
 omega
theorem GM:∀ {ss:List z},(∀b∈ss,lS w b)->(il w ss).length<=15* ss.length
 |[],_=>by simp[il]
 |b::ss,c=>by
  have a:=Sc (c b (by simp));have i:=GM (ss:=ss) (λe d=>c e (rN _ d));simp only[il,bG,eL];omega
theorem Sd{b:aQ}(c:cJ w Q b)(v:S<32){p:O}(o:b S=E (p,j)):(ia Q (eR S (p,j))).length<=60+30* cG j:=by
 have e:=GL c v o;have n:=c.wf S p j o;have s:=n.bounds;have k:=GK n.bI;simp only at s k;have H:(jm p).length<=14:=Sb ⟨by omega,by omega,by omega,λS=>(k S).2⟩;by_cases d:p.ep=1
 .have i:(eR S (p,j)).kind=1:=by unfold eR;simp[d]
  have:=wL (e.c (by omega));omega
 .have i:(eR S (p,j)).kind=7:=by unfold eR;simp[d]
  have l:=e.w i;have B:=GM (λa x=>(l.2 a x).1);have G:(eR S (p,j)).Y.length=cG j:=by
   show(j.filter λa=>a.st !=0).length=j.countP λa=>a.st !=0;rw[Cq]
  have A:=(eM p.ep).2;have y:=jS (x:=((eR S (p,j)).Y.length:Int)) (by have:=l.1;omega);unfold ia;rw[f (by omega),f (by omega),f (by omega),f (by omega),f (by omega),f (by omega)];unfold lH;simp only[eL,bG];have r:(eR S (p,j)).c=p:=rfl;rw[r];omega
def fH(a:aQ):Nat->Int
 |0=>200
 |b+1=>fH a b+(match a b with|none=>0|some x=>60+30* (cG x.2:Int))
theorem AK(b:aQ):∀a,200<=fH b a
 |0=>by unfold fH;omega
 |a+1=>by
  have:=AK b a;unfold fH;split
  .omega
  .rename_i c _;have:(0:Int)<=cG c.2:=ze _;show 200<=fH b a+(60+30* (cG c.2:Int));omega
theorem GN(c:cJ w Q p):∀a,a<=21->((ic 0 (gi Q p a)).length:Int)<=fH p a - 100
 |0,_=>by
  unfold gi fH;by_cases i:0<Q
  .rw[D i];have:=(eM (Q - 0)).2;show((192::bX (Q - 0)++[]).length:Int)<=_;simp only[dG,eL];omega
  .rw[f i];show((0:Nat):Int)<=_;omega
 |a+1,l=>by
  have o:=GN c a (by omega)
  cases b:p a with
  |none=>
   rw[rE b];unfold fH;rw[b];simp only;omega
  |some k=>
   obtain⟨e,d⟩:=k;have n:=Sd c (by omega) b;rw[tx b,Dw,GI,xR c a];have j:ic Q [eR a (e,d)]=ia Q (eR a (e,d)):=by show ia Q (eR a (e,d))++[]=_;rw[dG]
   rw[j,bG];unfold fH;rw[b];simp only;omega
theorem xS(a:cJ w Q p):((a9 Q p).length:Int)<=fH p 21:=by
 have b:=GN a 21 (by omega);have d:=AK p 21;rw[lB] at b;have c:=qm Q p 21;rw[lB] at c;have e:=jS (x:=((fD Q p).length:Int)) (by omega);unfold a9;split
 .simp;omega
 .unfold aT;simp only[bG,eL,iR];omega
theorem GO:∀ {b:List z},(∀a∈b,lS w a)->∀d∈il w b,kZ d
 |[],_=>all_nil
 |a::b,c=>fS (Dz (c a (by simp))) (GO (λx e=>c x (rN _ e)))
theorem Se{d:aD}(a:pn w d):∀e∈ia w d,kZ e:=by
 by_cases b:d.kind=7
 .obtain⟨s,v,x,c,y,z⟩:=a.p b;obtain⟨A,p⟩:=a.w b;have r:=a.fl b;have j:=c 0;have k:=c 1;have l:=c 2;have n:=c 3;simp only[O.cD] at j k l n;unfold ia;rw[f (by omega),f (by omega),f (by omega),f (by omega),f (by omega),f (by omega)];refine all_cons ⟨by omega,by omega⟩ ?_;unfold lH jm lG
  exact fS (fS (fS (fS (fS (fS (fS (fS (fS (fC (by omega)) (fC (by omega))) (fC (by omega))) (fC (by omega))) (fC (by omega))) (fC (by omega))) (fC (by omega))) (fC (by omega))) (fC (by omega))) (GO (λo i=>(p o i).1))
 .exact DA (a.c b)
theorem GQ:∀ {a:List aD} {b:Int},eY b a->∀d∈ic b a,kZ d
 |[],_,_=>all_nil
 |e::a,b,c=>fS (Se c.1) (GQ c.2)
theorem GR(c:cJ w Q p):∀a∈a9 Q p,0<=a/\a<256:=by
 have d:=qm Q p 21;rw[lB] at d;have b:=AJ c 21 (by omega);rw[lB] at b;unfold a9;split
 .exact all_nil
 .unfold aT;exact fS (fS (fC (by omega)) (GQ b)) (all_cons ⟨by omega,by omega⟩ all_nil)
theorem GV(a:cJ w Q p):ki 0 gJ (fD Q p) Q p:=by
 have:=GJ a 21;rw[lB] at this;have d:below p 21=p:=by
  funext c;unfold below;by_cases b:c<21
  .rw[D b]
  .rw[f b,a.iw c (by omega)]
 rw[d] at this;exact this
theorem tA(b:cJ w Q p):eY 0 (fD Q p):=by
 have a:=AJ b 21 (by omega);rw[lB] at a;exact a
theorem GW(b:cJ w Q p):ij 0 (fD Q p)=Q:=by
 have a:=xR b 21;rw[lB] at a;exact a
theorem xT{fl':aQ}(j:cJ w Q p)(hd:br Q p R=(0,P,fl')):pn Q (aP Q R):=by
 have H:=j.time;have B:=j.pw;have G:=Ah Q R;have v:=Qo (now:=Q) (fl:=p) (c:=R) (by omega) (λz c b _ i=>j.wf z c b i) (by rw[hd]);refine⟨by omega,λ_=>v,λk=>?_,λi=>by omega,λi=>by omega,λi=>by omega⟩;have y:R.kind=2\/R.kind=3\/R.kind=6:=by
  unfold aP at k;simp only at k
  repeat' split at k
  all_goals omega
 have x:∃c b,p R.aF.toNat=E (c,b)/\bH c b R Q=0:=by
  unfold br at hd;rw[f (by omega),f (by omega)] at hd;by_cases n:1<=R.aF/\R.aF<=20
  case neg=>rw[D n] at hd;exact absurd hd (by simp)
  rw[f (by simpa using n)] at hd
  cases o:p R.aF.toNat with
  |none=>rw[o] at hd;simp only at hd;rw[f (by omega)] at hd;exact absurd hd (by simp)
  |some A=>
   obtain⟨c,b⟩:=A;rw[o] at hd;simp only at hd;rw[f (by omega)] at hd;by_cases e:bH c b R Q=0
   .exact⟨c,b,rfl,e⟩
   .rw[f e] at hd;exact absurd (mu (·.1) hd) e
 obtain⟨c,b,_,e⟩:=x;obtain⟨_,_,_,l,r⟩:=uy e (by omega);obtain a|a|a:=y
 .have d:(aP Q R).dm=⟨R.aA,R.ac,1,R.bJ,R.bF,R.time⟩:=by unfold aP;simp[a]
  have s:=mE (l a).1;have I:=l a;rw[d];exact⟨by simp,by simp,by simp only;omega,by simp only;omega,by simp,by simp only;omega,by simp only;omega,by simp⟩
 .have d:(aP Q R).dm=⟨R.aA,R.ac,2,R.bJ,R.bF,0⟩:=by unfold aP;simp[a]
  have s:=mE (r a);rw[d];exact⟨by simp,by simp,by simp only;omega,by simp only;omega,by simp,by simp only;omega,by simp,by simp⟩
 .have d:(aP Q R).dm=⟨R.aA,R.ac,3,0,0,0⟩:=by unfold aP;simp[a]
  rw[d];exact⟨by simp,by simp,by simp,by simp,by simp,by simp,by simp,by simp⟩
def eT(p:O)(c:List z)(a:Nat):Int×Int×Int:=if a=0 then(0,0,0) else match c[a - 1]? with
 |some b=>(b.row,b.ae,p.ep)
 |none=>(0,0,0)
theorem GX(p:O)(b:List z)(a:Nat)(c:a<b.length):eT p b (a+1)=(b[a].row,b[a].ae,p.ep):=by
 unfold eT;rw[f (by omega),sL,du c]
theorem Sf{p:O}(i:aJ p j)(a:Nat)(d:a<=j.length):dp p (eT p j a).1 (eT p j a).2.1 (eT p j a).2.2=((a:Int),0):=by
 cases a with
 |zero=>rfl
 |succ a=>
  rw[GX p j a d];obtain⟨b,c⟩:=bV.wf.kU i (i:=a) d;simp only at b c;have e:=b;simp only[O.e,eA] at e;unfold dp;rw[f (by omega),f (by simp),f (by simp[b]),c];simp
theorem GY{p:O}(c:aJ p j)(a S:Nat)(b:a<=j.length)(hS:1<=S/\S<=30):gI p j (eT p j a).1 (eT p j a).2.1 (eT p j a).2.2 (S:Int)=⟨(j.drop a).take S,(gx (eT p j a).1 (eT p j a).2.1 ((j.drop a).take S)).1,(gx (eT p j a).1 (eT p j a).2.1 ((j.drop a).take S)).2,p.ep,decide (a+((j.drop a).take S).length<j.length),0⟩:=by
 unfold gI;rw[f (by omega),Sf c a b];simp
theorem Sg{p:O}(e:aJ p j)(a S:Nat)(hS:1<=S/\S<=30)(i:a+S<j.length):gI p j (eT p j a).1 (eT p j a).2.1 (eT p j a).2.2 (S:Int)=⟨(j.drop a).take S,(eT p j (a+S)).1,(eT p j (a+S)).2.1,p.ep,true,0⟩/\(eT p j (a+S)).2.2=p.ep/\((j.drop a).take S).length=S/\j.take a++(j.drop a).take S=j.take (a+S):=by
 have c:((j.drop a).take S).length=S:=by rw[eO,oZ];omega
 obtain⟨b,rfl⟩:∃b,S=b+1:=⟨S - 1,by omega⟩;have d:((j.drop a).take (b+1)).getLast? =E j[a+b]:=by
  rw[List.getLast?_eq_getElem?,c,sL,oD,D (by omega),zi,du (by omega)]
 rw[GY e a (b+1) (by omega) hS,c,show a+(b+1)=(a+b)+1 by omega,GX p j (a+b) (by omega)];refine⟨?_,rfl,rfl,?_⟩
 .unfold gx;rw[d];simp;omega
 .exact List.take_add.symm
theorem Sh{p:O}(e:aJ p j)(a S:Nat)(hS:1<=S/\S<=30)(d:a<=j.length)(k:j.length<=a+S):∃i b,gI p j (eT p j a).1 (eT p j a).2.1 (eT p j a).2.2 (S:Int)=⟨j.drop a,i,b,p.ep,false,0⟩:=by
 have c:(j.drop a).take S=j.drop a:=wk (by rw[oZ];omega);rw[GY e a S d hS,c];have:decide (a+(j.drop a).length<j.length)=false:=by simp;omega
 rw[this];exact⟨_,_,rfl⟩
def Diff(d:Int)(b:Nat->Option (O×List z))(e:Int)(fl':Nat->Option (O×List z)):Prop:=
 d≠e\/(d=e/\∃a,1<=a/\a<=20/\(∀c,c<a->b c=fl' c)/\((b a≠J/\fl' a=J)\/∃i k j l,b a=E (i,k)/\fl' a=E (j,l)/\i.ep≠j.ep))
theorem Si{fl':Nat->Option (O×List z)}(i:cJ w Q N)(hd:br Q N R=(0,P,fl')):Diff P fl' Q N:=by
 unfold br at hd;split at hd
 .exact absurd hd (by simp)
 .split at hd
  .split at hd
   .injection hd with _ hd;injection hd with r _;exact .inl (by omega)
   .exact absurd hd (by simp)
  .split at hd
   .exact absurd hd (by simp)
   .rename_i n;have n:1<=R.aF/\R.aF<=20:=by omega
    split at hd
    .rename_i c;split at hd
     .split at hd
      .injection hd with _ hd;injection hd with d e;subst d;subst e;refine .inr ⟨rfl,R.aF.toNat,by omega,by omega,λa o=>?_,.inl ⟨by simp,c⟩⟩;show(if a=R.aF.toNat then _ else N a)=N a;rw[f (by omega)]
      .exact absurd hd (by simp)
     .exact absurd hd (by simp)
    .rename_i b c;split at hd
     .exact absurd hd (by simp)
     .split at hd
      .injection hd with _ hd;injection hd with d e;subst d;subst e;refine .inr ⟨rfl,R.aF.toNat,by omega,by omega,λa o=>?_,.inr ⟨iG b.1 R,eD b.1 b.2 R,b.1,b.2,?_,c,?_⟩⟩
       .show(if a=R.aF.toNat then _ else N a)=N a;rw[f (by omega)]
       .show(if R.aF.toNat=R.aF.toNat then _ else _)=_;rw[D rfl]
       .have l:=i.ep _ b.1 b.2 c;have p:=ve l i.pw;rw[AF,p];omega
      .rename_i k;injection hd with j _;exact absurd j k
theorem GZ:∀a:List z,ew a+cG a=a.length
 |[]=>rfl
 |c::a=>by
  have d:=GZ a;unfold ew cG at *;rw[mW,mW,eL];by_cases b:c.st=0
  .rw[D (by simpa using b),f (by simpa using b)];omega
  .rw[f (by simpa using b),D (by simpa using b)];omega
theorem G0(a:Nat):∀(b:List aB),b.Pairwise (λx c=>x.f.num<c.f.num)->(b.map (λx=>if x.f.num=(a:Int) then jI x else 0)).sum=(match fh b a with|none=>0|some x=>60+30* (cG x.2:Int))
 |[],_=>by simp[fh]
 |x::b,e=>by
  have e:=rU.1 e;have l:=G0 a b e.2;rw[oC,wZ];by_cases d:x.f.num=(a:Int)
  .have j:∀ys:List aB,(∀c∈ys,x.f.num<c.f.num)->(ys.map (λx=>if x.f.num=(a:Int) then jI x else 0)).sum=0:=by
    intro ys
    induction ys with
    |nil=>intro _;rfl
    |cons c ys n=>
     intro hy;rw[oC,wZ,n (λo j=>hy o (by simp[j])),f (by have:=hy c (by simp);omega)];rfl
   rw[j b e.1,D d];have i:fh (x::b) a=E (x.f.c.at x.f.ep,x.f.Y):=by
    unfold fh;rw[mi];simp[d]
   rw[i];show jI x+0=60+30* (cG x.f.Y:Int);have p:(x.f.Y.length:Int) - (ew x.f.Y:Int)=(cG x.f.Y:Int):=by
    have:ew x.f.Y+cG x.f.Y=x.f.Y.length:=GZ x.f.Y;omega
   unfold jI;omega
  .rw[f d];have i:fh (x::b) a=fh b a:=by
    unfold fh;have k:(x.f.num==(a:Int))=false:=by simpa using d
    rw[mi,k]
   rw[i,<-l];omega
theorem Sj(b c d:aB->Int)(a:List aB)(e:∀x,b x=c x+d x):(a.map b).sum=(a.map c).sum+(a.map d).sum:=by
 induction a with
 |nil=>rfl
 |cons x a i=>simp only[oC,wZ,i,e];omega
theorem G3(d:Nat->Option (O×List z))(b:List aB)(e:dC b d):∀a,a<=21->fH d a=200+(b.map (λx=>if x.f.num<(a:Int) then jI x else 0)).sum
 |0,_=>by
  have:(b.map (λx=>if x.f.num<((0:Nat):Int) then jI x else 0)).sum=0:=by
   have i:∀ys:List aB,(∀c∈ys,1<=c.f.num)->(ys.map (λx=>if x.f.num<((0:Nat):Int) then jI x else 0)).sum=0:=by
    intro ys
    induction ys with
    |nil=>intro _;rfl
    |cons c ys p=>
     intro hy;rw[oC,wZ,p (λr i=>hy r (by simp[i])),f (by have:=hy c (by simp);omega)];rfl
   exact i b (λc hy=>(e.iw c hy).1)
  rw[this];rfl
 |a+1,s=>by
  have o:=G3 d b e a (by omega);have k:=G0 a b e.sort;rw[<-e.eq a (by omega)] at k
  have n:=Sj (λx=>if x.f.num<((a+1:Nat):Int) then jI x else 0) (λx=>if x.f.num<(a:Int) then jI x else 0) (λx=>if x.f.num=(a:Int) then jI x else 0) b (λx=>by
   by_cases j:x.f.num=(a:Int)
   .rw[D (by omega),f (by omega),D j];omega
   .by_cases l:x.f.num<(a:Int)
    .rw[D (by omega),D l,f j];omega
    .rw[f (by omega),f l,f j];omega)
  unfold fH;rw[n,k,o]
  cases d a with
  |none=>simp only;omega
  |some x=>simp only;omega
theorem dC.weight{a:List aB}(b:dC a N):cO a=fH N 21:=by
 rw[G3 N a b 21 (by omega)];unfold cO;congr 2;apply List.map_congr_left;intro d c;rw[D (by have:=(b.iw d c).2;omega)]
theorem AL:∀(c:List (List aD)) (b:List aD) (a:Int),dN a (c++[b])=dN a c++aT (kh a c) b
 |[],b,a=>by simp[dN,kh]
 |x::c,b,a=>by
  show aT a x++dN (ij a x) (c++[b])=_;rw[AL c b];simp[dN,kh]
theorem lh.snoc:∀ {c:List (List aD)} {b:List aD} {a:Int},lh a c->eY (kh a c) b->b.length<9223372036854775808->lh a (c++[b])
 |[],b,a,_,d,e=>⟨⟨d,e⟩,trivial⟩
 |x::c,b,a,i,d,e=>⟨i.1,lh.snoc i.2 d e⟩
theorem AM:∀(c:List (List aD)) (b:List aD) (a:Int),kh a (c++[b])=ij (kh a c) b
 |[],b,a=>rfl
 |x::c,b,a=>AM c b (ij a x)
theorem G4{fl':aQ}(hd:br w p R=(0,Q,fl')):ib w (aP w R)=Q:=by
 have d:R.kind=8->Q=w+R.time:=λa=>by
  unfold br at hd;rw[f (by omega),D a] at hd;split at hd
  .injection hd with _ hd;injection hd with b _;exact b.symm
  .exact absurd hd (by simp)
 have e:R.kind≠8->Q=w:=λa=>by
  unfold br at hd
  repeat' split at hd
  all_goals first
   |contradiction
   |(injection hd with i c;injection c with c j;omega)
 unfold ib;by_cases a:R.kind=8
 .have b:(aP w R).kind=6:=by unfold aP;simp[a]
  rw[D b,d a];rfl
 .have b:(aP w R).kind≠6:=by
   unfold aP;simp only
   repeat' split
   all_goals omega
  rw[f b,e a]
structure qo (T:aH) (f:Nat) (now:Int) (fl:aQ) (rs:List (List aD)) (t:List Int):Prop where
 jz:f<2
 fit:lh 0 rs
 jA:ki 0 gJ rs.flatten now fl
 time:kh 0 rs=now
 eq:T.b f=dN 0 rs++t
 low:(dN 0 rs).length<=T.last f
 fU:T.b 2=[]
 kQ:T.b 3=[]
def qp(b:Int)(a:List Int):Prop:=a≠[]/\ix b a=J
structure dW (T:aH) (f:Nat) (torn:Bool) (now:Int) (fl:aQ) (B:Int):Prop where
 ex:∃rs t,qo T f now fl rs t/\(torn=false->t=[])/\(torn=true->qp now t)
 tB:T.b (1 - f)=[]
 last:T.last f=(T.b f).length
 size:((T.b f).length:Int)<=B
def tC(a:aH)(b:Nat)(d:Int)(c:aQ):Prop:=a.b b=[]\/(qp 0 (a.b b)/\a.last b=(a.b b).length)\/(a.b b=aT 0 (fD d c)/\fD d c≠[])
structure eU (T:aH) (now:Int) (fl:aQ) (mb:Option (Int×aQ)) (B C:Int):Prop where
 ex:∃f rs t,qo T f now fl rs t/\((T.b f).length:Int)<=B/\((T.b (1 - f)).length:Int)<=C/\
  (((t=[]\/(qp now t/\T.last f=(T.b f).length))/\tC T (1 - f) now fl)\/
   (∃c now' fl',mb=E (now',fl')/\br now fl c=(0,now',fl')/\t=aT now [aP now c]/\T.b (1 - f)=[]))
theorem dW.jz{B:Int}(a:dW W S n w p B):S<2:=by
 obtain⟨c,d,b,_⟩:=a.ex;exact b.jz
theorem dW.close{B C:Int}(a:dW W S n w p B)(e:0<=C)(i:Option (Int×aQ)):eU W w p i B C:=by
 obtain⟨j,k,b,c,d⟩:=a.ex;refine⟨S,j,k,b,a.size,by rw[a.tB];exact e,.inl ⟨?_,.inl a.tB⟩⟩
 cases n with
 |false=>exact .inl (c rfl)
 |true=>exact .inr ⟨d rfl,a.last⟩
theorem dW.used{B:Int}(b:dW W S n w p B):W.used=(W.b S).length:=by
 obtain⟨i,j,a,_⟩:=b.ex;have:=b.tB;have c:=a.fU;have d:=a.kQ;unfold aH.used;have e:=a.jz;have:S=0\/S=1:=by omega
 obtain rfl|rfl:=this
 .rw[show(1 - 0:Nat)=1 from rfl] at *;simp[*]
 .rw[show(1 - 1:Nat)=0 from rfl] at *;simp[*]
theorem dW.zero(d:Int)(b:Int){B:Int}(c:0<=B):dW ⟨λ_=>[],λ_=>0,d,b⟩ 0 false 0 gJ B:=
 ⟨⟨[],[],⟨by omega,trivial,⟨rfl,rfl⟩,rfl,rfl,cz _,rfl,rfl⟩,λ_=>rfl,λa=>(by cases a)⟩,rfl,rfl,by simpa using c⟩
theorem dW.fuse{B:Int}(b:dW W S n w p B)(k:Int):dW (uZ W k) S n w p B:=by
 obtain⟨⟨l,o,a,c,d⟩,e,i,j⟩:=b;exact⟨⟨l,o,⟨a.jz,a.fit,a.jA,a.time,a.eq,a.low,a.fU,a.kQ⟩,c,d⟩,e,i,j⟩
theorem eU.fuse{B C:Int}(c:eU W w p i B C)(k:Int):eU (uZ W k) w p i B C:=by
 obtain⟨b,l,n,a,d,e,j⟩:=c.ex;exact⟨b,l,n,⟨a.jz,a.fit,a.jA,a.time,a.eq,a.low,a.fU,a.kQ⟩,d,e,j⟩
theorem dW.more{B:Int}(a:dW W S n w p B)(b:B<=Q):dW W S n w p Q:=⟨a.ex,a.tB,a.last,G5 a.size b⟩
theorem eU.more{B C:Int}(b:eU W w p i B C)(k:B<=Q)(l:C<=P):eU W w p i Q P:=by
 obtain⟨a,n,o,c,d,e,j⟩:=b.ex;exact⟨a,n,o,c,G5 d k,G5 e l,j⟩
theorem qo.lay{T':aH}{fl':aQ}{b:List (List aD)}(a:qo W S w p b [])(hF:cJ P w p)(hd:br w p R=(0,Q,fl'))(i:T'.b S=W.b S++aT w [aP w R])(k:T'.last S=(W.b S++aT w [aP w R]).length)(d:T'.b 2=[])(e:T'.b 3=[]):qo T' S Q fl' (b++[[aP w R]]) []:=by
 have j:=xT hF hd;have c:dN 0 (b++[[aP w R]])=W.b S++aT w [aP w R]:=by
  rw[AL,a.time,a.eq];simp
 refine⟨a.jz,lh.snoc a.fit ⟨by rw[a.time];exact j,trivial⟩ (by simp),?_,?_,by rw[i,c];simp,by rw[c,k];exact cz _,d,e⟩
 .rw[Sk];exact xP _ a.jA (xQ (.inl ⟨R,rfl,hd⟩))
 .rw[AM,a.time];exact G4 hd
structure AO (K K':bU) (e:Int) (now now':Int) (fl fl':aQ) (B C:Int):Prop where
 ok:e=0->K'.live=true/\dW K'.T K'.file K'.torn now' fl' (B+60)
 space:e=15->K'.live=true/\dW K'.T K'.file K'.torn now fl B/\K.T.ay<B+C+60
 dead:e=16->K'.live=false/\K'.T.fuse=0/\eU K'.T now fl (E (now',fl')) (B+60) C
 err:e=0\/e=15\/e=16
 ay:K'.T.ay=K.T.ay
 tb:K'.tb=K.tb
theorem G6{fl':aQ}{B C:Int}(i:dW v.T v.file v.torn w p B)(G:v.live=true)(r:v.torn=false)(hF:cJ P w p)(hd:br w p R=(0,Q,fl'))(k:0<=C):AO v (iW v (aT w [aP w R])).2 (iW v (aT w [aP w R])).1 w Q p fl' B C:=by
 have I:=Ah w R;have N:=zt ((xT hF hd).c (by omega));have S:=i.used;have y:=(i.close k (E (Q,fl'))).more (show B<=B+60 by omega) (rF C);have A:=i;obtain⟨⟨H,T,c,s,_⟩,o,M,O⟩:=i;obtain rfl:=s r;have z:=c.jz;unfold iW;rw[f (by simp[G])];simp only;obtain⟨a,b⟩|⟨a,b,j⟩|⟨a,j,b⟩:=QU v.T v.file (aT w [aP w R])
 .rw[a];generalize (iq v.T v.file (aT w [aP w R])).2=d at *;have e:d.b v.file=v.T.b v.file++aT w [aP w R]:=by rw[b.b,D rfl]
  have n:d.last v.file=(v.T.b v.file++aT w [aP w R]).length:=by rw[b.last,D rfl]
  have x:=c.lay (T':=d) hF hd e n (by rw[b.b,f (by omega)];exact c.fU) (by rw[b.b,f (by omega)];exact c.kQ);refine⟨λ_=>⟨by simp,⟨_,[],x,λ_=>rfl,λa=>?_⟩,?_,?_,?_⟩,λa=>by omega,λa=>by omega,.inl rfl,b.ay,rfl⟩
  .have a:v.torn=true:=a;rw[r] at a;cases a
  .show d.b (1 - v.file)=[];rw[b.b,f (by omega)];exact o
  .show d.last v.file=(d.b v.file).length;rw[n,e]
  .show((d.b v.file).length:Int)<=B+60;rw[e,bG];omega
 .rw[a,b];refine⟨λa=>by omega,λ_=>⟨by simp,A,by omega⟩,λa=>by omega,.inr (.inl rfl),rfl,rfl⟩
 .rw[a];generalize (iq v.T v.file (aT w [aP w R])).2=d at *;obtain rfl|b:=b
  .exact⟨λa=>by omega,λa=>by omega,λ_=>⟨by simp,j,y⟩,.inr (.inr rfl),rfl,rfl⟩
  .have e:d.b v.file=v.T.b v.file++aT w [aP w R]:=by rw[b.b,D rfl]
   have l:d.b (1 - v.file)=[]:=by rw[b.b,f (by omega)];exact o
   refine⟨λa=>by omega,λa=>by omega,λ_=>⟨by simp,j,⟨v.file,H,aT w [aP w R],⟨z,c.fit,c.jA,c.time,by rw[e,c.eq];simp,by rw[b.last,D rfl];exact c.low,by rw[b.b,f (by omega)];exact c.fU,by rw[b.b,f (by omega)];exact c.kQ⟩,?_,?_,.inr ⟨R,Q,fl',rfl,hd,rfl,l⟩⟩⟩,.inr (.inr rfl),b.ay,rfl⟩
   .rw[e,bG];omega
   .rw[l];exact k
theorem G7{B C:Int}(l:dW W S n w p B)(hF:cJ Q w p)(x:((a9 w p).length:Int)<=C)(R:∀y,y<4->W.last y<=(W.b y).length):((cU W S (a9 w p)).1=0/\dW (cU W S (a9 w p)).2 (1 - S) false w p C/\(cU W S (a9 w p)).2.ay=W.ay)\/((cU W S (a9 w p)).1=15/\(cU W S (a9 w p)).2=W/\W.ay<B+C)\/
  ((cU W S (a9 w p)).1=16/\(cU W S (a9 w p)).2.fuse=0/\(cU W S (a9 w p)).2.ay=W.ay/\∀z,eU (cU W S (a9 w p)).2 w p z B C):=by
 have A:=l.jz;have ai:=l.used;have P:0<=C:=by omega
 have T:=l.close P;have r:=GV hF;have X:=tA hF;have aa:=GW hF;have Z:=qm w p 21;rw[lB] at Z;obtain⟨⟨ag,ah,c,N,O⟩,o,Y,ab⟩:=l;obtain⟨b,i,ae,af⟩|⟨b,a,M⟩|⟨b,M,a⟩:=Gm W A (a9 w p)
 .refine .inl ⟨b,?_,af⟩;generalize (cU W S (a9 w p)).2=j at *;have d:j.b (1 - S)=a9 w p:=by rw[i,f (by omega),D rfl,o];rfl
  have v:j.last (1 - S)=(a9 w p).length:=by
   rw[ae,f (by omega),D rfl];by_cases e:a9 w p=[]
   .have:=R (1 - S) (by omega);rw[o] at this;simp only[iR] at this;rw[D e,e];simp only[iR];omega
   .rw[f e,o];rfl
  by_cases e:fD w p=[]
  .have k:a9 w p=[]:=by unfold a9;rw[D e]
   rw[e] at r;refine⟨⟨[],[],⟨by omega,trivial,r,?_,by rw[d,k];rfl,gr _,?_,?_⟩,λ_=>rfl,λb=>by cases b⟩,?_,by rw[v,d],by rw[d];exact x⟩
   .exact r.1.symm
   .rw[i,f (by omega),f (by omega)];exact c.fU
   .rw[i,f (by omega),f (by omega)];exact c.kQ
   .rw[show 1 - (1 - S)=S by omega,i,D rfl]
  .have k:a9 w p=aT 0 (fD w p):=by unfold a9;rw[f e]
   have H:dN 0 [fD w p]=a9 w p:=by rw[k];simp[dN]
   refine⟨⟨[fD w p],[],⟨by omega,⟨⟨X,by omega⟩,trivial⟩,by simpa using r,aa,by rw[d,H];simp,by rw[H,v];exact cz _,?_,?_⟩,λ_=>rfl,λb=>by cases b⟩,?_,by rw[v,d],by rw[d];exact x⟩
   .rw[i,f (by omega),f (by omega)];exact c.fU
   .rw[i,f (by omega),f (by omega)];exact c.kQ
   .rw[show 1 - (1 - S)=S by omega,i,D rfl]
 .exact .inr (.inl ⟨b,a,by omega⟩)
 .refine .inr (.inr ⟨b,M,?_,?_⟩)
  .obtain a|⟨_,ad,a⟩:=a
   .rw[a]
   .exact a.ay
  .generalize (cU W S (a9 w p)).2=j at *;intro z;obtain rfl|⟨e,ad,a⟩:=a
   .exact T z
   .have d:j.b (1 - S)=a9 w p:=by rw[a.b,D rfl,o];rfl
    have s:j.b S=W.b S:=by rw[a.b,f (by omega)]
    have G:j.last S=W.last S:=by rw[a.last,f (by omega)]
    have I:fD w p≠[]:=λb=>e (by unfold a9;rw[D b]);have k:a9 w p=aT 0 (fD w p):=by unfold a9;rw[f I]
    refine⟨S,ag,ah,⟨A,c.fit,c.jA,c.time,by rw[s];exact c.eq,by rw[G];exact c.low,by rw[a.b,f (by omega)];exact c.fU,by rw[a.b,f (by omega)];exact c.kQ⟩,by rw[s];exact ab,by rw[d];exact x,.inl ⟨?_,.inr (.inr ⟨by rw[d,k],I⟩)⟩⟩
    cases n with
    |false=>exact .inl (N rfl)
    |true=>exact .inr ⟨O rfl,by rw[s,G];exact Y⟩
theorem Sm{fl':aQ}{B C:Int}(e:dW v.T v.file v.torn w p B)(c:v.live=true)(hF:cJ P w p)(hd:br w p R=(0,Q,fl'))(z:((a9 w p).length:Int)<=C)(x:C<=B)(y:∀j,j<4->v.T.last j<=(v.T.b j).length):AO v (eg v (a9 w p) (aT w [aP w R])).2 (eg v (a9 w p) (aT w [aP w R])).1 w Q p fl' B C:=by
 have o:0<=C:=by omega
 unfold eg;by_cases i:v.torn=true
 .rw[D i,GC c];simp only;obtain⟨a,b,d⟩|⟨a,b,d⟩|⟨a,d,I,b⟩:=G7 e hF z y
  .rw[D a];have k:(dD v (cU v.T v.file (a9 w p))).live=true:=by unfold dD;simp[a]
   have r:(dD v (cU v.T v.file (a9 w p))).torn=false:=by unfold dD;simp[a]
   have A:(dD v (cU v.T v.file (a9 w p))).file=1 - v.file:=by unfold dD;simp[a]
   have G:(dD v (cU v.T v.file (a9 w p))).T=(cU v.T v.file (a9 w p)).2:=rfl;have H:(dD v (cU v.T v.file (a9 w p))).tb=v.tb:=rfl;rw[<-G] at b d;rw[<-A] at b;generalize dD v (cU v.T v.file (a9 w p))=S at *;obtain⟨s,l,n,M,N,O⟩:=G6 (by rw[r];exact b) k r hF hd o
   exact⟨λa=>⟨(s a).1,(s a).2.more (by omega)⟩,λa=>⟨(l a).1,(l a).2.1.more x,by have:=(l a).2.2;omega⟩,λa=>⟨(n a).1,(n a).2.1,(n a).2.2.more (by omega) (rF _)⟩,M,by rw[N,d],by rw[O,H]⟩
  .rw[f (by omega),a];have k:(dD v (cU v.T v.file (a9 w p)))=v:=by
    unfold dD;rw[b,a];obtain⟨T,W,R,X,Y⟩:=v;simp only at c;subst c;rfl
   rw[k];exact⟨λa=>by omega,λ_=>⟨c,e,by omega⟩,λa=>by omega,.inr (.inl rfl),rfl,rfl⟩
  .rw[f (by omega),a];exact⟨λa=>by omega,λa=>by omega,λ_=>⟨by unfold dD;simp[a],d,(b _).more (by omega) (rF _)⟩,.inr (.inr rfl),I,rfl⟩
 .rw[f i];exact G6 e c (by simpa using i) hF hd o
structure Sn (K K':bU) (e:Int) (now:Int) (fl:aQ) (B C:Int):Prop where
 ok:e=0->K'.live=true/\dW K'.T K'.file K'.torn now fl C
 space:e=15->K'.live=true/\dW K'.T K'.file K'.torn now fl B/\K.T.ay<B+C
 dead:e=16->K'.live=false/\K'.T.fuse=0/\∀mb,eU K'.T now fl mb B C
 err:e=0\/e=15\/e=16
 ay:K'.T.ay=K.T.ay
 tb:K'.tb=K.tb
theorem G8{B C:Int}(b:dW v.T v.file v.torn w p B)(c:v.live=true)(hF:cJ Q w p)(l:((a9 w p).length:Int)<=C)(k:∀i,i<4->v.T.last i<=(v.T.b i).length):Sn v (gM w p v).2 (gM w p v).1 w p B C:=by
 unfold gM;rw[f (by simp[c])];by_cases j:(v.T.b v.file).length<=(a9 w p).length
 .rw[D j];exact⟨λ_=>⟨c,⟨b.ex,b.tB,b.last,by show((v.T.b v.file).length:Int)<=C;omega⟩⟩,λa=>by omega,λa=>by omega,.inl rfl,rfl,rfl⟩
 .rw[f j];simp only;obtain⟨a,d,e⟩|⟨a,d,e⟩|⟨a,e,s,d⟩:=G7 b hF l k
  .rw[a];refine⟨λ_=>⟨by unfold dD;simp[a],?_⟩,λa=>by omega,λa=>by omega,.inl rfl,e,rfl⟩;have o:(dD v (cU v.T v.file (a9 w p))).torn=false:=by unfold dD;simp[a]
   have r:(dD v (cU v.T v.file (a9 w p))).file=1 - v.file:=by unfold dD;simp[a]
   rw[o,r];exact d
  .rw[a];have n:(dD v (cU v.T v.file (a9 w p)))=v:=by
    unfold dD;rw[d,a];obtain⟨x,y,z,A,G⟩:=v;simp only at c;subst c;rfl
   rw[n];exact⟨λa=>by omega,λ_=>⟨c,b,e⟩,λa=>by omega,.inr (.inl rfl),rfl,rfl⟩
  .rw[a];exact⟨λa=>by omega,λa=>by omega,λ_=>⟨by unfold dD;simp[a],e,d⟩,.inr (.inr rfl),s,rfl⟩
theorem G9{b:List aD}(r:eY w b)(x:b.length<9223372036854775808)(i:List Int)(e:Nat)(k:Int){a:Nat}(s:a<=(aT w b).length):iM i e k (aT w b) a=[]\/qp w (iM i e k (aT w b) a)\/iM i e k (aT w b) a=aT w b:=by
 have B:=Ax i e (aT w b).length a s;have A:(aT w b).length=(nZ w b).length+1:=by rw[xr,bG];rfl
 have piece:∀(c:Nat) (j:Int),c<(aT w b).length->((aT w b).take c++[j]=aT w b)\/qp w ((aT w b).take c++[j]):=λc j z=>by
  by_cases n:c<(nZ w b).length\/(c=(nZ w b).length/\j≠229)
  .exact .inr ⟨by simp,O1 r x n⟩
  .refine .inl ?_;have o:c=(nZ w b).length:=by omega
   have y:j=229:=by
    by_cases d:j=229
    .exact d
    .exact absurd (.inr ⟨o,d⟩) n
   rw[o,y,xr,zV (cz _),fN]
 unfold iM;by_cases l:iK i e (aT w b).length a=0
 .rw[D l];by_cases v:a=0
  .subst v;exact .inl (by simp)
  .obtain⟨c,rfl⟩:∃c,a=c+1:=⟨a - 1,by omega⟩;have p:(aT w b).take (c+1)=(aT w b).take c++[(aT w b)[c]'(by omega)]:=by rw[Dv (by omega)]
   rw[p];obtain d|d:=piece c _ (by omega)
   .exact .inr (.inr d)
   .exact .inr (.inl d)
 .rw[f l];obtain d|d:=piece (a+iK i e (aT w b).length a - 1) (bits BinOp.xor .u8 ((aT w b).getD (a+iK i e (aT w b).length a - 1) 0) k) (by omega)
  .exact .inr (.inr d)
  .exact .inr (.inl d)
theorem So(d:List Int)(c:Nat)(j:Int)(b e:List Int)(a:Nat):iM d c j (b++e) (b.length+a)=b++iM d c j e a:=by
 have l:iK d c (b++e).length (b.length+a)=iK d c e.length a:=by
  unfold iK;rw[bG];split
  .congr 2;omega
  .rfl
 unfold iM;rw[l];by_cases i:iK d c e.length a=0
 .rw[D i,D i,Sp]
 .rw[f i,f i];have k:b.length+a+iK d c e.length a - 1=b.length+(a+iK d c e.length a - 1):=by omega
  rw[k,Sp,cQ];congr 3;simp only[qR];rw[tS (by omega)];simp
theorem xU(c:List Int)(b:Nat)(e:Int)(a:List Int):iM c b e a a.length=a:=by
 have d:iK c b a.length a.length=0:=by
  unfold iK;split<;>omega
 unfold iM;rw[D d,fN]
theorem G'(d:List Int)(c:Nat)(i:Int)(a:List Int)(b:Nat)(e:b<=a.length):(iM d c i a b).length<=a.length:=by
 have j:=Ax d c a.length b e;unfold iM;split
 .rw[eO];omega
 .rw[bG,eO];simp only[eL,iR];omega
theorem xV(c:List Int)(b:Nat)(d:Int)(a:Nat)(e:a<=0):iM c b d [] a=[]:=by
 obtain rfl:a=0:=by omega
 exact xU c b d []
theorem eU.oh{B C:Int}(aa:eU W w p i B C)(hF:cJ Q w p)(A:∀d,d<4->W.last d<=(W.b d).length)(b:List Int)(c:Int):eU (kp W b c) w p i B C:=by
 obtain⟨a,l,T,e,ap,ar,am⟩:=aa.ex;have ag:=e.jz;have ai:=tA hF;have ak:=qm w p 21;rw[lB] at ak;have k:∀d,d<4->(kp W b c).b d=iM b d c (W.b d) (W.last d):=λd hi=>D hi;have z:∀d,d<4->(kp W b c).last d=((kp W b c).b d).length:=λd hi=>by
  rw[k d hi];exact D hi
 have ab:(kp W b c).b 2=[]:=by
  rw[k 2 (by omega),e.fU];have:=A 2 (by omega);rw[e.fU] at this;exact xV _ _ _ _ (by simpa using this)
 have ad:(kp W b c).b 3=[]:=by
  rw[k 3 (by omega),e.kQ];have:=A 3 (by omega);rw[e.kQ] at this;exact xV _ _ _ _ (by simpa using this)
 have G:=A a (by omega);have r:=A (1 - a) (by omega);have v:(((kp W b c).b a).length:Int)<=B:=by
  rw[k a (by omega)];have:=G' b a c (W.b a) (W.last a) G;omega
 have x:(((kp W b c).b (1 - a)).length:Int)<=C:=by
  rw[k (1 - a) (by omega)];have:=G' b (1 - a) c (W.b (1 - a)) (W.last (1 - a)) r;omega
 have main:∀O,(kp W b c).b a=dN 0 l++O->qo (kp W b c) a w p l O:=λO n=>
  ⟨ag,e.fit,e.jA,e.time,n,by rw[z a (by omega),n,bG];omega,ab,ad⟩
 have S:tC W (1 - a) w p->tC (kp W b c) (1 - a) w p:=λo=>by
  unfold tC;rw[z (1 - a) (by omega),k (1 - a) (by omega)];obtain n|⟨n,N⟩|⟨n,N⟩:=o
  .left;rw[n] at r ⊢;exact xV _ _ _ _ (by simpa using r)
  .right;left;rw[N,xU];exact⟨n,rfl⟩
  .rw[n] at r ⊢;obtain j|j|j:=G9 ai (by omega) b (1 - a) c r
   .exact .inl j
   .exact .inr (.inl ⟨j,rfl⟩)
   .exact .inr (.inr ⟨j,N⟩)
 obtain⟨M,o⟩|⟨s,ao,Z,X,hd,Y,P⟩:=am
 .obtain rfl|⟨M,aj⟩:=M
  .refine⟨a,l,[],main [] ?_,v,x,.inl ⟨.inl rfl,S o⟩⟩;have H:=e.eq;rw[dG] at H;have au:=e.low;rw[k a (by omega),dG];have:W.last a=(W.b a).length:=by rw[H] at G ⊢;omega
   rw[this,xU,H]
  .refine⟨a,l,T,main T ?_,v,x,.inl ⟨.inr ⟨M,z a (by omega)⟩,S o⟩⟩;rw[k a (by omega),aj,xU];exact e.eq
 .subst Y;have ah:eY w [aP w s]:=⟨xT hF hd,trivial⟩;have R:=e.eq;obtain⟨y,ae⟩:∃y,W.last a=(dN 0 l).length+y:=⟨W.last a - (dN 0 l).length,by have:=e.low;omega⟩;have af:y<=(aT w [aP w s]).length:=by rw[R,bG] at G;omega
  have I:(kp W b c).b a=dN 0 l++iM b a c (aT w [aP w s]) y:=by
   rw[k a (by omega),R,ae,So]
  have o:(kp W b c).b (1 - a)=[]:=by
   rw[k (1 - a) (by omega),P];rw[P] at r;exact xV _ _ _ _ (by simpa using r)
  obtain j|j|j:=G9 ah (by simp) b a c af
  .refine⟨a,l,[],main [] (by rw[I,j]),v,x,.inl ⟨.inl rfl,.inl o⟩⟩
  .refine⟨a,l,_,main _ I,v,x,.inl ⟨.inr ⟨j,z a (by omega)⟩,.inl o⟩⟩
  .refine⟨a,l,aT w [aP w s],main _ (by rw[I,j]),v,x,.inr ⟨s,ao,Z,X,hd,rfl,o⟩⟩
theorem Sq{w:U}{a1 a2:Option Addr}{a c1 c2:Nat}{r1 k1 r2 k2:Int}{m1 m2:Bool}(p:Q≠P)(v:S<=120/\a<=120):Calls h 65 #[t #[C a1 S c1,F K r1,F K k1,F K Q,L m1],t #[C a2 a c2,F K r2,F K k2,F K P,L m2]] w λo w'=>o=q (L false)/\G No w w':=by
 have d:=l (((G.refl No w).alloc (m #[C a1 S c1,F K r1,F K k1,F K Q,L m1] 146)).alloc (m #[C a2 a c2,F K r2,F K k2,F K P,L m2] 146));have i:=l ((X.new w #[C a1 S c1,F K r1,F K k1,F K Q,L m1] 146).alloc (m #[C a2 a c2,F K r2,F K k2,F K P,L m2] 146));have e:=l (X.new (w.alloc (m #[C a1 S c1,F K r1,F K k1,F K Q,L m1] 146)) #[C a2 a c2,F K r2,F K k2,F K P,L m2] 146)
 have s:(Q !=P)=true:=by simpa using p
 go_enter func65,ntmps65;rw[bW] at e;go_upto_region 1 with fail;generalize (w.alloc (m #[C a1 S c1,F K r1,F K k1,F K Q,L m1] 146)).alloc (m #[C a2 a c2,F K r2,F K k2,F K P,L m2] 146)=c at *;generalize w.heap.size+1=k at *;generalize w.heap.size=j at *;have x:c.cell? (u j 0 J)=E (C a1 S c1):=(b i).T 0;have y:c.cell? (u j 3 J)=E (F K Q):=(b i).T 3;have z:c.cell? (u j 4 J)=E (L m1):=(b i).T 4
 have A:=(b i).lt;have B:c.cell? (u k 0 J)=E (C a2 a c2):=(b e).T 0;have H:c.cell? (u k 3 J)=E (F K P):=(b e).T 3;have I:c.cell? (u k 4 J)=E (L m2):=(b e).T 4;have M:=(b e).lt;by_cases n:S=a
 .have r:((S:Int) !=(a:Int))=false:=by simp[n]
  subst n
  cases m1 with
  |true=>
   cases m2 with
   |true=>go_wp2;go_ret;exact⟨rfl,b d⟩
   |false=>go_wp2;go_ret;exact⟨rfl,b d⟩
  |false=>
   cases m2 with
   |true=>go_wp2;go_ret;exact⟨rfl,b d⟩
   |false=>go_wp2;go_ret;exact⟨rfl,b d⟩
 .have r:((S:Int) !=(a:Int))=true:=by simp;omega
  go_wp2;go_ret;exact⟨rfl,b d⟩
end Go.Proofs.YthhibagcpjeihaaGreat
