import Derived.Test.YthhibagcpjeihaaGreatW3
import Derived.Test.YthhibagcpjeihaaGreatW2
open Go.Proofs.Tryz
open Go.Addr renaming mk->u,add_mid->dE
open Go.Value renaming int->F,pointer->g,slice->C,bool->L,agg->t,tuple->aq,ownBlock->aV
open Go.IntKind renaming i64->K
open Option renaming none->J,some->E
open Go renaming World->U,Value->V
open Go.Proofs.Tryz renaming prog->h,underlying162->oA
open Go.Ending renaming returned->q
open Go.Obj renaming cells->m
open Go.Act renaming eval->aM
open Go.Region renaming wanted->jD
open Go.Instr renaming lookup->ji,index->iQ
open Go.Oper renaming wp->gu
set_option linter.unusedVariables false
set_option linter.unusedSimpArgs false
set_option maxRecDepth 100000
set_option maxHeartbeats 4000000
namespace Go.Proofs.YthhibagcpjeihaaGreat
open Go.RowKit
open Go.ChangeMaps (setBlock)
open M
theorem CT(d:Nat)(b:Array V)(j:TypeId)(R C:Int)(c:U)(a:X c d b j)(e:b[0]? =E (F K R))(i:b[1]? =E (F K C))(p:K.wrap (R* C)=R* C):Calls h 112 #[g (E (u d 0 J))] c λn w'=>n=q (F K (R* C))/\G No c w':=by
 have k:=a.T 0;have l:=a.T 1;rw[e] at k;rw[i] at l;have o:=a.lt;clear a e i;go_enter func112,ntmps112;go_wp2;go_quiet (fail);go_wp2;go_ret;exact⟨rfl,(G.refl _ _).drewN _⟩
theorem wu(d:Nat)(e:Array V)(j:TypeId)(C a:Nat)(c:U)(b:X c d e j)(i:e[1]? =E (F K (C:Int)))(s:1<=C/\C<=6)(v:a<=1000):Calls h 113 #[g (E (u d 0 J)),F K (a:Int)] c λl w'=>l=q (t #[F K ((a:Int) / C+1),F K ((a:Int) % C+1)])/\G No c w':=by
 have k:=b.T 1;rw[i] at k;have w:=b.lt;have d0:(C:Int)≠0:=by omega
 have t1:Int.tdiv (a:Int) C=(a:Int) / C:=wv (by omega);have t2:Int.tmod (a:Int) C=(a:Int) % C:=ux (by omega);have n:0<=(a:Int) / C:=Int.ediv_nonneg (by omega) (by omega);have o:(a:Int) / C<=a:=Int.ediv_le_self _ (by omega);have p:0<=(a:Int) % C:=yi _ d0;have r:(a:Int) % C<C:=yj _ (by omega);have x:K.wrap ((a:Int) / C)=(a:Int) / C:=bh _ (by omega) (by omega)
 have y:K.wrap ((a:Int) % C)=(a:Int) % C:=bh _ (by omega) (by omega);have w3:K.wrap ((a:Int) / C+1)=(a:Int) / C+1:=bh _ (by omega) (by omega);have z:K.wrap ((a:Int) % C+1)=(a:Int) % C+1:=bh _ (by omega) (by omega);clear b i;go_enter func113,ntmps113;go_wp2;go_region
 all_goals go_wp2
 all_goals go_returns
 all_goals exact⟨rfl,((G.refl _ _).alloc _).drew⟩
open Go.RowKit Go.WideMaps
theorem KZ(d:U)(i:Nat)(c:List az)(j:Nat)(l:d.heap[i]? =E (cX c j))(x:gq c j)(b a:Int)(v:0<=b/\b<=1000)(p:0<=a/\a<=1000):(ji 162 (.map (E i)) (iB b a) true).run h d=.ok (aq #[dP (eZ c b a).1 (eZ c b a).2.1 (eZ c b a).2.2.1 (eZ c b a).2.2.2,L (c.findIdx? (az.is b a)).isSome]) d:=by
 obtain⟨B,y⟩:=rQ b a v p;have o:=λw=>rO.check d w y;have e:=vx d c j x b a v p;unfold cX at l;have r:(getObj i).run h d=.ok (.map (c.map az.obj).toArray j) d:=by simp[getObj,Sem.run,l]
 have z:∀n,(setObj i n).run h d=.ok () (setBlock d i n):=λn=>by simp[setObj,Sem.run,l,setBlock]
 rw[eZ,tN]
 cases k:c.findIdx? (az.is b a) with
 |none=>
  rw[k] at e;simp[ji,jj oA,r,o,e,vz,dP]
 |some A=>
  have s:=(jC.1 k).1;rw[k] at e;simp[s] at e;simp[ji,jj oA,r,o,e,vz,s]
def K0(l:U)(e:Nat)(j c b i d k:Int):Prop:=
 ∀a,G No l a->(ji 162 (.map (E e)) (t #[F K j,F K c]) true).run h a=.ok (aq #[t #[F K b,F K i,F K d,F K k],L (b !=0)]) a
variable {k:U} {w Q P p:Nat} {I:List z} {j:List az} {S:List Int} {o:Nat->Prop} {v:Int}
theorem CU{p:O}(o:k.heap[w]? =E (cX j Q))(r:gq j Q)(hrel:lK j p I)(b:aJ p I)(a:Nat)(hi:a<I.length):K0 k w I[a].row I[a].ae I[a].st I[a].pa I[a].cl I[a].un:=λl n=>by
 have s:=(b.kU hi).1;simp only[O.e,eA] at s;obtain⟨c,d,e,i,_⟩:=b.bounds;simp only at c d e i;have:=KZ l w j Q (n.map o (λv=>v)) r I[a].row I[a].ae (by omega) (by omega);rw[hrel.dX a hi,Cj hrel hi] at this;exact this
def qU(a:z):List V:=[F K a.st,F K a.pa,F K a.cl,F K a.un]
theorem K5(a:z):(qU a).length=4:=rfl
theorem K7:(h.info? 199).map (λa=>(a.zero,a.size,a.bytes))=E (E (t #[F K 0,F K 0,F K 0,F K 0]),4,32):=by kernel_rfl
structure iV (w wr:U) (b m m' dY:Nat) (p Q:O) (l:List z) (es:List az) (v:V) (i:Nat):Prop where
 fl:∃es' clock',cK wr b Q (stay Q (l.take i)) m' es' clock'
 bg:wr.heap[m]? =E (cX es dY)
 box:X wr w.heap.size (fM p (.map (E m)) l) 164
 row:wr.ownsRow 0 199 4 v (bY Q (l.take i)).length ((bY Q (l.take i)).flatMap qU)
 new:∀k,v.ownBlock=E k->w.heap.size<k
 mod:G (λk=>k=b\/k=m') w wr
theorem iV.still{wr w2:U}{m':Nat}{p e:O}{l:V}{i:Nat}(b:iV k wr w Q m' P p e I j l i)(c:G No wr w2):iV k w2 w Q m' P p e I j l i:=by
 obtain⟨o,n,d⟩:=b.fl;exact⟨⟨o,n,c.e d.e (λa=>a),c.map d.map (λa=>a),d.ok,d.rel⟩,c.map b.bg (λa=>a),c.e b.box (λa=>a),c.owns b.row (λ_ _ a=>a),b.new,b.mod.trans (c.mono (λ_ _ a=>a.elim))⟩
theorem iV.free{wr:U}{m':Nat}{p b:O}{e:V}{a:Nat}(c:iV k wr w Q m' P p b I j e a)(hi:a<I.length)(d:I[a].st=0):iV k wr w Q m' P p b I j e (a+1):=by
 have i:stay b (I.take (a+1))=stay b (I.take a):=by rw[pP b I a hi];unfold my;rw[f (by simp[d])]
 have l:bY b (I.take (a+1))=bY b (I.take a):=by rw[nE b I a hi,f (by simp[d]),dG]
 exact⟨by rw[i];exact c.fl,c.bg,c.box,by rw[l];exact c.row,c.new,c.mod⟩
theorem K8(o n m' w a8:Nat)(p d:O)(c:List z)(s a9:List az)(e:U)(T:cK e o d (aI d) m' a9 a8)(aD:e.heap[n]? =E (cX s w))(bi:gq s w)(hrel:lK s p c)(Q:aJ p c)(v:d.aY=true)(ba:d.bI=true)(bX:n≠m'):Calls h 164 #[g (E (u o 0 J)),t (fM p (.map (E n)) c)] e λk w'=>∃r,k=q r/\iV e w' o n m' w p d c s r c.length:=by
 have bO:=T.e.pJ aD;have cf:=T.e.lt;have cd:=(Array.getElem?_eq_some_iff.1 aD).1;have ce:=(Array.getElem?_eq_some_iff.1 T.map).1;have bb:=Q.bounds;simp only at bb;have aY:=Q.len;simp only at aY;have bc:c.length<=120:=bV.wf.jO Q;have bk:K.wrap (p.rows* p.y)=p.rows* p.y:=bh _ (by omega) (by omega)
 have ay:=l λj (H:X j e.heap.size (fM p (.map (E n)) c) 164)=>CT e.heap.size _ _ p.rows p.y j H rfl rfl bk;rw[<-aY] at ay;obtain⟨aH,aQ⟩:∃aH:Nat,p.y=(aH:Int):=⟨p.y.toNat,by omega⟩
 have a4:=l λj (H:X j e.heap.size (fM p (.map (E n)) c) 164) (a:Nat) (hi:a<c.length)=>(show Calls h 113 #[g (E (u e.heap.size 0 J)),F K (a:Int)] j λk w'=>k=q (t #[F K c[a].row,F K c[a].ae])/\G No j w' from by
  have:=wu e.heap.size _ _ aH a j H (by rw[<-aQ];rfl) (by omega) (by omega)
  have aZ:=Q.place a hi
  simp only at aZ
  rw[aZ.1,aZ.2,aQ]
  exact this)
 have ai:iV e (e.alloc (m (fM p (.map (E n)) c) 164)) o n m' w p d c s (C J 0 0) 0:=by
  have S:G No e (e.alloc (m (fM p (.map (E n)) c) 164)):=(G.refl _ e).alloc _;refine⟨⟨a9,a8,S.e T.e (λi=>i),S.map T.map (λi=>i),T.ok,T.rel⟩,S.map aD (λi=>i),X.new e _ _,?_,λR ae=>by simp[aV] at ae,S.mono (λ_ _ i=>i.elim)⟩;simpa [bY] using dx _ _ _ _
 have ai:=l ai;have bz:=l λ(wr:U) (r:V) (a:Nat) (hS:iV e wr o n m' w p d c s r a) (hi:a<c.length)=>CU hS.bg bi hrel Q a hi
 have bt:=l λ(wr:U) (r:V) (a:Nat) (hS:iV e wr o n m' w p d c s r a) (I B:Int) (j:U) (H:G No wr j)=>(show Calls h 99 #[g (E (u o 0 J)),t #[F K I,F K B]] j λk w'=>k=q (L (d.e I B))/\G No j w' from by
  obtain⟨aO,aN,W⟩:=hS.fl
  exact sH o I B d.rows d.y _ j (H.e W.e (λi=>i)) rfl rfl)
 have bw:=l λ(wr:U) (r:V) (a:Nat) (hS:iV e wr o n m' w p d c s r a) (hi:a<c.length) (x:c[a].st≠0) (ak:d.e c[a].row c[a].ae=true)=>(show Calls h 118 #[g (E (u o 0 J)),t #[F K c[a].row,F K c[a].ae],t #[F K c[a].st,F K c[a].pa,F K c[a].cl,F K c[a].un]] wr λk w'=>k=q (aq #[])/\iV e w' o n m' w p d c s r (a+1)/\(bY d (c.take (a+1))).length=(bY d (c.take a)).length from by
  obtain⟨aO,aN,W⟩:=hS.fl
  have aF:=uk Q v ba a (by omega)
  obtain⟨bT,f0,bL,bJ⟩:=aF.free Q hi ak
  refine(vW W aF.wf _ bT c[a] (Q.dX _ (eK hi)) bL.symm bJ.symm).mono ?_
  rintro k w' ⟨rfl,bP,aE⟩
  have aB:stay d (c.take (a+1))=(stay d (c.take a)).set (d.idx c[a].row c[a].ae) c[a]:=by rw[pP d c a hi];unfold my;rw[D ⟨x,ak⟩]
  have am:bY d (c.take (a+1))=bY d (c.take a):=by rw[nE d c a hi,f (by simp[ak]),dG]
  have bf:=(Array.getElem?_eq_some_iff.1 hS.bg).1
  refine⟨rfl,⟨⟨_,_,by rw[aB];exact bP⟩,aE.map hS.bg (by rintro(k|k);exact bO k;exact bX k),aE.e hS.box (by rintro(k|k)<;>omega),?_,hS.new,hS.mod.trans aE⟩,by rw[am]⟩
  rw[am]
  exact aE.owns hS.row (λR ae=>by have:=hS.new R ae;rintro(k|k)<;>omega))
 have bs:=l λ(wr w3:U) (r aa:V) (a:Nat) (hS:iV e wr o n m' w p d c s r a) (av:Obj) (hi:a<c.length) (x:c[a].st≠0) (ak:¬d.e c[a].row c[a].ae=true)
   (b0:w3.ownsRow 0 199 4 aa ((bY d (c.take a)).length+1) (((bY d (c.take a)).flatMap qU)++[F K c[a].st,F K c[a].pa,F K c[a].cl,F K c[a].un])) (bQ:(wr.alloc av).grownBy w3 r.ownBlock) (aF:fm (wr.alloc av) r aa)=>
  (show iV e w3 o n m' w p d c s aa (a+1)/\(bY d (c.take (a+1))).length=(bY d (c.take a)).length+1 from by
   obtain⟨aO,aN,W⟩:=hS.fl
   have aB:stay d (c.take (a+1))=stay d (c.take a):=by rw[pP d c a hi];unfold my;rw[f (λi=>ak i.2)]
   have am:bY d (c.take (a+1))=bY d (c.take a)++[c[a]]:=by rw[nE d c a hi,D ⟨x,ak⟩]
   have ao:G (λR=>e.heap.size<R) wr w3:=((G.refl _ wr).alloc av).grown bQ (λR ae=>.inl (hS.new R ae))
   refine⟨⟨⟨aO,aN,ao.e (by rw[aB];exact W.e) (by omega),ao.map W.map (by omega),W.ok,by rw[aB];exact W.rel⟩,ao.map hS.bg (by omega),ao.e hS.box (by omega),?_,λR ae=>?_,hS.mod.trans' ao (λa hi cc=>by omega)⟩,by rw[am];simp⟩
   .rw[am,bG,jW]
    simpa [qU] using b0
   .obtain v|v:=aF R ae
    .exact hS.new R v
    .have:=hS.box.lt
     simp at v
     omega)
 have a3:=l λ(wr:U) (r:V) (a:Nat) (hS:iV e wr o n m' w p d c s r a) (hi:a<c.length) (x:c[a].st=0)=>(show iV e wr o n m' w p d c s r (a+1)/\(bY d (c.take (a+1))).length=(bY d (c.take a)).length from⟨hS.free hi x,by rw[nE d c a hi,f (by simp[x]),dG]⟩);clear T aD bi hrel Q bb aQ v ba bk aY;obtain⟨b4,b5,b6,b7,b8⟩:=fq K7;unfold fM eX dZ at ai ay a4 ⊢;go_enter func164,ntmps164;go_wp2_with fail
 refine((b ay) _ (b ai).box).mono ?_;rintro k aG ⟨rfl,ar⟩;have a6:=l ((b ai).still ar);clear ai ar ay;go_wp2_with fail;have bu:=l bc;go_loopw [5,11] (λb9 a1 wr=>∃(a:Nat) (ab:Option Addr) (ad:Nat),a1=F K (a:Int)/\a<=c.length/\b9=C ab (bY d (c.take a)).length ad/\Hid (iV e wr o n m' w p d c s (C ab (bY d (c.take a)).length ad) a)) (λ_ a1 _=>c.length - (intOf a1).toNat)
 case atStart=>exact⟨0,J,0,rfl,by omega,by simp[bY],by simpa [bY] using a6⟩
 case round=>
  obtain⟨a,ab,ad,rfl,hi,rfl,A⟩:=hrel;clear a6;by_cases v:a<c.length
  .have bM:(a:Int)<(c.length:Int):=by omega
   have cg:K.wrap ((a:Int)+1)=((a+1:Nat):Int):=by rw[bh _ (by omega) (by omega)];rfl
   have aT:=(b a4) _ (b A).box a v;have aX:=(b bz) _ _ a (b A) v;have aS:=(b bt) _ _ a (b A);have aW:=λj (H:G No wr j)=>(b bw) j _ a ((b A).still H) v;have aC:=(b a3);have aP:=λj (H:G No wr j) (w3:U) aa av=>(b bs) j w3 _ aa a ((b A).still H) av v;have bf:(bY d (c.take a)).length<=120:=by
    have:(bY d (c.take a)).length<=(c.take a).length:=sP _ _;rw[eO] at this;omega
   have aC:=λj (H:G No wr j)=>(b a3) j _ a ((b A).still H) v;generalize b2:c[a]=aw at *;obtain⟨I,B,y,N,M,P⟩:=aw;simp only at aT aX aS aW aP aC;have bp:=l aT;have bq:=l aX;have ax:=l (aS I B);have br:=l aW;have bn:=l aP;have bo:=l aC;have cb:=l hi;have ah:=l v;clear aT aX aS aW aP aC b2 v hi bc;have bE:=(b A).box.lt;go_wp2_with fail;refine(b bp).mono ?_;rintro k aG ⟨rfl,ar⟩;have bA:=l ar
   clear ar;have S:=l (((b bA).alloc (m #[F K I,F K B] 36)));have bF:=((b S).e (b A).box (λi=>i)).T 7;rw[show(fM p (.map (E n)) c)[7]? =E (.map (E n)) from rfl] at bF;have bE:=((b S).e (b A).box (λi=>i)).lt;have bU:=(b bq) _ (b S);have a0:=X.new aG #[F K I,F K B] 36;have bB:=l a0;have aU:=a0.T;clear a0;have au:=l (((b S).alloc (m #[F K y,F K N,F K M,F K P] 199)));by_cases x:y=0
   .have aL:=l x;subst x;go_wp2_with fail;obtain⟨aj,Y⟩:=(b bo) _ (b au) (by trivial);exact⟨⟨a+1,ab,ad,by trivial,by have:=b ah;omega,by rw[Y],by rw[Y];exact aj⟩,by simp[intOf];have:=b ah;omega⟩
   .have aL:=l x;have bZ:(y !=0)=true:=by simp[x]
    rw[bZ] at bU;clear x;by_cases ap:d.e I B=true
    .rw[ap] at ax;have aK:=l ap;go_wp2_with fail;refine((b ax) _ (b au)).mono ?_;rintro k ag ⟨rfl,Z⟩;have bI:=(Z.e ((b bB).alloc (m #[F K y,F K N,F K M,F K P] 199)) (λi=>i)).T;have af:=X.new (aG.alloc (m #[F K I,F K B] 36)) #[F K y,F K N,F K M,F K P] 199;rw[bW] at af;have a7:=(Z.e af (λi=>i)).T;have aA:=l ((b au).trans Z);clear Z af aU;go_wp2_with fail
     refine((b br) _ (b aA) (b aL) (b aK)).mono ?_;rintro k w3 ⟨rfl,aj,Y⟩;have bl:=l aj;have a5:=l Y;clear aj Y bI a7;go_wp2;exact⟨⟨a+1,ab,ad,by trivial,by have:=b ah;omega,by rw[b a5],by rw[b a5];exact b bl⟩,by simp[intOf];have:=b ah;omega⟩
    .have aK:=l ap;have b1:d.e I B=false:=by simpa using ap
     rw[b1] at ax;clear ap;go_wp2_with fail;refine((b ax) _ (b au)).mono ?_;rintro k ag ⟨rfl,Z⟩;have af:=X.new (aG.alloc (m #[F K I,F K B] 36)) #[F K y,F K N,F K M,F K P] 199;rw[bW] at af;have a7:=(Z.e af (λi=>i)).T;have aA:=l ((b au).trans Z);clear Z af aU;have bd:=sP (λaw:z=>aw.st !=0&& !d.e aw.row aw.ae) (c.take a);have a2:=(b A).still (b aA)
     have bv:=l (((G.refl No ag).alloc (m #[F K y,F K N,F K M,F K P] 199)).owns a2.row (λ_ _ i=>i))
     have bx:=l (show Reads (ag.alloc (m #[F K y,F K N,F K M,F K P] 199)) (C (E (u ag.heap.size 0 J)) 1 1) 1 [F K y,F K N,F K M,F K P] from
      .inr ⟨(u ag.heap.size 0 J),1,rfl,λch ca hu=>by
       rw[dE,bK,(X.new ag #[F K y,F K N,F K M,F K P] 199).T,<-dy]
       exact hu⟩)
     have bm:=l λw3 aa=>(b bn) _ (b aA) w3 aa (m #[F K y,F K N,F K M,F K P] 199) (b aL) (b aK);have bf:(bY d (c.take a)).length<=120:=cC bd (by rw[eO];have:=b bu;omega);clear bd a2
     go_wp2_with (first|(at_builtin;refine fJ rfl (.tmp 36) (.tmp 38) 254 rfl 199 b4 _ 4 32 underlying254 b5 b6 b7 b8 rfl (by decide) (C ab (bY d (c.take a)).length ad) (bY d (c.take a)).length _ (by simp[aM]) (by exact b bv) (C (E (u ag.heap.size 0 J)) 1 1) 1 [F K y,F K N,F K M,F K P] (by simp[aM]) (by exact b bx) rfl (by intro ca hu;simp at hu;obtain rfl|rfl|rfl|rfl:=hu<;>rfl) (by unfold maxLen;omega) (by omega) ?_;intro aa w3 bg bR b3;obtain⟨bC,bH,rfl⟩:=aR bg))
     obtain⟨aj,Y⟩:=(b bm) _ _ bg bR b3;exact⟨⟨a+1,bC,bH,by trivial,by have:=b ah;omega,by rw[Y],by rw[Y];exact aj⟩,by simp[intOf];have:=b ah;omega⟩
  .have bS:a=c.length:=by omega
   subst bS;have bM:¬((c.length:Nat):Int)<(c.length:Int):=by omega
   go_wp2;go_ret;exact⟨C ab (bY d c).length ad,rfl,by simpa only[fN] using b A⟩
def qV(a b c:Int):Bool:=(a==0&&b==0)&&c==0
theorem wD(e:Nat)(i:Array V)(k:TypeId)(a b C:Int)(d:U)(c:X d e i k)(j:i[1]? =E (F K C))(w:1<=a/\a<=1000)(s:1<=b/\b<=1000)(r:1<=C/\C<=1000):Calls h 130 #[g (E (u e 0 J)),t #[F K a,F K b]] d λn w'=>n=q (F K ((a - 1)* C+b - 1))/\G No d w':=by
 have l:=c.T 1;rw[j] at l;have v:=c.lt;have o:0<=(a - 1)* C:=ky (by omega) (by omega);have p:(a - 1)* C<=1000* 1000:=tL (by omega) (by omega) (by omega) (by omega);have x:K.wrap (a - 1)=a - 1:=bh _ (by omega) (by omega);have y:K.wrap ((a - 1)* C)=(a - 1)* C:=bh _ (by omega) (by omega);have w3:K.wrap ((a - 1)* C+b)=(a - 1)* C+b:=bh _ (by omega) (by omega)
 have z:K.wrap ((a - 1)* C+b - 1)=(a - 1)* C+b - 1:=bh _ (by omega) (by omega);clear c j o p;go_enter func130,ntmps130;go_wp2;go_quiet (fail);go_wp2;go_ret;exact⟨rfl,((G.refl _ _).alloc _).drewN _⟩
theorem K9:(h.info? 63).map (·.size)=E 6:=by kernel_rfl
theorem La(O W:Nat)(Q:Array V)(d c j i e k:Int)(a:U)(y:X a O Q 164)(S:Q[7]? =E (.map (E W)))(z:∀x,G No a x->(ji 162 (.map (E W)) (t #[F K d,F K c]) false).run h x=.ok (t #[F K j,F K i,F K e,F K k]) x):Calls h 115 #[g (E (u O 0 J)),t #[F K d,F K c]] a λaf w'=>af=q (t #[F K d,F K c,F K j,F K i,F K e,F K k])/\G No a w':=by
 have r:G No a ((a.alloc (m #[F K d,F K c] 36)).alloc (m #[F K 0,F K 0,F K 0,F K 0,F K 0,F K 0] 63)):=((G.refl _ a).alloc _).alloc _;have P:=(r.e y (λA=>A)).T 7;rw[S] at P;have ah:=(r.e y (λA=>A)).lt;have ai:=λN=>z ((((a.alloc (m #[F K d,F K c] 36)).alloc (m #[F K 0,F K 0,F K 0,F K 0,F K 0,F K 0] 63))).alloc N).drew (r.alloc N).drew
 have T:=z (((a.alloc (m #[F K d,F K c] 36)).alloc (m #[F K 0,F K 0,F K 0,F K 0,F K 0,F K 0] 63))).drew r.drew;have H:=l ((X.new a #[F K d,F K c] 36).alloc (m #[F K 0,F K 0,F K 0,F K 0,F K 0,F K 0] 63));have ad:=((X.new a #[F K d,F K c] 36).alloc (m #[F K 0,F K 0,F K 0,F K 0,F K 0,F K 0] 63)).T;have aj:=((X.new a #[F K d,F K c] 36).alloc (m #[F K 0,F K 0,F K 0,F K 0,F K 0,F K 0] 63)).lt
 have o:=X.new (a.alloc (m #[F K d,F K c] 36)) #[F K 0,F K 0,F K 0,F K 0,F K 0,F K 0] 63;rw[bW] at o;have ae:=o.T;have ag:=o.aC;have ak:=o.lt;have M:=l r;have I:=l o;clear y S z r o;go_enter func115,ntmps115;go_wp2;generalize ((a.alloc (m #[F K d,F K c] 36)).alloc (m #[F K 0,F K 0,F K 0,F K 0,F K 0,F K 0] 63))=s at *;go_region;have B:=((b H).alloc (m #[F K j,F K i,F K e,F K k] 199)).drew
 have v:=((b I).alloc (m #[F K j,F K i,F K e,F K k] 199)).drew;have w:=(X.new s #[F K j,F K i,F K e,F K k] 199).drew;have Z:=l ((b M).alloc (m #[F K j,F K i,F K e,F K k] 199)).drew;clear ai T ad aj ae ag ak P ah M H I;have ar:a.heap.size+1≠s.heap.size:=by have:=v.ne w (by decide);exact this
 generalize (s.alloc (m #[F K j,F K i,F K e,F K k] 199)).drew=am at *;generalize s.heap.size=aw at *;have ao:=B.T;have av:=w.T;have ab:=l v;clear B w v
 go_wp2_with (first|(refine yq rfl 63 _ _ rfl (a.heap.size+1) #[F K d,F K c,F K j,F K i,F K e,F K k] rfl rfl #[F K 0,F K 0,F K 0,F K 0,F K 0,F K 0] 63 (b ab) rfl K9 (by simp[Value.oneCell']) ?_;intro n R Y;have aa:=l ((b Z).trans' Y (λau hi ap=>by omega));have p:=R.T;have T:=R.lt;clear Y));have d0:n.cell? ⟨a.heap.size+1,0,J⟩=E (F K d):=p 0;have d1:n.cell? ⟨a.heap.size+1,1,J⟩=E (F K c):=p 1
 have d2:n.cell? ⟨a.heap.size+1,2,J⟩=E (F K j):=p 2;have d3:n.cell? ⟨a.heap.size+1,3,J⟩=E (F K i):=p 3;have d4:n.cell? ⟨a.heap.size+1,4,J⟩=E (F K e):=p 4;have d5:n.cell? ⟨a.heap.size+1,5,J⟩=E (F K k):=p 5;refine cN (by simp[results,results115,go_sem,d0,d1,d2,d3,d4,d5];try rfl) rfl ?_;exact⟨rfl,b aa⟩
theorem fP{e:Program}{ops:Array Oper}{b:Oper}{a:Act}{i:Act->U->Prop}{p:Exit->Act->U->Prop}{o:Prop}(w:b.guard=J)(c:FuncId)(args:Array Operand)(B:Array TypeId)(x:b.op=Op.call { callee:=Callee.value (Operand.func c),args:=args,argTypes:=B })(d:Array V)(z:args.map a.eval=d)(v:∀j,(callFunc c d).run e j=.ok (.enter c d) j)(n:V)(R:U->Prop)(s:Calls e c d k λl w'=>l=q n/\R w')
  (r:∀w',R w'->i (a.put b.dst n) w'):if jD b (yielded ops a.tmps)=true then gu e b a k i p else o:=by
 have A:jD b (yielded ops a.tmps)=true:=by simp[jD,w]
 rw[D A];unfold gu execOp;simp[go_sem,x,z];rw[v];simp[go_sem];refine s.mono ?_;rintro l w' ⟨rfl,y⟩;exact r _ y
def dp(p:O)(b a c:Int):Int×Int:=
 if b=0/\a=0/\c=0 then(0,0) else if c≠p.ep then(0,13) else if p.e b a=false then(0,5) else((p.idx b a:Int)+1,0)
theorem Lb{p:O}(v:cK k w p I Q j P)(H:aJ p I)(a c e:Int)(y:a≠0):Calls h 114 #[g (E (u w 0 J)),t #[F K a,F K c,F K e]] k λad w'=>ad=q (aq #[F K (dp p a c e).1,F K (dp p a c e).2])/\G No k w':=by
 have M:G No k (k.alloc (m #[F K a,F K c,F K e] 43)):=(G.refl _ k).alloc _;have s:=l M;have ab:=(M.e v.e (λn=>n)).T 24;rw[show(fM p (.map (E Q)) I)[24]? =E (F K p.ep) from rfl] at ab;have ap:=(M.e v.e (λn=>n)).lt;have A:=l λd (x:G No k d)=>(show Calls h 99 #[g (E (u w 0 J)),t #[F K a,F K c]] d λe w'=>e=q (L (p.e a c))/\G No d w' from sH w a c p.rows p.y _ d (x.e v.e (λn=>n)) rfl rfl)
 have W:=H.bounds;simp only at W
 have N:=l λd (x:G No k d) (i:p.e a c=true)=>(show Calls h 130 #[g (E (u w 0 J)),t #[F K a,F K c]] d λe w'=>e=q (F K (p.idx a c:Int))/\G No d w' from by
  simp only[O.e,eA] at i
  have:=wD w _ _ a c p.y d (x.e v.e (λn=>n)) rfl (by omega) (by omega) (by omega)
  have hi:(a - 1)* p.y+c - 1=(p.idx a c:Int):=by
   unfold O.idx
   have aw:0<=(a - 1)* p.y:=ky (by omega) (by omega)
   omega
  rw[hi] at this
  exact this)
 have T:=l (X.new k #[F K a,F K c,F K e] 43)
 have R:=l λ(i:p.e a c=true)=>(show K.wrap ((p.idx a c:Int)+1)=(p.idx a c:Int)+1 from by
  have:=bV.wf.jP H i
  have ai:=bV.wf.jO H
  simp only at this ai
  exact bh _ (by omega) (by omega))
 clear v H W M;unfold dp;rw[f (by rintro⟨af,ag,ah⟩;first|exact y af|exact y ag|exact y ah)];have ar:(a==0)=false:=by simpa using y
 clear y;by_cases o:e=p.ep
 case neg=>
  rw[D o];have aj:(e !=p.ep)=true:=by simpa using o
  clear o;go_enter func114,ntmps114;go_wp2;go_quiet (fail);go_wp2;go_ret2;exact⟨rfl,(b s).drewN _⟩
 rw[f (by simpa using o)];have aj:(e !=p.ep)=false:=by simpa using o
 by_cases i:p.e a c=true
 case neg=>
  have S:p.e a c=false:=by simpa using i
  rw[D S];rw[S] at A;clear o i S R N;go_enter func114,ntmps114;go_wp2;go_quiet (fail);go_wp2_with fail;refine((b A) _ ((b s).drewN _)).mono ?_;rintro ae ak ⟨rfl,r⟩;have B:=l (((b s).drewN _).trans r);clear r;go_wp2;go_ret2;exact⟨rfl,b B⟩
 rw[f (by simp[i])];have au:=(b R) i;have Z:=l λd (x:G No k d)=>(b N) d x i;rw[i] at A;clear o i R N;go_enter func114,ntmps114;go_wp2;go_quiet (fail);go_wp2_with fail;refine((b A) _ ((b s).drewN _)).mono ?_;rintro ae ak ⟨rfl,r⟩;have am:=(r.e ((b T).drewN _) (λn=>n)).T;have av:=(r.e ((b T).drewN _) (λn=>n)).lt;have B:=l (((b s).drewN _).trans r);clear r;go_wp2_with fail
 refine((b Z) _ (b B)).mono ?_;rintro ao ax ⟨rfl,Y⟩;have aa:=l ((b B).trans Y);clear Y;go_wp2;go_ret2;exact⟨rfl,b aa⟩
theorem Lc{p:O}(s:cK k w p I Q j P)(B:aJ p I)(a d:Int)(x:a≠0):Calls h 114 #[g (E (u w 0 J)),t #[F K 0,F K a,F K d]] k λab w'=>ab=q (aq #[F K (dp p 0 a d).1,F K (dp p 0 a d).2])/\G No k w':=by
 have H:G No k (k.alloc (m #[F K 0,F K a,F K d] 43)):=(G.refl _ k).alloc _;have r:=l H;have aa:=(H.e s.e (λi=>i)).T 24;rw[show(fM p (.map (E Q)) I)[24]? =E (F K p.ep) from rfl] at aa;have ao:=(H.e s.e (λi=>i)).lt;have y:=l λc (v:G No k c)=>(show Calls h 99 #[g (E (u w 0 J)),t #[F K 0,F K a]] c λd w'=>d=q (L (p.e 0 a))/\G No c w' from sH w 0 a p.rows p.y _ c (v.e s.e (λi=>i)) rfl rfl)
 have T:=B.bounds;simp only at T
 have M:=l λc (v:G No k c) (e:p.e 0 a=true)=>(show Calls h 130 #[g (E (u w 0 J)),t #[F K 0,F K a]] c λd w'=>d=q (F K (p.idx 0 a:Int))/\G No c w' from by
  simp only[O.e,eA] at e
  have:=wD w _ _ 0 a p.y c (v.e s.e (λi=>i)) rfl (by omega) (by omega) (by omega)
  have hi:(0 - 1)* p.y+a - 1=(p.idx 0 a:Int):=by
   unfold O.idx
   have av:0<=(0 - 1)* p.y:=ky (by omega) (by omega)
   omega
  rw[hi] at this
  exact this)
 have S:=l (X.new k #[F K 0,F K a,F K d] 43)
 have N:=l λ(e:p.e 0 a=true)=>(show K.wrap ((p.idx 0 a:Int)+1)=(p.idx 0 a:Int)+1 from by
  have:=bV.wf.jP B e
  have ah:=bV.wf.jO B
  simp only at this ah
  exact bh _ (by omega) (by omega))
 clear s B T H;unfold dp;rw[f (by rintro⟨ae,af,ag⟩;first|exact x ae|exact x af|exact x ag)];have ap:(a==0)=false:=by simpa using x
 clear x;by_cases n:d=p.ep
 case neg=>
  rw[D n];have ai:(d !=p.ep)=true:=by simpa using n
  clear n;go_enter func114,ntmps114;go_wp2;go_quiet (fail);go_wp2;go_ret2;exact⟨rfl,(b r).drewN _⟩
 rw[f (by simpa using n)];have ai:(d !=p.ep)=false:=by simpa using n
 by_cases e:p.e 0 a=true
 case neg=>
  have R:p.e 0 a=false:=by simpa using e
  rw[D R];rw[R] at y;clear n e R N M;go_enter func114,ntmps114;go_wp2;go_quiet (fail);go_wp2_with fail;refine((b y) _ ((b r).drewN _)).mono ?_;rintro ad aj ⟨rfl,o⟩;have A:=l (((b r).drewN _).trans o);clear o;go_wp2;go_ret2;exact⟨rfl,b A⟩
 rw[f (by simp[e])];have ar:=(b N) e;have Y:=l λc (v:G No k c)=>(b M) c v e;rw[e] at y;clear n e N M;go_enter func114,ntmps114;go_wp2;go_quiet (fail);go_wp2_with fail;refine((b y) _ ((b r).drewN _)).mono ?_;rintro ad aj ⟨rfl,o⟩;have ak:=(o.e ((b S).drewN _) (λi=>i)).T;have au:=(o.e ((b S).drewN _) (λi=>i)).lt;have A:=l (((b r).drewN _).trans o);clear o;go_wp2_with fail
 refine((b Y) _ (b A)).mono ?_;rintro am aw ⟨rfl,W⟩;have Z:=l ((b A).trans W);clear W;go_wp2;go_ret2;exact⟨rfl,b Z⟩
theorem Ld{p:O}(r:cK k w p I Q j P)(A:aJ p I)(a:Int)(v:a≠0):Calls h 114 #[g (E (u w 0 J)),t #[F K 0,F K 0,F K a]] k λaa w'=>aa=q (aq #[F K (dp p 0 0 a).1,F K (dp p 0 0 a).2])/\G No k w':=by
 have B:G No k (k.alloc (m #[F K 0,F K 0,F K a] 43)):=(G.refl _ k).alloc _;have o:=l B;have Z:=(B.e r.e (λe=>e)).T 24;rw[show(fM p (.map (E Q)) I)[24]? =E (F K p.ep) from rfl] at Z;have am:=(B.e r.e (λe=>e)).lt;have x:=l λc (s:G No k c)=>(show Calls h 99 #[g (E (u w 0 J)),t #[F K 0,F K 0]] c λa w'=>a=q (L (p.e 0 0))/\G No c w' from sH w 0 0 p.rows p.y _ c (s.e r.e (λe=>e)) rfl rfl)
 have S:=A.bounds;simp only at S
 have H:=l λc (s:G No k c) (d:p.e 0 0=true)=>(show Calls h 130 #[g (E (u w 0 J)),t #[F K 0,F K 0]] c λa w'=>a=q (F K (p.idx 0 0:Int))/\G No c w' from by
  simp only[O.e,eA] at d
  have:=wD w _ _ 0 0 p.y c (s.e r.e (λe=>e)) rfl (by omega) (by omega) (by omega)
  have hi:(0 - 1)* p.y+0 - 1=(p.idx 0 0:Int):=by
   unfold O.idx
   have au:0<=(0 - 1)* p.y:=ky (by omega) (by omega)
   omega
  rw[hi] at this
  exact this)
 have R:=l (X.new k #[F K 0,F K 0,F K a] 43)
 have M:=l λ(d:p.e 0 0=true)=>(show K.wrap ((p.idx 0 0:Int)+1)=(p.idx 0 0:Int)+1 from by
  have:=bV.wf.jP A d
  have ag:=bV.wf.jO A
  simp only at this ag
  exact bh _ (by omega) (by omega))
 clear r A S B;unfold dp;rw[f (by rintro⟨ad,ae,af⟩;first|exact v ad|exact v ae|exact v af)];have ao:(a==0)=false:=by simpa using v
 clear v;by_cases i:a=p.ep
 case neg=>
  rw[D i];have ah:(a !=p.ep)=true:=by simpa using i
  clear i;go_enter func114,ntmps114;go_wp2;go_quiet (fail);go_wp2;go_ret2;exact⟨rfl,(b o).drewN _⟩
 rw[f (by simpa using i)];have ah:(a !=p.ep)=false:=by simpa using i
 by_cases d:p.e 0 0=true
 case neg=>
  have N:p.e 0 0=false:=by simpa using d
  rw[D N];rw[N] at x;clear i d N M H;go_enter func114,ntmps114;go_wp2;go_quiet (fail);go_wp2_with fail;refine((b x) _ ((b o).drewN _)).mono ?_;rintro ab ai ⟨rfl,n⟩;have y:=l (((b o).drewN _).trans n);clear n;go_wp2;go_ret2;exact⟨rfl,b y⟩
 rw[f (by simp[d])];have ap:=(b M) d;have W:=l λc (s:G No k c)=>(b H) c s d;rw[d] at x;clear i d M H;go_enter func114,ntmps114;go_wp2;go_quiet (fail);go_wp2_with fail;refine((b x) _ ((b o).drewN _)).mono ?_;rintro ab ai ⟨rfl,n⟩;have aj:=(n.e ((b R).drewN _) (λe=>e)).T;have ar:=(n.e ((b R).drewN _) (λe=>e)).lt;have y:=l (((b o).drewN _).trans n);clear n;go_wp2_with fail
 refine((b W) _ (b y)).mono ?_;rintro ak av ⟨rfl,T⟩;have Y:=l ((b y).trans T);clear T;go_wp2;go_ret2;exact⟨rfl,b Y⟩
theorem Le{p:O}(n:cK k w p I Q j P)(o:aJ p I)(c a d:Int):Calls h 114 #[g (E (u w 0 J)),t #[F K c,F K a,F K d]] k λaa w'=>aa=q (aq #[F K (dp p c a d).1,F K (dp p c a d).2])/\G No k w':=by
 have s:G No k (k.alloc (m #[F K c,F K a,F K d] 43)):=(G.refl _ k).alloc _;have N:=l s;have R:=(s.e n.e (λi=>i)).T 24;rw[show(fM p (.map (E Q)) I)[24]? =E (F K p.ep) from rfl] at R;have ad:=(s.e n.e (λi=>i)).lt;have Y:=l λe (B:G No k e)=>(show Calls h 99 #[g (E (u w 0 J)),t #[F K c,F K a]] e λd w'=>d=q (L (p.e c a))/\G No e w' from sH w c a p.rows p.y _ e (B.e n.e (λi=>i)) rfl rfl)
 have S:=o.bounds;simp only at S
 have W:=l λe (B:G No k e) (H:p.e c a=true)=>(show Calls h 130 #[g (E (u w 0 J)),t #[F K c,F K a]] e λd w'=>d=q (F K (p.idx c a:Int))/\G No e w' from by
  simp only[O.e,eA] at H
  have:=wD w _ _ c a p.y e (B.e n.e (λi=>i)) rfl (by omega) (by omega) (by omega)
  have hi:(c - 1)* p.y+a - 1=(p.idx c a:Int):=by
   unfold O.idx
   have ae:0<=(c - 1)* p.y:=ky (by omega) (by omega)
   omega
  rw[hi] at this
  exact this)
 have T:=l (X.new k #[F K c,F K a,F K d] 43)
 have Z:=l λ(H:p.e c a=true)=>(show K.wrap ((p.idx c a:Int)+1)=(p.idx c a:Int)+1 from by
  have:=bV.wf.jP o H
  have ab:=bV.wf.jO o
  simp only at this ab
  exact bh _ (by omega) (by omega))
 have v:=n;have x:=o;clear n o S s;unfold dp;by_cases M:c=0/\a=0/\d=0
 .rw[D M];obtain⟨rfl,rfl,rfl⟩:=M;go_enter func114,ntmps114;go_wp2;go_ret2;exact⟨rfl,b N⟩
 clear Y W T Z R ad N;by_cases r:c=0
 .by_cases y:a=0
  .have A:d≠0:=λA=>M ⟨r,y,A⟩;subst r;subst y;have:=Ld v x d A;unfold dp at this;exact this
  .subst r;have:=Lc v x a d y;unfold dp at this;exact this
 .have:=Lb v x c a d r;unfold dp at this;exact this
structure eQ (O:Nat->Prop) (w w':U) (wb:Nat) (xs:List Int) (now:Int):Prop where
 ex:∃v',db O w' wb v' xs now
 mod:G O w w'
theorem eQ.after{S:Nat->Prop}{c w2:U}{d:List Int}(b:eQ o c w2 w d v)(e:G S k c)(i:∀a,a<k.heap.size->S a->o a):eQ o k w2 w d v:=
 ⟨b.ex,(e.mono i).trans b.mod⟩
theorem eQ.unbox{w2:U}{c:Obj}(d:eQ (λb=>o b/\b≠k.heap.size) (k.alloc c) w2 w S v):eQ o k w2 w S v:=by
 obtain⟨⟨j,i⟩,e⟩:=d;exact⟨⟨j,i.wide (λ_ a=>a.1)⟩,(((G.refl No k).alloc c).mono (λ_ _ l=>l.elim)).trans (e.mono (λ_ _ a=>a.1))⟩
def gv(b:Nat->Prop)(c:U):Prop:=∀a,c.heap.size<=a->b a
theorem gv.box(b:gv o k)(d:Obj):gv (λa=>o a/\a≠k.heap.size) (k.alloc d):=λa c=>by
 rw[bW] at c;exact⟨b a (by omega),by omega⟩
theorem gv.mod{S:Nat->Prop}{w w':U}(a:gv o w)(c:G S w w'):gv o w':=λd b=>a d (cC c.size b)
theorem lQ{O:Nat->Prop}(b:∃d,db O k w d S v)(e:gv O k)(i:S.length<1099511627766)(a:Int)(j:0<=a/\a<9223372036854775808):Calls h 109 #[g (E (u w 0 J)),F K a] k λc w'=>c=q (aq #[])/\eQ O k w' w (S++bX a) v:=by
 obtain⟨d,b⟩:=b;exact(Jm b e i a j).mono λc w' ⟨l,n,o⟩=>⟨l,n,o⟩
theorem qW(c:∃e,db o k w e S v)(i:gv o k)(n:S.length<1099511627776)(b a:Int)(l:1<=b/\b<=7)(j:0<=a/\a<32):Calls h 124 #[g (E (u w 0 J)),F K b,F K a] k λd w'=>d=q (aq #[])/\eQ o k w' w (S++[32* b+a]) v:=by
 obtain⟨e,c⟩:=c;exact(Jj c i n b a l j).mono λd w' ⟨p,r,s⟩=>⟨p,r,s⟩
theorem wF(d:∃e,db o k w e S v)(p:gv o k)(s:S.length<1099511627766)(c a:Int)(y:1<=c/\c<=20)(x:1<=a/\a<=6):Calls h 127 #[g (E (u w 0 J)),t #[F K c,F K a]] k λj w'=>j=q (aq #[])/\eQ o k w' w (S++gO c a) v:=by
 obtain⟨e,d⟩:=d;have i:=l (lQ ⟨e,d.box (m #[F K c,F K a] 36)⟩ (p.box _) s ((c - 1)* 6+a - 1) (by omega));clear d p;unfold gO;go_enter func127,ntmps127;go_wp2_with fail;refine(b i).mono ?_;rintro j z ⟨rfl,n⟩;have r:=l n.unbox;clear n i;go_wp2;go_end0;exact⟨rfl,b r⟩
theorem CV(z:∃N,db o k w N S v)(n:gv o k)(P:S.length<1099511627740)(a c d:Int)(H:0<=a/\a<9223372036854775808)(I:0<=c/\c<9223372036854775808)(M:0<=d/\d<9223372036854775808):Calls h 128 #[g (E (u w 0 J)),F K a,F K c,F K d] k λe w'=>e=q (aq #[])/\eQ o k w' w (S++(bX a++bX c++bX d)) v:=by
 have Q:=(eM a).2;have R:=(eM c).2;have p:=l (lQ z n (by omega) a H);have x:=l n;clear z n;go_enter func128,ntmps128;go_wp2_with fail;refine(b p).mono ?_;rintro e T ⟨rfl,i⟩;have r:=l (lQ i.ex ((b x).mod i.mod) (by simp;omega) c I);have G:=l i.mod;clear i p;go_wp2_with fail;refine(b r).mono ?_;rintro e W ⟨rfl,j⟩;have y:=l ((b G).trans j.mod)
 have s:=l (lQ j.ex ((b x).mod (b y)) (by simp;omega) d M);clear j r;go_wp2_with fail;refine(b s).mono ?_;rintro e w3 ⟨rfl,A⟩;have B:=l A;clear A s;go_wp2;go_end0;refine⟨rfl,?_⟩;rw[<-cQ,<-cQ];exact(b B).after (b y) (λ_ _ O=>O)
theorem Lf(b c d e:Int)(p:O)(j:p.af=b/\p.ag=c/\p.ai=d/\p.aj=e)(a:Nat)(k:a<4)(i:U):(iQ 37 (t #[F K b,F K c,F K d,F K e]) (F K (a:Int))).run h i=.ok (F K (p.cD a)) i:=by
 obtain⟨rfl,rfl,rfl,rfl⟩:=j;have:a=0\/a=1\/a=2\/a=3:=by omega
 obtain rfl|rfl|rfl|rfl:=this
 .exact rV _ _ _ _ _
 .exact rW _ _ _ _ _
 .exact rX _ _ _ _ _
 .exact rY _ _ _ _ _
def oQ(p:O):Nat->List Int
 |0=>[]
 |a+1=>oQ p a++bX (p.cD a)
theorem Lg(p:O)(a:Nat):(oQ p a).length<=9* a:=by
 induction a with
 |zero=>simp[oQ]
 |succ a b=>
  have:=(eM (p.cD a)).2;simp only[oQ,bG];omega
theorem Lh(p:O):jm p=lG p++oQ p 4:=by
 simp[jm,oQ,O.cD]
def O.fit(p:O):Prop:=(0<=p.rows/\p.rows<9223372036854775808)/\(0<=p.y/\p.y<9223372036854775808)/\(0<=p.Z/\p.Z<9223372036854775808)/\∀a,0<=p.cD a/\p.cD a<9223372036854775808
theorem wG(p:O):(lG p).length<=27:=by
 have a:=(eM p.rows).2;have b:=(eM p.y).2;have c:=(eM p.Z).2;simp only[lG,bG];omega
theorem CW(j:∃y,db o k w y S v)(H:gv o k)(am:S.length<1099511627700)(p:O)(i:O.fit p):Calls h 125 #[g (E (u w 0 J)),t #[F K p.rows,F K p.y,F K p.Z,F K p.af,F K p.ag,F K p.ai,F K p.aj]] k λr w'=>r=q (aq #[])/\eQ o k w' w (S++jm p) v:=by
 obtain⟨y,j⟩:=j;have z:=l (X.new k #[F K p.rows,F K p.y,F K p.Z,F K p.af,F K p.ag,F K p.ai,F K p.aj] 39);have ao:=wG p;have B:=l (H.box (m #[F K p.rows,F K p.y,F K p.Z,F K p.af,F K p.ag,F K p.ai,F K p.aj] 39));have e:=l (CV ⟨y,j.box (m #[F K p.rows,F K p.y,F K p.Z,F K p.af,F K p.ag,F K p.ai,F K p.aj] 39)⟩ (b B) (by omega) p.rows p.y p.Z i.1 i.2.1 i.2.2.1);rw[Lh]
 have P:=l λa I R=>Lf p.af p.ag p.ai p.aj p ⟨rfl,rfl,rfl,rfl⟩ a I R;have N:=l i.2.2.2;clear j i H;unfold lG at *;generalize ad:bX p.rows++bX p.y++bX p.Z=Q at *;clear ad;go_enter func125,ntmps125;go_wp2_with fail;refine(b e).mono ?_;rintro r n ⟨rfl,s⟩;have c:=s.mod.e (b z) (λah=>ah.2 rfl);have T:n.cell? (u k.heap.size 3 J)=E (F K p.af):=c.T 3;have W:n.cell? (u k.heap.size 4 J)=E (F K p.ag):=c.T 4
 have Y:n.cell? (u k.heap.size 5 J)=E (F K p.ai):=c.T 5;have Z:n.cell? (u k.heap.size 6 J)=E (F K p.aj):=c.T 6;have ag:=c.lt;have A:=l s;clear s e z c;go_wp2_with fail;go_loopw [16] (λx wr=>∃a:Nat,x=F K a/\a<=4/\Hid (eQ (λa=>o a/\a≠k.heap.size) (k.alloc (m #[F K p.rows,F K p.y,F K p.Z,F K p.af,F K p.ag,F K p.ai,F K p.aj] 39)) wr w (S++Q++oQ p a) v)) (λx _=>4 - (intOf x).toNat)
 case atStart=>exact⟨0,rfl,by omega,by rw[oQ,dG];exact A⟩
 case round=>
  obtain⟨a,rfl,I,d⟩:=hrel;clear A T W Y Z ag;by_cases aa:a<4
  .have ab:(a:Int)<4:=by omega
   have aj:(0:Int)<=a:=by omega
   have ak:K.wrap ((a:Int)+1)=((a+1:Nat):Int):=by rw[bh _ (by omega) (by omega)];rfl
   have ae:=(b P) a aa wr;have af:=Lg p a;have e:=l (lQ (b d).ex ((b B).mod (b d).mod) (by simp only[bG];omega) (p.cD a) ((b N) a));clear af;go_wp2_with fail;refine(b e).mono ?_;rintro r ap ⟨rfl,G⟩;have M:=l (G.after (b d).mod (λ_ _ ai=>ai));clear G e d ae;go_wp2;refine⟨⟨a+1,rfl,by omega,?_⟩,by simp[intOf];omega⟩;rw[oQ,<-cQ];exact M
  .have ab:¬(a:Int)<4:=by omega
   obtain rfl:a=4:=by omega
   go_wp2;go_end0;refine⟨rfl,?_⟩;rw[<-cQ];exact(b d).unbox
end Go.Proofs.YthhibagcpjeihaaGreat
