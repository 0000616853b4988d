import Derived.Test.YthhibagcpjeihaaGreatW8
import Derived.Test.YthhibagcpjeihaaGreatWa
open Go.Proofs.Tryz
open Go.Addr renaming mk->u,add_mid->dE
open Go.Value renaming int->F,pointer->g,slice->C,bool->L,agg->t,tuple->aq,ownBlock->aV
open Go.IntKind renaming i64->K
open Option renaming none->J,some->E
open Go renaming World->U,Value->V
open Go.Proofs.Tryz renaming prog->h,underlying61->qT
open Go.Ending renaming returned->q
open Go.Obj renaming cells->m
open Go.Act renaming eval->aM,put->bN
set_option linter.unusedVariables false
set_option linter.unusedSimpArgs false
set_option maxRecDepth 100000
set_option maxHeartbeats 8000000
namespace Go.Proofs.YthhibagcpjeihaaGreat
open Go.RowKit
open M
attribute [local go_sem ↓] vF vG
theorem Nm(d:Nat)(b:Array V)(j:TypeId)(R C:Int)(c:U)(a:X c d b j)(e:b[0]? =E (F K R))(i:b[1]? =E (F K C))(r:K.wrap (R* C)=R* C):Calls h 112 #[g (E (u d 0 J))] c λn w'=>n=q (F K (R* C))/\∃o,w'=c.drewN o:=by
 have k:=a.T 0;have l:=a.T 1;rw[e] at k;rw[i] at l;have p:=a.lt;clear a e i;go_enter func112,ntmps112;go_wp2;go_quiet (fail);go_wp2;go_ret;exact⟨rfl,_,rfl⟩
structure iH (w wr:U) (b m dY pb:Nat) (p:O) (l:List z) (es:List az) (D:List z) (r c:Int) (more:Bool) (v:V) (i:Nat) (j:Nat):Prop where
 fl:cK wr b p l m es dY
 dv:X wr pb #[v,F K (gx r c (D.take j)).1,F K (gx r c (D.take j)).2,F K p.ep,L more] 146
 row:wr.ownsRow 0 63 6 v i ((D.take i).flatMap cq)
 new:∀k,v.ownBlock=E k->w.heap.size<=k/\k≠pb/\k≠w.heap.size+1
 res:X wr (w.heap.size+1) #[C J 0 0,F K 0,F K 0,F K 0,L false] 146
 jr:w.heap.size<=pb/\pb≠w.heap.size+1
 mod:G No w wr
variable {B:U} {w Q P p S o:Nat} {j k:List z} {W:List az} {I v:Int} {R:V} {N:z->Bool} {i:List V} {n:Option Addr}
theorem iH.still{wr w2:U}{p:O}{d:List z}{more:Bool}{j:Nat}(a:iH B wr w Q P S p k W d I v more R o j)(c:G No wr w2):iH B w2 w Q P S p k W d I v more R o j:=
 ⟨⟨c.e a.fl.e (λb=>b),c.map a.fl.map (λb=>b),a.fl.ok,a.fl.rel⟩,c.e a.dv (λb=>b),c.owns a.row (λ_ _ b=>b),a.new,c.e a.res (λb=>b),a.jr,a.mod.trans c⟩
theorem DR(d c:Int)(a:List z)(b:Nat)(hi:b<a.length):gx d c (a.take (b+1))=(a[b].row,a[b].ae):=by
 rw[take_succ a b hi];unfold gx;rw[List.getLast?_append];simp
theorem iH.put{wr w3:U}{p:O}{more:Bool}{v':V}(b:iH B wr w Q P S p j W k I v more R o o)(hi:o<k.length)(n:Obj)(M:w3.ownsRow 0 63 6 v' (o+1) (((k.take o).flatMap cq)++cq k[o]))(y:(wr.alloc n).grownBy w3 R.ownBlock)(T:fm (wr.alloc n) R v')(x:w<B.heap.size)(H:Q<B.heap.size):
  iH B (w3.setCell (u S 0 J) v') w Q P S p j W k I v more v' (o+1) o:=by
 have r:G (λa=>R.ownBlock=E a) wr w3:=((G.refl _ wr).alloc n).grown y (λa d=>.inl d);have Z:=b.dv.lt;have aa:=b.res.lt;have e:G (λa=>R.ownBlock=E a\/a=S) wr (w3.setCell (u S 0 J) v'):=(r.mono (λ_ _ Y=>.inl Y)).setCell (p:=u S 0 J) (.inl (.inr rfl)) _;have l:∀a,a<B.heap.size->¬(R.ownBlock=E a\/a=S):=λa d=>by
  rintro(c|c)
  .have:=(b.new a c).1;omega
  .have:=b.jr.1;omega
 have s:∀a,v'.ownBlock=E a->B.heap.size<=a/\a≠S/\a≠B.heap.size+1:=λa d=>by
  obtain i|i:=T a d
  .exact b.new a i
  .have:=b.mod.size;simp at i;omega
 refine⟨⟨e.e b.fl.e (l w x),e.map b.fl.map (l Q H),b.fl.ok,b.fl.rel⟩,?_,?_,s,e.e b.res ?_,b.jr,b.mod.trans' e (λa d A=>l a A d)⟩
 .have N:X w3 S _ 146:=r.e b.dv (λc=>(b.new S c).2.1 rfl);exact N.set 0 v'
 .have:(k.take (o+1)).flatMap cq=(k.take o).flatMap cq++cq k[o]:=by rw[take_succ k o hi,jW];simp
  rw[this]
  exact jh M (by
   intro c
   exact(s S (by simpa using c)).2.1 rfl) _
 .rintro(c|c)
  .exact(b.new _ c).2.2 rfl
  .exact b.jr.2 c.symm
theorem iH.end_{wr:U}{p:O}{more:Bool}(a:iH B wr w Q P S p j W k I v more R (o+1) o)(hi:o<k.length)(l:w<B.heap.size)(r:Q<B.heap.size):iH B ((wr.setCell (u S 1 J) (F K k[o].row)).setCell (u S 2 J) (F K k[o].ae)) w Q P S p j W k I v more R (o+1) (o+1):=by
 have c:G (λb=>b=S) wr ((wr.setCell (u S 1 J) (F K k[o].row)).setCell (u S 2 J) (F K k[o].ae)):=((G.refl _ wr).at 1 _).at 2 _;have i:∀b,b<B.heap.size->¬b=S:=λb e d=>by have:=a.jr.1;omega
 refine⟨⟨c.e a.fl.e (i w l),c.map a.fl.map (i Q r),a.fl.ok,a.fl.rel⟩,?_,c.owns a.row (λb e d=>(a.new b e).2.1 d),a.new,c.e a.res (λd=>a.jr.2 d.symm),a.jr,a.mod.trans' c (λb e n=>i b n e)⟩;rw[DR I v k o hi];exact(a.dv.set 1 _).set 2 _
attribute [local go_sem ↓] vF vG
theorem iH.start{w:U}{p:O}(b:cK B Q p j P W S)(e:G No w B)(i:X B (w.heap.size+1) #[C J 0 0,F K 0,F K 0,F K 0,L false] 146)(D:List z)(r c:Int)(more:Bool):iH w (B.alloc (m #[C J 0 0,F K r,F K c,F K p.ep,L more] 146)) Q P S B.heap.size p j W D r c more (C J 0 0) 0 0:=by
 have d:G No B (B.alloc (m #[C J 0 0,F K r,F K c,F K p.ep,L more] 146)):=(G.refl _ _).alloc _;refine⟨⟨d.e b.e (λa=>a),d.map b.map (λa=>a),b.ok,b.rel⟩,X.new B _ _,by simpa using dx _ _ _ _,λl k=>by simp[aV] at k,d.e i (λa=>a),⟨e.size,?_⟩,e.trans d⟩;have:=i.lt;omega
theorem iH.Nn{a:U}{p:O}(b:cK a w p j Q W P)(n:G No B a)(s:X a (B.heap.size+1) #[C J 0 0,F K 0,F K 0,F K 0,L false] 146)(o:X a S #[C J 0 0,F K 0,F K 0,F K 0,L false] 146)(r:B.heap.size<=S/\S≠B.heap.size+1)(v:w<B.heap.size)(y:Q<B.heap.size)(k:List z)(e d:Int)(more:Bool):
  iH B (((((a.setCell (u S 0 J) (C J 0 0)).setCell (u S 1 J) (F K e)).setCell (u S 2 J) (F K d)).setCell (u S 3 J) (F K p.ep)).setCell (u S 4 J) (L more)) w Q P S p j W k e d more (C J 0 0) 0 0:=by
 have c:G (λi=>i=S) a (((((a.setCell (u S 0 J) (C J 0 0)).setCell (u S 1 J) (F K e)).setCell (u S 2 J) (F K d)).setCell (u S 3 J) (F K p.ep)).setCell (u S 4 J) (L more)):=(((((G.refl _ a).at 0 _).at 1 _).at 2 _).at 3 _).at 4 _
 exact⟨⟨c.e b.e (by omega),c.map b.map (by omega),b.ok,b.rel⟩,((((o.set 0 _).set 1 _).set 2 _).set 3 _).set 4 _,by simpa using dx _ _ _ _,λi l=>by simp[aV] at l,c.e s (by omega),r,n.trans' c (λA hi x=>by omega)⟩
theorem fE{c:TypeId}(d:B.ownsRow 0 c w R Q i)(b:Nat)(a:R.ownBlock=E b):b<B.heap.size:=by
 obtain⟨_,e|⟨n,k,l,rfl,o,j,_⟩⟩:=d
 .rw[e.1] at a;simp[aV] at a
 .simp[aV] at a;subst a;exact X.lt j
theorem Np(b:U)(a:z):Reads (b.alloc (m #[F K a.row,F K a.ae,F K a.st,F K a.pa,F K a.cl,F K a.un] 63)) (C (E (u b.heap.size 0 J)) 1 1) 1 (cq a):=
 .inr ⟨(u b.heap.size 0 J),1,rfl,λd e hu=>by
  have c:=X.new b #[F K a.row,F K a.ae,F K a.st,F K a.pa,F K a.cl,F K a.un] 63
  rw[dE,bK,c.T,<-dy]
  exact hu⟩
theorem DS{a b:U}{pb:Nat}{p:O}{k n l:Array V}{e i aH:TypeId}{c:Nat}(y:b=a.drewN c)(d:cK a w p j Q W P)(s:G No B a)(r:X a S k e)(x:X a o n i)(v:X a pb l aH):cK b w p j Q W P/\G No B b/\X b S k e/\X b o n i/\X b pb l aH:=by
 subst y;exact⟨⟨d.e.drewN c,d.map,d.ok,d.rel⟩,s.drewN c,r.drewN c,x.drewN c,v.drewN c⟩
theorem Nq{p:O}(v:cK B w p j Q W P)(ae:aJ p j)(s o k size:Int)(a3:1<=size/\size<=30)(first:Nat)(cI:first<=j.length)(bl:∀d,G No B d->Calls h 114 #[g (E (u w 0 J)),t #[F K s,F K o,F K k]] d λb5 w'=>b5=q (aq #[F K (first:Int),F K 0])/\G No d w')(a:List z)(aW:a=(j.drop first).take size.toNat):
  Calls h 92 #[g (E (u w 0 J)),t #[F K s,F K o,F K k],F K size] B λk w'=>Told B w' k ⟨a,(gx s o a).1,(gx s o a).2,p.ep,decide (first+a.length<j.length),0⟩:=by
 have b8:j.length<=120:=bV.wf.jO ae;have bm:=ae.bounds;simp only at bm;have a0:=ae.len;simp only at a0;have bn:a.length=min size.toNat (j.length - first):=by rw[aW,eO,oZ]
 have aY:∀i (ao:i<a.length),∃hi:first+i<j.length,j[first+i]=a[i]:=λi ao=>by
  subst aW;have:first+i<j.length:=by omega
  refine⟨this,?_⟩;rw[rm,uI]
 have cJ:min ((first:Int)+size) (j.length:Int)=((first+a.length:Nat):Int):=by omega
 have br:K.wrap (p.rows* p.y)=p.rows* p.y:=bh _ (by omega) (by omega);have cL:K.wrap ((first:Int)+size)=(first:Int)+size:=bh _ (by omega) (by omega)
 have aL:=l λd (r:G No B d)=>(show Calls h 112 #[g (E (u w 0 J))] d λk w'=>k=q (F K (j.length:Int))/\∃av,w'=d.drewN av from by
  have:=Nm w _ _ p.rows p.y d (r.e v.e (λc=>c)) rfl rfl br
  rw[<-a0] at this
  exact this)
 obtain⟨aI,aU⟩:∃aI:Nat,p.y=(aI:Int):=⟨p.y.toNat,by omega⟩
 have bL:=l λd (r:G No B d) (i:Nat) (ao:i<a.length)=>(show Calls h 113 #[g (E (u w 0 J)),F K ((first:Int)+(i:Int))] d λk w'=>k=q (t #[F K a[i].row,F K a[i].ae])/\G No d w' from by
  obtain⟨hi,ak⟩:=aY i ao
  have:=wu w _ _ aI (first+i) d (r.e v.e (λc=>c)) (by rw[<-aU];rfl) (by omega) (by omega)
  have M:=ae.place (first+i) hi
  simp only at M
  rw[<-ak,M.1,M.2,aU,show(first:Int)+(i:Int)=((first+i:Nat):Int) by omega]
  exact this)
 have bP:=l λd (r:G No B d) (i:Nat) (ao:i<a.length)=>(show Calls h 115 #[g (E (u w 0 J)),t #[F K a[i].row,F K a[i].ae]] d λk w'=>k=q (t #[F K a[i].row,F K a[i].ae,F K a[i].st,F K a[i].pa,F K a[i].cl,F K a[i].un])/\G No d w' from by
  obtain⟨hi,ak⟩:=aY i ao
  rw[<-ak]
  exact La w Q _ _ _ _ _ _ _ d (r.e v.e (λc=>c)) rfl (λbX b7=>Da v ae (first+i) hi bX (r.trans b7)))
 have a7:=l bl;have aX:=v.e.lt;have a2:=(Array.getElem?_eq_some_iff.1 v.map).1;have ai:=l v;have bu:G No B ((B.alloc (m #[F K s,F K o,F K k] 43)).alloc (m #[C J 0 0,F K 0,F K 0,F K 0,L false] 146)):=((G.refl _ B).alloc _).alloc _;have aP:=l bu;have a5:=X.new (B.alloc (m #[F K s,F K o,F K k] 43)) #[C J 0 0,F K 0,F K 0,F K 0,L false] 146;rw[bW] at a5;have bd:=l a5
 have bc:=l ((X.new B #[F K s,F K o,F K k] 43).alloc (m #[C J 0 0,F K 0,F K 0,F K 0,L false] 146));have cG:¬size<1:=by omega
 have cH:¬size>30:=by omega
 have bE:=l bn;have a8:=l b8;have ba:=l (show decide ((first:Int)+(a.length:Int)<(j.length:Int))=decide (first+a.length<j.length) from decide_eq_decide.2 (by omega));clear bl v ae bm a0 aY br aU bu a5 a3 aW bn;go_enter func92,ntmps92;go_wp2_with fail;refine((b a7) _ (b aP)).mono ?_;rintro cD ct ⟨rfl,aG⟩;have bg:=l (aG.e (b bd) (λc=>c));have a6:=l (aG.e (b bc) (λc=>c));have aN:=l ((b aP).trans aG)
 clear aG a7 aP bd bc;go_wp2_with fail;refine((b aL) _ (b aN)).mono ?_;rintro cE H ⟨rfl,aH,rfl⟩;have aC:=l ((b bg).drewN aH);have ab:=l ((b a6).drewN aH);have R:=l ((b aN).drewN aH);clear bg a6 aN;generalize ct.drewN aH=H at *;have A:=l (show cK H w p j Q W P from⟨(b R).e (b ai).e (λc=>c),(b R).map (b ai).map (λc=>c),(b ai).ok,(b ai).rel⟩);obtain⟨b3,cv,cg⟩:=(b A).ep;have b0:=(b ab).T
 have ci:=(b ab).lt;go_wp2_with fail;go_cut [11] (λay ah=>∃y,ay=g (E (u y 0 J))/\Hid (iH B ah w Q P y p j W a s o (decide ((first:Int)+(a.length:Int)<(j.length:Int))) (C J 0 0) 0 0))
 case first=>
  have bY:=l (show cK H.drew w p j Q W P from⟨(b A).e.drew,(b A).map,(b A).ok,(b A).rel⟩);have bx:=l λ(d:U) (av:Nat) (r:d=H.drew.drewN av)=>DS (pb:=B.heap.size) r (b bY) (b R).drew (b ab).drew (b aC).drew (b ab).drew;have af:=(G.refl No H).alloc (m #[C J 0 0,F K 0,F K 0,F K 0,L false] 146);have bB:=l λ(d:U) (av:Nat) (r:d=(H.alloc (m #[C J 0 0,F K 0,F K 0,F K 0,L false] 146)).drew.drewN av)=>
   DS r (show cK (H.alloc (m #[C J 0 0,F K 0,F K 0,F K 0,L false] 146)).drew w p j Q W P from⟨(af.e (b A).e (λc=>c)).drew,af.map (b A).map (λc=>c),(b A).ok,(b A).rel⟩)
    ((b R).trans af).drew (af.e (b ab) (λc=>c)).drew (af.e (b aC) (λc=>c)).drew (X.new H _ _).drew
  have bS:=l (show B.heap.size<=H.heap.size/\H.heap.size≠B.heap.size+1 from⟨(b R).size,by have:=(b aC).lt;omega⟩);have bC:=l aX;have bI:=l a2;clear af
  go_region_with (first
   |(go_at_call 112;refine((b aL) _ (b R).drew).mono ?_;rintro b6 I ⟨rfl,a4,ar⟩;obtain⟨aa,au,T,ax,S⟩:=(b bx) _ a4 ar;have aT:=l aa;have aO:=l au;have aS:=l ax;have bf:=l S;have b1:=T.T;have cj:=T.lt;obtain⟨b4,cw,ch⟩:=aa.ep;clear ar aa au T ax S)
   |(go_at_call 112;refine((b aL) _ ((b R).alloc _).drew).mono ?_;rintro b6 I ⟨rfl,a4,ar⟩;obtain⟨aa,au,T,ax,S⟩:=(b bB) _ a4 ar;have aT:=l aa;have aO:=l au;have aS:=l ax;have bf:=l S;have b1:=T.T;have cj:=T.lt;have cP:=S.T;have cR:=S.aC;have cS:=S.lt;obtain⟨b4,cw,ch⟩:=aa.ep;clear ar aa au T ax S))
  all_goals go_wp2
  all_goals go_meet
  all_goals refine⟨_,rfl,l ?_⟩
  all_goals first
   |with_reducible exact iH.start (b aT) (b aO) (b aS) a s o _
   |with_reducible exact iH.Nn (b aT) (b aO) (b aS) (b bf) (b bS) (b bC) (b bI) a s o _
 case rest=>
  obtain⟨y,rfl,bo⟩:=hcut;obtain⟨cf,cn,co,cp,cr⟩:=fq tV;rw[b ba] at bo;generalize aF:decide (first+a.length<j.length)=more at *;have bJ:=l aF;clear aF;clear A ab aC R b3 cv cg b0 ci ba ai;go_wp2_with fail;go_loopw [12] (λay ah=>∃(e:Nat) (ag:V),ay=F K ((first:Int)+(e:Int))/\e<=a.length/\Hid (iH B ah w Q P y p j W a s o more ag e e)) (λay _=>first+a.length - (intOf ay).toNat)
  case atStart=>exact⟨0,C J 0 0,by simp,gr _,bo⟩
  case round=>
   obtain⟨e,ag,rfl,hi,n⟩:=hrel;by_cases ap:e<a.length
   .have b9:(first:Int)+(e:Int)<(first:Int)+(a.length:Int):=by omega
    have ca:(e:Int)<(a.length:Int):=by omega
    have bM:=l λd (r:G No B d)=>(b bL) d r e ap;have bQ:=l λd (r:G No B d)=>(b bP) d r e ap;have a9:=l ap;have aK:=l (show e+1<=120 from by have:=b bE;have:=b a8;omega);have bO:=l λ(wr w3:U) (ag bv:V) (v:iH B wr w Q P y p j W a s o more ag e e) (aw:Obj) cb ak a3=>(v.put ap aw (v':=bv) (w3:=w3) cb ak a3 aX a2)
    have bF:=l λ(wr:U) (ag:V) (v:iH B wr w Q P y p j W a s o more ag (e+1) e)=>v.end_ ap aX a2;generalize ce:a[e]=x at *;clear ce;go_wp2_with fail;refine((b bM) _ (b n).mod).mono ?_;rintro cF w3 ⟨rfl,bs⟩;have ad:=l ((b n).still bs);obtain⟨aD,aE,rfl⟩:=aR (b ad).row;clear bs n;go_upto_region 12 with fail;have bt:G No w3 (w3.alloc (m #[F K x.row,F K x.ae] 36)):=(G.refl _ w3).alloc _
    have aj:=l ((b ad).still bt);have aA:=l (X.new w3 #[F K x.row,F K x.ae] 36)
    have bT:=l (show E w3.heap.size≠(C aD e aE).ownBlock from λk=>by
     have:=fE (b ad).row _ k.symm
     omega)
    have aQ:=l (show E y≠(C aD e aE).ownBlock from λk=>((b ad).new y k.symm).2.1 rfl);have bU:=l (show ¬w3.heap.size=y from λk=>by have:=(b ad).dv.lt;omega);generalize w3.alloc (m #[F K x.row,F K x.ae] 36)=cu at *;generalize w3.heap.size=cs at *;clear bt ad;go_cut [] (λah=>Hid (∃bZ b2,iH B ah w Q P y p j W a s o more (C bZ (e+1) b2) (e+1) e)/\Hid (X ah cs #[F K x.row,F K x.ae] 36))
    case first=>
     have cU:=(b aj).dv.T;have cW:=(b aj).dv.aC;have cZ:=(b aj).dv.lt;have cx:=(b aA).T;have cA:=(b aA).lt;have bb:=l ((b aj).still (G.refl No cu).drew);have bz:=l (b aA).drew
     go_region_law (first
      |(refine fP rfl 115 _ _ rfl #[g (E (u w 0 J)),t #[F K x.row,F K x.ae]] (by simp[aM,bN]) (λd=>by kernel_rfl) _ _ ((b bQ) _ (b bb).mod) ?_;intro I a1;have N:=l ((b bb).still a1);have bA:=l (a1.e (b bz) (λc=>c));have cV:=(b N).dv.T;have cX:=(b N).dv.aC;have c0:=(b N).dv.lt;clear a1)
      |(refine tR rfl (.tmp 59) (.tmp 63) 61 rfl 63 cf _ 6 48 qT cn co cp cr rfl (by decide) (C aD e aE) e _ (by simp[aM,bN]) (by exact((b N).still ((G.refl No I).alloc _)).row) (C (E (u I.heap.size 0 J)) 1 1) 1 (cq x) (by simp[aM,bN]) (by exact Np I x) rfl (by intro c1 hu;simp[cq,eB] at hu;obtain rfl|rfl|rfl|rfl|rfl|rfl:=hu<;>rfl) (by unfold maxLen;have:=b aK;omega) (by have:=b aK;omega) ?_;intro bv bw bp am cd;obtain⟨bi,bk,rfl⟩:=aR bp;have ck:=(X.grown (((G.refl No I).alloc _).e (b N).dv (λc=>c)) am (b aQ)).T;have cl:=(X.grown (((G.refl No I).alloc _).e (b N).dv (λc=>c)) am (b aQ)).aC;have cm:=(X.grown (((G.refl No I).alloc _).e (b N).dv (λc=>c)) am (b aQ)).lt;have aB:=l (X.grown (((G.refl No I).alloc _).e (b bA) (λc=>c)) am (b bT))))
     all_goals go_wp2
     all_goals go_meet
     all_goals exact⟨l ⟨bi,bk,(b bO) I bw _ _ (b N) _ bp am cd⟩,l (((G.refl (λZ=>Z=y) bw).at 0 _).e (b aB) (b bU))⟩
    case rest=>
     obtain⟨Y,aB⟩:=hcut;obtain⟨bi,bk,Y⟩:=b Y;have bR:=l Y;have ck:=Y.dv.T;have cl:=Y.dv.aC;have cm:=Y.dv.lt;have cy:=(b aB).T;have cB:=(b aB).lt;have cM:K.wrap ((first:Int)+(e:Int)+1)=(first:Int)+((e+1:Nat):Int):=by
      have:=b a8;have:=b aK;rw[bh _ (by omega) (by omega)];omega
     clear Y aj aA;go_wp2;exact⟨⟨e+1,_,rfl,b a9,l ((b bF) _ _ (b bR))⟩,by simp[intOf];have:=b a9;omega⟩
   .have b9:¬((first:Int)+(e:Int)<(first:Int)+(a.length:Int)):=by omega
    have ca:¬((e:Int)<(a.length:Int)):=by omega
    have k:e=a.length:=by omega
    have bH:=l k;obtain⟨aD,aE,rfl⟩:=aR (b n).row;have cT:=(b n).dv.T;have cY:=(b n).dv.lt;have d0:wr.cell? ⟨B.heap.size+1,0,J⟩=E (C J 0 0):=(b n).res.T 0;have d1:wr.cell? ⟨B.heap.size+1,1,J⟩=E (F K 0):=(b n).res.T 1;have d2:wr.cell? ⟨B.heap.size+1,2,J⟩=E (F K 0):=(b n).res.T 2;have d3:wr.cell? ⟨B.heap.size+1,3,J⟩=E (F K 0):=(b n).res.T 3
    have d4:wr.cell? ⟨B.heap.size+1,4,J⟩=E (L false):=(b n).res.T 4;have f1:=(b n).res.aC;have cO:=(b n).res.lt;clear k;go_wp2;refine cN (by simp[results,results92,go_sem,d0,d1,d2,d3,d4];try rfl) rfl ?_;have k:=b bH;subst k;have M:∀aw,No (⟨B.heap.size+1,aw,J⟩:Addr).block\/B.heap.size<=(⟨B.heap.size+1,aw,J⟩:Addr).block:=λaw=>.inr (by simp);have bq:=(b n).row;have cc:=(b n).dv;rw[fN] at bq cc
    refine⟨⟨_,by have aF:=b bJ;subst aF;rw[fN],?_,λZ aZ=>((b n).new Z aZ).1⟩,(((((b n).mod.setCell (M 0) _).setCell (M 1) _).setCell (M 2) _).setCell (M 3) _).setCell (M 4) _⟩;exact((((G.refl (λZ=>Z=B.heap.size+1) wr).at 0 _).at 1 _).at 2 _|>.at 3 _|>.at 4 _).owns bq (λZ aZ k=>((b n).new Z aZ).2.2 k)
structure Ask (f:z->Bool):Prop where
 full:∀s,f s=true->s.st≠0
 at_:∀s x,f (z.at s x)=f s
theorem Ask.free(b:Ask N){a:z}(c:a.st=0):N a=false:=by
 cases d:N a with
 |false=>rfl
 |true=>exact absurd c (b.full a d)
def js(a:z->Bool)(b:z):Nat:=if a b=true then 1 else 0
theorem DT(a:z->Bool)(b:List z)(j:Nat)(d:j<b.length)(c:z):(b.set j c).countP a+js a b[j]=b.countP a+js a c:=by
 have:=countP_set a b j d c;unfold js
 cases e:a b[j]<;>cases i:a c<;>simp[e,i] at this ⊢ <;>omega
theorem Nr(c:z->Bool)(b:List z)(a:Nat)(d:a<b.length):(b.take (a+1)).countP c=(b.take a).countP c+js c b[a]:=by
 rw[take_succ b a d,qO];unfold js
 cases e:c b[a]<;>simp[e]
theorem count_empty(b:Ask N)(c:O):(aI c).countP N=0:=by
 rw[uh];intro e a;simp only[aI,kA] at a;obtain⟨d,_,rfl⟩:=a;rw[b.free rfl];simp
theorem DU(e:Ask N){p b:O}(k:aJ p j)(l:b.aY=true)(n:b.bI=true):∀a,a<=j.length->(stay b (j.take a)).countP N+(bY b (j.take a)).countP N=(j.take a).countP N
 |0,_=>by
  show(aI b).countP N+0=0;rw[count_empty e]
 |a+1,hi=>by
  have v:=DU e k l n a (by omega);have hS:=uk k l n a (by omega);rw[pP b j a (by omega),nE b j a (by omega),qO,Nr N j a (by omega)];unfold my;by_cases c:j[a].st≠0/\b.e j[a].row j[a].ae=true
  .rw[D c,f (λd=>d.2 c.2)];obtain⟨s,f0,_,_⟩:=hS.free k (by omega) c.2;have:=DT N (stay b (j.take a)) _ s j[a];have o:js N (stay b (j.take a))[b.idx j[a].row j[a].ae]=0:=by unfold js;rw[e.free f0];rfl
   simp only[List.countP_nil];omega
  .rw[f c];by_cases i:j[a].st=0
   .rw[f (λd=>d.1 i)];have o:js N j[a]=0:=by unfold js;rw[e.free i];rfl
    simp only[List.countP_nil];omega
   .rw[D ⟨i,λd=>c ⟨i,d⟩⟩];have:List.countP N [j[a]]=js N j[a]:=by
     unfold js
     cases r:N j[a]<;>simp[r]
    omega
theorem DV(d:Ask N){l:O}:∀(c a:List z),(∀b∈c,b.wf/\b.st≠0)->jU l a c.length->(c.foldl dh a).countP N=a.countP N+c.countP N
 |[],a,_,_=>by simp
 |b::c,a,j,p=>by
  have k:jU l a (c.length+1):=p;have i:=j b (qB);have s:=DV d c (dh a b) (λv r=>j v (rN _ r)) (k.step i.1 i.2);have e:=v8 k;have n:a.getD (dL a) kT=a[dL a]:=by
   rw[qR,du e];rfl
  have y:=DT N a (dL a) e (z.at b a[dL a]);have w:js N a[dL a]=0:=by unfold js;rw[d.free (v9 e)];rfl
  have x:js N (z.at b a[dL a])=js N b:=by unfold js;rw[d.at_]
  have o:(dh a b).countP N=a.countP N+js N b:=by
   unfold dh;rw[n];omega
  rw[jT,s,o,mW];unfold js;omega
theorem Ns(b:Ask N){p q:O}(a:aJ p j)(c:q.aY=true)(d:q.bI=true)(e:¬q.rows* q.y<(cG j:Int)):(gR q j).countP N=j.countP N:=by
 unfold gR;rw[DV b _ _ (um a) (we a c d e)];have:=DU b a c d j.length (cz _);rw[fN] at this;exact this
noncomputable def DW(a:Nat):Code:=ub (f66.body.getD .skip) a
theorem Nt{I:Int}(aR:X B w (bS I) 63)(aD:bp 63 6 B R Q)(cK:Q+3<=1000000)(ai:∀a,R.ownBlock=E a->a≠w)(aL:Exit->Act->U->Prop)(aT aZ a0 cq bx bC bE bF aU aW aX aY b9 ca cb cc cd ce cf cg ch ci cj ck cl cm cn co cp a1 a2 a3 a4 a5 a6 a7 a8 a9 ba bb bc bd bf bg bh bi bk bl bm bn bo bq br bs bt bu bv bw bz bA bB:V)
  (aO:∀(cr cs ct cu cv cw cx cy cA cB cD cE cF cG cH cI cJ:V) (y:Nat) (r s v:V) (d:U),Hid (G (λa=>R.ownBlock=E a) B d/\X d w (bS I) 63/\bp 63 6 d R Q/\X d y #[R,r,s,v] 61/\B.heap.size<=y/\(bp 63 6 d r (Q+1)/\∀a,r.ownBlock=E a->a≠y/\(R.ownBlock=E a\/B.heap.size<=a))/\(bp 63 6 d s (Q+2)/\∀a,s.ownBlock=E a->a≠y/\(R.ownBlock=E a\/B.heap.size<=a))/\(bp 63 6 d v (Q+3)/\∀a,v.ownBlock=E a->a≠y/\(R.ownBlock=E a\/B.heap.size<=a)))->aL .normal ⟨#[aT,R,aZ,a0,g (E (u w 0 J)),C (E (u y 0 J)) 4 4,bx,bC,bE,bF,aU,aW,aX,aY,cr,cs,ct,cu,cv,cw,cx,cy,cA,cB,cD,cE,cF,cG,cH,cI,cJ,a1,a2,a3,a4,a5,a6,a7,a8,a9,ba,bb,bc,bd,bf,bg,bh,bi,bk,bl,bm,bn,bo,bq,br,bs,bt,bu,bv,bw,bz,bA,bB],[]⟩ d):
  Code.wp h (DW 1) aL ⟨#[aT,R,aZ,a0,g (E (u w 0 J)),cq,bx,bC,bE,bF,aU,aW,aX,aY,b9,ca,cb,cc,cd,ce,cf,cg,ch,ci,cj,ck,cl,cm,cn,co,cp,a1,a2,a3,a4,a5,a6,a7,a8,a9,ba,bb,bc,bd,bf,bg,bh,bi,bk,bl,bm,bn,bo,bq,br,bs,bt,bu,bv,bw,bz,bA,bB],[]⟩ B:=by
 conv=>arg 4;dsimp only
 conv=>arg 2;whnf
 obtain⟨aE,ap,ar,av,ax⟩:=fq L7;have aQ:=aD.lt;have aH:=l aO;clear aO;refine vR (n:=63) (λd=>G (λa=>R.ownBlock=E a) B d/\X d w (bS I) 63/\bp 63 6 d R Q) (cY 63 6 R.ownBlock) (sQ B R Q I) (by kernel_rfl) rfl (by kernel_rfl) (λi P d bX O n=>n.fW aQ i P d bX O) ?_ ?_ ⟨(G.refl _ B).drew,aR.drew,aD⟩
 .intro i b8 e d ah S c hd;have hi:i<18:=(Array.getElem?_eq_some_iff.1 ah).1;have ag:e.tmps[1]?.getD undef=R:=by simpa using S.rest 1 (by kernel_rfl)
  have M:e.eval (.tmp 1)=R:=S.rest 1 (by kernel_rfl);have x:e.eval (.tmp 4)=g (E (u w 0 J)):=S.rest 4 (by kernel_rfl);clear aH S;have b7:i=0\/i=1\/i=2\/i=3\/i=4\/i=5\/i=6\/i=7\/i=8\/i=9\/i=10\/i=11\/i=12\/i=13\/i=14\/i=15\/i=16\/i=17:=by omega
  obtain rfl|rfl|rfl|rfl|rfl|rfl|rfl|rfl|rfl|rfl|rfl|rfl|rfl|rfl|rfl|rfl|rfl|rfl:=b7
  all_goals
   replace ah:=bD (show E _=E b8 from ah);subst ah
  .clear hd;refine dR _ rfl ?_;exact⟨_,rfl,c,cY.refl _ _ _ _,M⟩
  .clear hd;refine dR _ rfl ?_;exact⟨_,rfl,c,cY.refl _ _ _ _,M⟩
  .clear hd;refine wp_load_mid _ _ rfl w 0 x (bS I).toList pV (c.2.1.range 0 _ (λad P n=>by rw[bK,<-dy];exact n)) qY (by kernel_rfl) (by kernel_rfl) ?_;exact⟨_,rfl,c,cY.refl _ _ _ _,rfl⟩
  .have bH:e.tmps[16]?.getD undef=t (bS I):=by simpa using (show e.tmps.getD 16 undef=_ from hd ⟨2,.data⟩ (by simp) rfl)
   clear hd ag x;unfold bS at bH;go_simp;refine⟨_,rfl,⟨c.1.alloc _,c.2.1.alloc _,c.2.2.mod ((G.refl No d).alloc _) (λ_ _ o=>o)⟩,cY.alloc _ _ _ _ _,d.heap.size,rfl,X.new d _ _,c.1.size⟩
  .have N:e.eval (.tmp 15)=R:=hd ⟨1,.data⟩ (by simp) rfl;obtain⟨k,T,Y,aN⟩:∃k,e.eval (.tmp 17)=C (E (u k 0 J)) 1 1/\X d k (bS I) 63/\B.heap.size<=k:=hd ⟨3,.data⟩ (by simp) rfl;obtain⟨H,z⟩:=c.2.2
   refine pH _ _ 61 rfl 63 aE _ 6 48 qT ap ar av ax rfl (by decide) R Q H N z _ 1 (bS I).toList T (zo Y) (by simp[bS]) (λae hu=>wI I ae (by revert hu;simp only[bS,uH,jR];intro hu;simpa only[or_self] using hu)) (by unfold maxLen;omega) (by omega) ?_;intro af w' ab j O A _;refine⟨af,rfl,⟨?_,?_,?_⟩,cY.app z j A,⟨_,ab⟩,λa Z=>?_⟩
   .exact c.1.grown j (λaS aa=>.inl aa)
   .exact c.2.1.grown j (λW=>ai w W.symm rfl)
   .exact⟨H,A⟩
   .obtain p|p:=O a Z
    .exact .inl p
    .exact .inr (cC c.1.size p)
  .clear hd;refine dR _ rfl ?_;exact⟨_,rfl,c,cY.refl _ _ _ _,M⟩
  .clear hd;refine wp_load_mid _ _ rfl w 0 x (bS I).toList pV (c.2.1.range 0 _ (λad P n=>by rw[bK,<-dy];exact n)) qY (by kernel_rfl) (by kernel_rfl) ?_;exact⟨_,rfl,c,cY.refl _ _ _ _,rfl⟩
  .clear hd;refine wp_load_mid _ _ rfl w 0 x (bS I).toList pV (c.2.1.range 0 _ (λad P n=>by rw[bK,<-dy];exact n)) qY (by kernel_rfl) (by kernel_rfl) ?_;exact⟨_,rfl,c,cY.refl _ _ _ _,rfl⟩
  .have bI:e.tmps[20]?.getD undef=t (bS I):=by simpa using (show e.tmps.getD 20 undef=_ from hd ⟨6,.data⟩ (by simp) rfl)
   have bJ:e.tmps[21]?.getD undef=t (bS I):=by simpa using (show e.tmps.getD 21 undef=_ from hd ⟨7,.data⟩ (by simp) rfl)
   clear hd ag x;unfold bS at bI bJ;go_simp;refine⟨_,rfl,⟨c.1.alloc _,c.2.1.alloc _,c.2.2.mod ((G.refl No d).alloc _) (λ_ _ o=>o)⟩,cY.alloc _ _ _ _ _,d.heap.size,rfl,X.new d _ _,c.1.size⟩
  .have N:e.eval (.tmp 19)=R:=hd ⟨5,.data⟩ (by simp) rfl;obtain⟨k,T,Y,aN⟩:∃k,e.eval (.tmp 22)=C (E (u k 0 J)) 2 2/\X d k (bS I++bS I) 63/\B.heap.size<=k:=hd ⟨8,.data⟩ (by simp) rfl;obtain⟨H,z⟩:=c.2.2
   refine pH _ _ 61 rfl 63 aE _ 6 48 qT ap ar av ax rfl (by decide) R Q H N z _ 2 (bS I++bS I).toList T (zo Y) (by simp[bS]) (λae hu=>wI I ae (by revert hu;simp only[bS,uH,jR];intro hu;simpa only[or_self] using hu)) (by unfold maxLen;omega) (by omega) ?_;intro af w' ab j O A _;refine⟨af,rfl,⟨?_,?_,?_⟩,cY.app z j A,⟨_,ab⟩,λa Z=>?_⟩
   .exact c.1.grown j (λaS aa=>.inl aa)
   .exact c.2.1.grown j (λW=>ai w W.symm rfl)
   .exact⟨H,A⟩
   .obtain p|p:=O a Z
    .exact .inl p
    .exact .inr (cC c.1.size p)
  .clear hd;refine dR _ rfl ?_;exact⟨_,rfl,c,cY.refl _ _ _ _,M⟩
  .clear hd;refine wp_load_mid _ _ rfl w 0 x (bS I).toList pV (c.2.1.range 0 _ (λad P n=>by rw[bK,<-dy];exact n)) qY (by kernel_rfl) (by kernel_rfl) ?_;exact⟨_,rfl,c,cY.refl _ _ _ _,rfl⟩
  .clear hd;refine wp_load_mid _ _ rfl w 0 x (bS I).toList pV (c.2.1.range 0 _ (λad P n=>by rw[bK,<-dy];exact n)) qY (by kernel_rfl) (by kernel_rfl) ?_;exact⟨_,rfl,c,cY.refl _ _ _ _,rfl⟩
  .clear hd;refine wp_load_mid _ _ rfl w 0 x (bS I).toList pV (c.2.1.range 0 _ (λad P n=>by rw[bK,<-dy];exact n)) qY (by kernel_rfl) (by kernel_rfl) ?_;exact⟨_,rfl,c,cY.refl _ _ _ _,rfl⟩
  .have bL:e.tmps[25]?.getD undef=t (bS I):=by simpa using (show e.tmps.getD 25 undef=_ from hd ⟨11,.data⟩ (by simp) rfl)
   have bM:e.tmps[26]?.getD undef=t (bS I):=by simpa using (show e.tmps.getD 26 undef=_ from hd ⟨12,.data⟩ (by simp) rfl)
   have bO:e.tmps[27]?.getD undef=t (bS I):=by simpa using (show e.tmps.getD 27 undef=_ from hd ⟨13,.data⟩ (by simp) rfl)
   clear hd ag x;unfold bS at bL bM bO;go_simp;refine⟨_,rfl,⟨c.1.alloc _,c.2.1.alloc _,c.2.2.mod ((G.refl No d).alloc _) (λ_ _ o=>o)⟩,cY.alloc _ _ _ _ _,d.heap.size,rfl,X.new d _ _,c.1.size⟩
  .have N:e.eval (.tmp 24)=R:=hd ⟨10,.data⟩ (by simp) rfl;obtain⟨k,T,Y,aN⟩:∃k,e.eval (.tmp 28)=C (E (u k 0 J)) 3 3/\X d k (bS I++bS I++bS I) 63/\B.heap.size<=k:=hd ⟨14,.data⟩ (by simp) rfl;obtain⟨H,z⟩:=c.2.2
   refine pH _ _ 61 rfl 63 aE _ 6 48 qT ap ar av ax rfl (by decide) R Q H N z _ 3 (bS I++bS I++bS I).toList T (zo Y) (by simp[bS]) (λae hu=>wI I ae (by revert hu;simp only[bS,uH,jR];intro hu;simpa only[or_self] using hu)) (by unfold maxLen;omega) (by omega) ?_;intro af w' ab j O A _;refine⟨af,rfl,⟨?_,?_,?_⟩,cY.app z j A,⟨_,ab⟩,λa Z=>?_⟩
   .exact c.1.grown j (λaS aa=>.inl aa)
   .exact c.2.1.grown j (λW=>ai w W.symm rfl)
   .exact⟨H,A⟩
   .obtain p|p:=O a Z
    .exact .inl p
    .exact .inr (cC c.1.size p)
  .have N:e.tmps[14]?.getD undef=R:=by simpa using (show e.tmps.getD 14 undef=_ from hd ⟨0,.data⟩ (by simp) rfl)
   obtain⟨f1,az⟩:bp 63 6 d (e.tmps[18]?.getD undef) (Q+1)/\∀a,(e.tmps[18]?.getD undef).ownBlock=E a->R.ownBlock=E a\/B.heap.size<=a:=by simpa using (show bp 63 6 d (e.tmps.getD 18 undef) (Q+1)/\∀a,(e.tmps.getD 18 undef).ownBlock=E a->R.ownBlock=E a\/B.heap.size<=a from hd ⟨4,.data⟩ (by simp) rfl)
   obtain⟨f2,aA⟩:bp 63 6 d (e.tmps[23]?.getD undef) (Q+2)/\∀a,(e.tmps[23]?.getD undef).ownBlock=E a->R.ownBlock=E a\/B.heap.size<=a:=by simpa using (show bp 63 6 d (e.tmps.getD 23 undef) (Q+2)/\∀a,(e.tmps.getD 23 undef).ownBlock=E a->R.ownBlock=E a\/B.heap.size<=a from hd ⟨9,.data⟩ (by simp) rfl)
   obtain⟨f3,aB⟩:bp 63 6 d (e.tmps[29]?.getD undef) (Q+3)/\∀a,(e.tmps[29]?.getD undef).ownBlock=E a->R.ownBlock=E a\/B.heap.size<=a:=by simpa using (show bp 63 6 d (e.tmps.getD 29 undef) (Q+3)/\∀a,(e.tmps.getD 29 undef).ownBlock=E a->R.ownBlock=E a\/B.heap.size<=a from hd ⟨15,.data⟩ (by simp) rfl)
   obtain⟨bY,b2,el⟩:=c.2.2.slice;obtain⟨r,M⟩:∃r,e.tmps[18]?.getD undef=r:=⟨_,rfl⟩;obtain⟨s,aF⟩:∃s,e.tmps[23]?.getD undef=s:=⟨_,rfl⟩;obtain⟨v,aG⟩:∃v,e.tmps[29]?.getD undef=v:=⟨_,rfl⟩;rw[M] at f1 az;rw[aF] at f2 aA;rw[aG] at f3 aB;obtain⟨bZ,b3,au⟩:=f1.slice;obtain⟨b0,b4,aw⟩:=f2.slice;obtain⟨b1,b5,ay⟩:=f3.slice;have ak:=f1;have am:=f2;have ao:=f3;have bV:=l c
   have aI:=l (⟨ak,λa j=>⟨pG (ak.lt a j),az a j⟩⟩:bp 63 6 d r (Q+1)/\∀a,r.ownBlock=E a->a≠d.heap.size/\(R.ownBlock=E a\/B.heap.size<=a));have aJ:=l (⟨am,λa j=>⟨pG (am.lt a j),aA a j⟩⟩:bp 63 6 d s (Q+2)/\∀a,s.ownBlock=E a->a≠d.heap.size/\(R.ownBlock=E a\/B.heap.size<=a))
   have aK:=l (⟨ao,λa j=>⟨pG (ao.lt a j),aB a j⟩⟩:bp 63 6 d v (Q+3)/\∀a,v.ownBlock=E a->a≠d.heap.size/\(R.ownBlock=E a\/B.heap.size<=a));rw[el] at N;rw[au] at M;rw[aw] at aF;rw[ay] at aG;have bP:=l el;have bQ:=l au;have bR:=l aw;have bT:=l ay;clear el au aw ay;clear f1 f2 f3 az aA aB ak am ao c hd ag x aQ aR aD ai;go_simp;have c:=b bV
   have aj:G No d (d.alloc (m #[C bY Q b2,C bZ (Q+1) b3,C b0 (Q+2) b4,C b1 (Q+3) b5] 61)):=(G.refl No d).alloc _;refine⟨_,rfl,⟨c.1.alloc _,c.2.1.alloc _,c.2.2.mod aj (λ_ _ o=>o)⟩,cY.alloc _ _ _ _ _,d.heap.size,r,s,v,rfl,?_,c.1.size,⟨(b aI).1.mod aj (λ_ _ o=>o),(b aI).2⟩,⟨(b aJ).1.mod aj (λ_ _ o=>o),(b aJ).2⟩,⟨(b aK).1.mod aj (λ_ _ o=>o),(b aK).2⟩⟩;rw[b bP,b bQ,b bR,b bT];exact X.new d _ _
  .have bU:sQ B R Q I 17 (e.eval (.tmp 30)) d:=hd ⟨16,.data⟩ (by simp) rfl;clear hd;refine sy _ rfl ?_;exact⟨_,rfl,c,cY.refl _ _ _ _,bU⟩
 .intro e d S c hF;obtain⟨y,r,s,v,aC,b6⟩:=hF 17 (by decide);have aC:e.tmps.getD 5 undef=C (E (u y 0 J)) 4 4:=aC;have aP:=S.lit;rw[aP];clear aP;simp only[oW,oX,jT,nM,oY,nN,nO,aC];exact(b aH) _ _ _ _ _ _ _ _ _ _ _ _ _ _ _ _ _ y r s v d ⟨c.1,c.2.1,c.2.2,b6⟩
def sU(lv b a:V):Array V:=#[lv,a,b]
structure wQ (w w':U) (yb L:Nat) (lv xv ov l:V) (xs:List V) (xv':V) (rb:Nat) (hs:Array V):Prop where
 e:X w' yb (sU lv xv' ov) 34
 row:w'.ownsRow 0 65 1 xv' (L+1) (xs++[C (E (u rb 0 J)) 4 4])
 box:X w' rb hs 66
 size:hs.size=4
 each:∀(j:Nat) (v:V),hs[j]? =E v->∃m,bp 68 3 w' v m/\iD 3 (bQ L).toList w' v m/\m<=1000000/\∀g,v.ownBlock=E g->g≠rb/\g≠yb/\xv'.ownBlock≠E g/\(l.ownBlock=E g\/w.heap.size<=g)
 uJ:w.heap.size<=rb/\xv'.ownBlock≠E rb
 own:∀g,xv'.ownBlock=E g->g≠yb/\(xv.ownBlock=E g\/w.heap.size<=g)
 mod:G (λg=>g=yb\/l.ownBlock=E g\/xv.ownBlock=E g) w w'
theorem Nu{M k y:U}{lv I r ah ai aj v:V}(aC:r=C n P o)(hy:X B Q (sU lv R I) 34)(W:G No B M)(aK:w<M.heap.size)(aw:B.ownsRow 0 65 1 R p i)(O:∀a,r.ownBlock=E a->a≠Q/\R.ownBlock≠E a)(ae:R.ownBlock≠E Q)(s:nQ p (λa=>r.ownBlock=E a) M k w S #[r,ah,ai,aj] #[P,P+1,P+2,P+3] 4 0)(aD:∀a,r.ownBlock=E a->a<B.heap.size)(aH:M.heap.size<=S)(aG:P+3<=1000000)
  (au:y.ownsRow 0 65 1 v (p+1) (i++[C (E (u S 0 J)) 4 4]))(ak:(k.alloc (m #[C (E (u S 0 J)) 4 4] 65)).grownBy y R.ownBlock)(av:fm (k.alloc (m #[C (E (u S 0 J)) 4 4] 65)) R v):wQ B (y.setCell (u Q 2 J) v) Q p lv R I r i v S #[r,ah,ai,aj]:=by
 have aJ:=hy.lt;have ad:=λaf N=>fE aw af N;have aE:=W.size;have aF:=s.mod.size;have aI:=s.kF.lt;have ag:G (λa=>R.ownBlock=E a) k y:=((G.refl _ k).alloc _).grown ak (λaf N=>.inl N);have H:G (λa=>R.ownBlock=E a\/a=Q) k (y.setCell (u Q 2 J) v):=(ag.mono (λ_ _ j=>.inl j)).trans ((G.refl _ _).setCell (p:=u Q 2 J) (.inl (.inr rfl)) _)
 have ay:X k Q (sU lv R I) 34:=s.mod.e (W.e hy (λj=>j)) (λb=>(O Q b).1 rfl);have ax:X y Q (sU lv R I) 34:=ag.e ay ae;have ab:R.ownBlock≠E S:=λb=>by have:=ad S b;omega
 have z:∀a,v.ownBlock=E a->a≠Q/\(R.ownBlock=E a\/k.heap.size<a):=λa d=>by
  obtain c|c:=av a d
  .exact⟨λb=>ae (by rw[<-b];exact c),.inl c⟩
  .rw[bW] at c;exact⟨by omega,.inr (by omega)⟩
 refine⟨?_,jh au (a:=u Q 2 J) (λb=>(z Q b).1 rfl) _,H.e s.kF ?_,rfl,λl aa T=>?_,⟨by omega,λb=>?_⟩,λa d=>⟨(z a d).1,(z a d).2.imp id (λc=>by omega)⟩,?_⟩
 .exact ax.set 2 v
 .rintro(b|b)
  .exact ab b
  .omega
 .have am:l<4:=(Array.getElem?_eq_some_iff.1 T).1;have ar:∃e,(#[P,P+1,P+2,P+3]:Array Nat)[l]? =E e:=⟨_,da (by simpa using am)⟩;obtain⟨e,x⟩:=ar;obtain⟨Y,Z⟩:=s.sl l aa e T x;have az:=s.full l aa e (by omega) T x;have A:∀a,aa.ownBlock=E a->¬(R.ownBlock=E a\/a=Q):=λa d b=>by
   obtain⟨_,_,c⟩:=Z a d;obtain b|b:=b
   .obtain c|c:=c
    .exact(O a c).2 b
    .have:=ad a b;omega
   .obtain c|c:=c
    .exact(O a c).1 b
    .omega
  have ap:e<=1000000:=by
   have ao:l=0\/l=1\/l=2\/l=3:=by omega
   obtain rfl|rfl|rfl|rfl:=ao
   .obtain rfl:=bD (show E P=E e from x);omega
   .obtain rfl:=bD (show E (P+1)=E e from x);omega
   .obtain rfl:=bD (show E (P+2)=E e from x);omega
   .obtain rfl:=bD (show E (P+3)=E e from x);omega
  refine⟨e,Y.mod H A,az.mod H (λa d=>⟨Y.lt a d,A a d⟩),ap,λa d=>⟨(Z a d).2.1,λb=>A a d (.inr b),λb=>?_,(Z a d).2.2.imp id (λc=>by omega)⟩⟩;obtain c|c:=(z a b).2
  .exact A a d (.inl c)
  .have:=Y.lt a d;omega
 .obtain c|c:=(z S b).2
  .exact ab c
  .omega
 .have aA:=(W.trans (S:=No) (G.refl _ _)).mono (S':=λa=>a=Q\/r.ownBlock=E a\/R.ownBlock=E a) (λ_ _ j=>j.elim);exact(aA.trans (s.mod.mono (λ_ _ j=>.inr (.inl j)))).trans (H.mono (λ_ _ j=>j.elim (λaB=>.inr (.inr aB)) .inl))
theorem Nv{w:U}{lv ov:V}(hy:X w Q (sU lv R ov) 34)(aG:w.ownsRow 0 65 1 R S i)(ax:S<=1099511627776)(aB:bp 68 3 w (C n P p) P)(aD:P+3<=1000000)(a3:∀a,(C n P p).ownBlock=E a->a≠Q/\R.ownBlock≠E a)(a5:R.ownBlock≠E Q):Calls h 42 #[g (E (u Q 1 J)),C n P p] w λs w'=>s=q (aq #[])/\∃bF e bx,wQ w w' Q S lv R ov (C n P p) i bF e bx:=by
 obtain⟨ar,au,rfl⟩:=aR aG;have bH:w.cell? (u Q 2 J)=E (C ar S au):=hy.T 2;have a9:=hy.lt;have a0:=l (X.new w (bQ S) 68);have aC:G No w (w.alloc (m (bQ S) 68)):=(G.refl _ w).alloc _;have am:=l aC;have ak:=l (aB.mod aC (λ_ _ x=>x));have I:=l aB.lt;have aX:=l hy;have aT:=l aG;have aa:=l a3;have aW:=l a5;have ap:=l (show w.heap.size<(w.alloc (m (bQ S) 68)).heap.size from by simp)
 obtain⟨j,ad⟩:∃j,j=C n P p:=⟨_,rfl⟩;have bd:=l ad;rw[<-ad] at ak I aa;unfold sU at hy;clear hy aG aB a3 a5 aC;have bc:=l ax;go_enter func42,ntmps42;rw[<-ad];clear ad;go_upto_region 1 with fail;have a1:(w.alloc (m #[F K (-9),F K 0,F K (S:Int)] 68))=w.alloc (m (bQ S) 68):=rfl;rw[a1];clear a1;generalize w.alloc (m (bQ S) 68)=B at *;generalize aH:w.heap.size=ag at *;have bg:=l aH;clear bH a9 aH
 refine Nk (b a0) (b ak) aD (λa k=>pG ((b I) a k)) _ _ _ _ _ _ _ _ _ _ _ _ _ _ _ _ _ _ _ _ _ _ _ _ _ _ _ _ _ _ _ _ _ _ _ _ _ _ _ _ _ _ _ _ _ _ _ _ _ _ _ _ _ _ _ _ _ _ _ _ _ _ ?_;intro bZ b0 b1 b2 b3 b4 b5 b6 b7 b8 b9 ca cb cc cd ce cf e W Y Z ao aN;obtain⟨a7,ba,a6,a8,rn,N,O,T⟩:=b aN;have bi:=l (λa k=>Nat.lt_trans ((b I) a k) (b ap):∀a,j.ownBlock=E a->a<B.heap.size)
 have aL:=l (show nQ S (λa=>j.ownBlock=E a) B ao ag e #[j,W,Y,Z] #[P,P+1,P+2,P+3] 0 0 from⟨a7,ba,a8,λy A d M o=>by
  have a2:y<4:=(Array.getElem?_eq_some_iff.1 M).1
  have aH:=b ap
  have af:∀(v:V) (aJ:Nat),bp 68 3 ao v aJ->(∀a,v.ownBlock=E a->a≠e/\(j.ownBlock=E a\/B.heap.size<=a))->bp 68 3 ao v aJ/\∀a,v.ownBlock=E a->a≠ag/\a≠e/\(j.ownBlock=E a\/B.heap.size<=a):=λv aJ bs aw=>⟨bs,λa k=>⟨λs=>by
   obtain c|c:=(aw a k).2
   .have:=(b I) a c;omega
   .omega,(aw a k).1,(aw a k).2⟩⟩
  have aA:y=0\/y=1\/y=2\/y=3:=by omega
  obtain rfl|rfl|rfl|rfl:=aA
  .obtain rfl:=bD (show E j=E A from M)
   obtain rfl:=bD (show E P=E d from o)
   exact af _ _ a6 (λa k=>⟨λs=>by have:=(b bi) a k;omega,.inl k⟩)
  .obtain rfl:=bD (show E W=E A from M)
   obtain rfl:=bD (show E (P+1)=E d from o)
   exact af _ _ N.1 N.2
  .obtain rfl:=bD (show E Y=E A from M)
   obtain rfl:=bD (show E (P+2)=E d from o)
   exact af _ _ O.1 O.2
  .obtain rfl:=bD (show E Z=E A from M)
   obtain rfl:=bD (show E (P+3)=E d from o)
   exact af _ _ T.1 T.2,λy A d a2=>absurd a2 (fK _),λA _=>iD.zero⟩)
 have bf:=l rn;clear a7 ba a6 a8 rn N O T aN ak a0;have aO:=l aD;clear aD ax;go_wp2_with fail;go_loopw [6] (λbC wr=>∃c:Nat,bC=F K (c:Int)/\c<=4/\Hid (nQ S (λa=>j.ownBlock=E a) B wr ag e #[j,W,Y,Z] #[P,P+1,P+2,P+3] c 0)) (λaK _=>4 - (intOf aK).toNat)
 case atStart=>exact⟨0,rfl,by omega,aL⟩
 case round=>
  obtain⟨c,rfl,bT,z⟩:=hrel;clear aL;by_cases aF:c<4
  .have bw:(c:Int)<4:=by omega
   have bU:(0:Int)<=c:=by omega
   have bV:K.wrap ((c:Int)+1)=((c+1:Nat):Int):=by rw[bh _ (by omega) (by omega)];rfl
   obtain⟨av,az⟩:∃av,(#[j,W,Y,Z]:Array V)[c]? =E av:=⟨_,da (by simpa using aF)⟩;obtain⟨d,o⟩:∃d,(#[P,P+1,P+2,P+3]:Array Nat)[c]? =E d:=⟨_,da (by simpa using aF)⟩;have bS:d<=1000000:=by
    have:=b aO;have aA:c=0\/c=1\/c=2\/c=3:=by omega
    obtain rfl|rfl|rfl|rfl:=aA
    .obtain rfl:=bD (show E P=E d from o);omega
    .obtain rfl:=bD (show E (P+1)=E d from o);omega
    .obtain rfl:=bD (show E (P+2)=E d from o);omega
    .obtain rfl:=bD (show E (P+3)=E d from o);omega
   obtain⟨bk,bm,rfl⟩:=((b z).sl c av d az o).1.slice;have ai:=l az;have aj:=l o;clear az o;go_upto_region 5 with fail;go_upto_block 2 with fail;go_wp2_with fail;go_loopw [7] (λbE wr=>∃r:Nat,bE=F K (r:Int)/\r<=d/\Hid (nQ S (λa=>j.ownBlock=E a) B wr ag e #[j,W,Y,Z] #[P,P+1,P+2,P+3] c r)) (λaK _=>d - (intOf aK).toNat)
   case atStart=>exact⟨0,rfl,by omega,z⟩
   case round=>
    obtain⟨r,rfl,hi,H⟩:=hrel;have bl:wr.cell? (u e c J)=E (C bk d bm):=((b H).kF.T c).trans (b ai);have bn:=(b H).kF.lt;by_cases bu:r<d
    .have bt:(r:Int)<(d:Int):=by omega
     have bP:(0:Int)<=r:=by omega
     have bR:K.wrap ((r:Int)+1)=((r+1:Nat):Int):=by rw[bh _ (by omega) (by omega)];rfl
     have aZ:=l (((b H).sl c _ d (b ai) (b aj)).1.block (by omega));go_upto_region 8 with fail;obtain⟨a,bM,bO,bo,_⟩:=b aZ;injection bo with bq _ br;subst bq br;refine Nl (b H) (b ai) (b aj) bu aF _ _ _ _ _ _ _ _ _ _ _ _ _ _ _ _ _ _ _ _ _ _ _ _ _ _ _ _ _ _ _ _ _ _ _ _ _ _ _ _ _ _ _ _ _ _ _ _ _ _ _ _ _ _ _ _ _ _ _ _ ?_;intro cg ch ci cj ck cl cm bI ah;clear bl bn aZ;go_wp2
     exact⟨⟨r+1,rfl,by omega,ah⟩,by simp[intOf];omega⟩
    .have bt:¬(r:Int)<(d:Int):=by omega
     obtain rfl:r=d:=by omega
     have ah:=l ((b H).next (b aj));go_wp2;exact⟨⟨c+1,rfl,by omega,ah⟩,by simp[intOf];omega⟩
  .have bw:¬(c:Int)<4:=by omega
   obtain rfl:c=4:=by omega
   have ab:=l ((b z).mod.e ((b am).e (b aX) (λx=>x)) (λs=>((b aa) Q s).1 rfl));have aU:=l ((b z).mod.owns ((b am).owns (b aT) (λ_ _ x=>x)) (λbA bv s=>((b aa) bA s).2 bv));have cn:wr.cell? (u Q 2 J)=E (C ar S au):=(b ab).T 2;have a9:=(b ab).lt;have aI:G No wr (wr.alloc (m #[C (E (u e 0 J)) 4 4] 65)):=(G.refl _ _).alloc _;have aP:=l (aI.owns (b aU) (λ_ _ x=>x));have aY:=l (aI.e (b ab) (λx=>x))
   have aS:=l (show Reads (wr.alloc (m #[C (E (u e 0 J)) 4 4] 65)) (C (E (u wr.heap.size 0 J)) 1 1) 1 [C (E (u e 0 J)) 4 4] from .inr ⟨(u wr.heap.size 0 J),1,rfl,λy v hu=>by
    rw[dE,bK,(X.new wr #[C (E (u e 0 J)) 4 4] 65).T,<-dy]
    exact hu⟩)
   have aQ:=l (show ∀v∈[C (E (u e 0 J)) 4 4],v.oneCell'=true from λv hu=>by simp at hu;subst hu;rfl);obtain⟨bz,bB,N,O,T⟩:=fq Ju;have ax:=b bc;clear aI ab aU
   go_wp2_with (at_builtin;refine fJ rfl (.tmp 57) (.tmp 59) 30 rfl 65 bz _ 1 24 underlying30 bB N O T rfl (by decide) (C ar S au) S i (by simp[aM]) (by exact b aP) (C (E (u wr.heap.size 0 J)) 1 1) 1 [C (E (u e 0 J)) 4 4] (by simp[aM]) (by exact b aS) rfl (b aQ) (by unfold maxLen;omega) (by omega) ?_;intro bX bY aE ay a4;obtain⟨bJ,bL,rfl⟩:=aR aE;have ae:=X.grown (b aY) ay (λs=>(b aW) s.symm);have co:=ae.T 2;have cq:=ae.lt;have cp:=ae.aC)
   have bb:=l (Nu (b bd) (b aX) (b am) (b ap) (b aT) (b aa) (b aW) (b z) (λa k=>by rw[b bg];exact(b I) a k) (b bf) (b aO) aE ay a4);clear aE ay a4 ae aP aS aY aQ z;go_wp2;go_end0;exact⟨rfl,_,_,_,b bb⟩
end Go.Proofs.YthhibagcpjeihaaGreat
