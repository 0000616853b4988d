import Derived.Test.YthhibagcpjeihaaGreatMPg3ToAsk
import Derived.Test.YthhibagcpjeihaaGreatMKeep3ToKeep8
import Derived.Test.YthhibagcpjeihaaGreatMFMapToBook4S
import Derived.Deep.CutBlock
open Go.Proofs.Tryz
open Go.Value renaming int->y,pointer->b,slice->C,bool->W,agg->l,tuple->h,ownBlock->az
open Go.IntKind renaming i64->K
open Option renaming none->F,some->E
open Go renaming World->U,Value->V
open Go.Proofs.Tryz renaming prog->T,underlying61->nW
open Go.Ending renaming returned->g
open Go.Obj renaming cells->v
open List renaming length_append->aJ,getElem?_eq_getElem->cK,length_take->dj,take_length->eA,length_drop->lX,getElem_append_left->qK,getElem_take->oy
open Array renaming getElem?_eq_getElem->bX,getElem?_toList->dE
open Go.World renaming size_alloc->bj,ownsRow_nil->cJ
open Option.some renaming inj->br
open Go.Act renaming eval->Z,put->aP
open Nat renaming zero_add->bg,not_lt_zero->dZ,zero_le->fJ
open Go.Addr renaming add_mid->dx
namespace Go.Proofs.YthhibagcpjeihaaGreat
open Go.RowKit
open M
set_option linter.unusedVariables false
set_option linter.unusedSimpArgs false
set_option maxRecDepth 100000
set_option maxHeartbeats 8000000
attribute [local go_sem ↓] rr ru
theorem fX.start{w a:U} {i o j:Nat} {p:O} {n:List B} {es:List t} (e:bo a i p n o es j) (k:G No w a) (m:X a (w.heap.size+1) #[C F 0 0,y K 0,y K 0,y K 0,W false] 146) (D:List B) (r c:Int) (more:Bool):fX w (a.alloc (v #[C F 0 0,y K r,y K c,y K p.ep,W more] 146)) i o j a.heap.size p n es D r c more (C F 0 0) 0 0:=by
 have f:G No a (a.alloc (v #[C F 0 0,y K r,y K c,y K p.ep,W more] 146)):=(G.refl _ _).alloc _;refine⟨⟨f.has e.has (λd=>d),f.map e.map (λd=>d),e.ok,e.rel⟩,X.new a _ _,by simpa using cJ _ _ _ _,λs q=>by simp[az] at q,f.has m (λd=>d),⟨k.size,?_⟩,k.trans f⟩;have:=m.lt;omega
theorem fX.Jn{d c:U} {i k n a:Nat} {p:O} {q:List B} {es:List t} (e:bo c i p q k es n) (u:G No d c) (z:X c (d.heap.size+1) #[C F 0 0,y K 0,y K 0,y K 0,W false] 146) (w:X c a #[C F 0 0,y K 0,y K 0,y K 0,W false] 146) (x:d.heap.size<=a/\a≠d.heap.size+1) (hb:i<d.heap.size) (A:k<d.heap.size) (r:List B) (m j:Int) (more:Bool):
  fX d (((((c.setCell ⟨a,0,F⟩ (C F 0 0)).setCell ⟨a,1,F⟩ (y K m)).setCell ⟨a,2,F⟩ (y K j)).setCell ⟨a,3,F⟩ (y K p.ep)).setCell ⟨a,4,F⟩ (W more)) i k n a p q es r m j more (C F 0 0) 0 0:=by
 have f:G (λo=>o=a) c (((((c.setCell ⟨a,0,F⟩ (C F 0 0)).setCell ⟨a,1,F⟩ (y K m)).setCell ⟨a,2,F⟩ (y K j)).setCell ⟨a,3,F⟩ (y K p.ep)).setCell ⟨a,4,F⟩ (W more)):=(((((G.refl _ c).at 0 _).at 1 _).at 2 _).at 3 _).at 4 _
 exact⟨⟨f.has e.has (by omega),f.map e.map (by omega),e.ok,e.rel⟩,((((w.set 0 _).set 1 _).set 2 _).set 3 _).set 4 _,by simpa using cJ _ _ _ _,λo s=>by simp[az] at s,f.has z (by omega),x,u.trans' f (λD hi hl=>by omega)⟩
theorem iX{e:U} {f:TypeId} {n m:Nat} {d:V} {xs:List V} (i:e.ownsRow 0 f n d m xs) (c:Nat) (a:d.ownBlock=E c):c<e.heap.size:=by
 obtain⟨_,j|⟨p,cap,o,rfl,hb,k,_⟩⟩:=i
 ·rw[j.1] at a;simp[az] at a
 ·simp[az] at a;subst a;exact X.lt k
theorem Jo(c:U) (a:B):Reads (c.alloc (v #[y K a.row,y K a.P,y K a.st,y K a.pa,y K a.cl,y K a.un] 63)) (C (E ⟨c.heap.size,0,F⟩) 1 1) 1 (aX a):=
 .inr ⟨⟨c.heap.size,0,F⟩,1,rfl,λe f hu=>by
  have d:=X.new c #[y K a.row,y K a.P,y K a.st,y K a.pa,y K a.cl,y K a.un] 63
  rw[dx,bg,d.cell,<-dE]
  exact hu⟩
theorem Af{x a c:U} {j s n k w pb:Nat} {p:O} {r:List B} {es:List t} {m q o:Array V} {f i u:TypeId} {d:Nat} (H:c=a.drewN d) (e:bo a j p r s es n) (z:G No x a) (hc:X a k m f) (D:X a w q i) (A:X a pb o u):bo c j p r s es n/\G No x c/\X c k m f/\X c w q i/\X c pb o u:=by
 subst H;exact⟨⟨e.has.drewN d,e.map,e.ok,e.rel⟩,z.drewN d,hc.drewN d,D.drewN d,A.drewN d⟩
theorem Jp{c:U} {q D J:Nat} {p:O} {n:List B} {es:List t} (w:bo c q p n D es J) (ae:L p n) (u r m size:Int) (hs:1<=size/\size<=30) (first:Nat) (hf:first<=n.length) (bl:∀e,G No c e->Calls T 114 #[b (E ⟨q,0,F⟩),l #[y K u,y K r,y K m]] e λb5 w'=>b5=g (h #[y K (first:Int),y K 0])/\G No e w')
  (a:List B) (aY:a=(n.drop first).take size.toNat):Calls T 92 #[b (E ⟨q,0,F⟩),l #[y K u,y K r,y K m],y K size] c λm w'=>Told c w' m ⟨a,(eE u r a).1,(eE u r a).2,p.ep,decide (first+a.length<n.length),0⟩:=by
 have b8:n.length<=120:=aM.wf.gU ae;have bm:=ae.bounds;simp only at bm;have hlen:=ae.len;simp only at hlen;have bn:a.length=min size.toNat (n.length - first):=by rw[aY,dj,lX]
 have a0:∀j (ao:j<a.length),∃hi:first+j<n.length,n[first+j]=a[j]:=λj ao=>by
  subst aY;have:first+j<n.length:=by omega
  refine⟨this,?_⟩;rw[oy,List.getElem_drop]
 have cG:min ((first:Int)+size) (n.length:Int)=((first+a.length:Nat):Int):=by omega
 have bt:K.wrap (p.rows* p.w)=p.rows* p.w:=aB _ (by omega) (by omega);have cH:K.wrap ((first:Int)+size)=(first:Int)+size:=aB _ (by omega) (by omega)
 have aO:=i λe (s:G No c e)=>(show Calls T 112 #[b (E ⟨q,0,F⟩)] e λm w'=>m=g (y K (n.length:Int))/\∃au,w'=e.drewN au from by
  have:=Ih q _ _ p.rows p.w e (s.has w.has (λd=>d)) rfl rfl bt
  rw[<-hlen] at this
  exact this)
 obtain⟨aL,aW⟩:∃aL:Nat,p.w=(aL:Int):=⟨p.w.toNat,by omega⟩
 have bM:=i λe (s:G No c e) (j:Nat) (ao:j<a.length)=>(show Calls T 113 #[b (E ⟨q,0,F⟩),y K ((first:Int)+(j:Int))] e λm w'=>m=g (l #[y K a[j].row,y K a[j].P])/\G No e w' from by
  obtain⟨hi,ak⟩:=a0 j ao
  have:=rQ q _ _ aL (first+j) e (s.has w.has (λd=>d)) (by rw[<-aW];rfl) (by omega) (by omega)
  have M:=ae.place (first+j) hi
  simp only at M
  rw[<-ak,M.1,M.2,aW,show(first:Int)+(j:Int)=((first+j:Nat):Int) by omega]
  exact this)
 have bP:=i λe (s:G No c e) (j:Nat) (ao:j<a.length)=>(show Calls T 115 #[b (E ⟨q,0,F⟩),l #[y K a[j].row,y K a[j].P]] e λm w'=>m=g (l #[y K a[j].row,y K a[j].P,y K a[j].st,y K a[j].pa,y K a[j].cl,y K a[j].un])/\G No e w' from by
  obtain⟨hi,ak⟩:=a0 j ao
  rw[<-ak]
  exact Ev q D _ _ _ _ _ _ _ e (s.has w.has (λd=>d)) rfl (λbV b7=>yX w ae (first+j) hi bV (s.trans b7)))
 have a7:=i bl;have aZ:=w.has.lt;have a3:=(Array.getElem?_eq_some_iff.1 w.map).1;have ai:=i w;have bw:G No c ((c.alloc (v #[y K u,y K r,y K m] 43)).alloc (v #[C F 0 0,y K 0,y K 0,y K 0,W false] 146)):=((G.refl _ c).alloc _).alloc _;have aS:=i bw;have a5:=X.new (c.alloc (v #[y K u,y K r,y K m] 43)) #[C F 0 0,y K 0,y K 0,y K 0,W false] 146;rw[bj] at a5;have bd:=i a5
 have bc:=i ((X.new c #[y K u,y K r,y K m] 43).alloc (v #[C F 0 0,y K 0,y K 0,y K 0,W false] 146));have cE:¬size<1:=by omega
 have cF:¬size>30:=by omega
 have bE:=i bn;have a8:=i b8;have ba:=i (show decide ((first:Int)+(a.length:Int)<(n.length:Int))=decide (first+a.length<n.length) from decide_eq_decide.2 (by omega));clear bl w ae bm hlen a0 bt aW bw a5 hs aY bn;go_enter func92,ntmps92;go_wp2_with fail;refine((k a7) _ (k aS)).mono ?_;rintro cB ct ⟨rfl,aI⟩;have bh:=i (aI.has (k bd) (λd=>d));have a6:=i (aI.has (k bc) (λd=>d))
 have aQ:=i ((k aS).trans aI);clear aI a7 aS bd bc;go_wp2_with fail;refine((k aO) _ (k aQ)).mono ?_;rintro cC H ⟨rfl,aK,rfl⟩;have aD:=i ((k bh).drewN aK);have ab:=i ((k a6).drewN aK);have P:=i ((k aQ).drewN aK);clear bh a6 aQ;generalize ct.drewN aK=H at *;have A:=i (show bo H q p n D es J from⟨(k P).has (k ai).has (λd=>d),(k P).map (k ai).map (λd=>d),(k ai).ok,(k ai).rel⟩)
 obtain⟨b3,cv,cg⟩:=(k A).ep;have bZ:=(k ab).cell;have ci:=(k ab).lt;go_wp2_with fail;go_cut [11] (λax ah=>∃z,ax=b (E ⟨z,0,F⟩)/\Hid (fX c ah q D J z p n es a u r (decide ((first:Int)+(a.length:Int)<(n.length:Int))) (C F 0 0) 0 0))
 case first=>
  have bW:=i (show bo H.drew q p n D es J from⟨(k A).has.drew,(k A).map,(k A).ok,(k A).rel⟩);have bz:=i λ(e:U) (au:Nat) (s:e=H.drew.drewN au)=>Af (pb:=c.heap.size) s (k bW) (k P).drew (k ab).drew (k aD).drew (k ab).drew;have af:=(G.refl No H).alloc (v #[C F 0 0,y K 0,y K 0,y K 0,W false] 146);have bC:=i λ(e:U) (au:Nat) (s:e=(H.alloc (v #[C F 0 0,y K 0,y K 0,y K 0,W false] 146)).drew.drewN au)=>
   Af s (show bo (H.alloc (v #[C F 0 0,y K 0,y K 0,y K 0,W false] 146)).drew q p n D es J from⟨(af.has (k A).has (λd=>d)).drew,af.map (k A).map (λd=>d),(k A).ok,(k A).rel⟩)
    ((k P).trans af).drew (af.has (k ab) (λd=>d)).drew (af.has (k aD) (λd=>d)).drew (X.new H _ _).drew
  have bS:=i (show c.heap.size<=H.heap.size/\H.heap.size≠c.heap.size+1 from⟨(k P).size,by have:=(k aD).lt;omega⟩);have bD:=i aZ;have bJ:=i a3;clear af
  go_region_with (first
   |(go_at_call 112;refine((k aO) _ (k P).drew).mono ?_;rintro b6 I ⟨rfl,a4,aq⟩;obtain⟨aa,ar,R,aw,Q⟩:=(k bz) _ a4 aq;have aV:=i aa;have aR:=i ar;have aU:=i aw;have bf:=i Q;have b1:=R.cell;have cj:=R.lt;obtain⟨b4,cw,ch⟩:=aa.ep;clear aq aa ar R aw Q)
   |(go_at_call 112;refine((k aO) _ ((k P).alloc _).drew).mono ?_;rintro b6 I ⟨rfl,a4,aq⟩;obtain⟨aa,ar,R,aw,Q⟩:=(k bC) _ a4 aq;have aV:=i aa;have aR:=i ar;have aU:=i aw;have bf:=i Q;have b1:=R.cell;have cj:=R.lt;have cM:=Q.cell;have cN:=Q.frozen;have cO:=Q.lt;obtain⟨b4,cw,ch⟩:=aa.ep;clear aq aa ar R aw Q))
  all_goals go_wp2
  all_goals go_meet
  all_goals refine⟨_,rfl,i ?_⟩
  all_goals first
   |with_reducible exact fX.start (k aV) (k aR) (k aU) a u r _
   |with_reducible exact fX.Jn (k aV) (k aR) (k aU) (k bf) (k bS) (k bD) (k bJ) a u r _
 case rest=>
  obtain⟨z,rfl,bp⟩:=hcut;obtain⟨cf,cn,co,cp,cq⟩:=info_parts pY;rw[k ba] at bp;generalize aH:decide (first+a.length<n.length)=more at *;have bL:=i aH;clear aH;clear A ab aD P b3 cv cg bZ ci ba ai;go_wp2_with fail;go_loopw [12] (λax ah=>∃(f:Nat) (ag:V),ax=y K ((first:Int)+(f:Int))/\f<=a.length/\Hid (fX c ah q D J z p n es a u r more ag f f)) (λax _=>first+a.length - (intOf ax).toNat)
  case atStart=>exact⟨0,C F 0 0,by simp,fJ _,bp⟩
  case round=>
   obtain⟨f,ag,rfl,hi,o⟩:=hrel;by_cases ap:f<a.length
   ·have b9:(first:Int)+(f:Int)<(first:Int)+(a.length:Int):=by omega
    have ca:(f:Int)<(a.length:Int):=by omega
    have bN:=i λe (s:G No c e)=>(k bM) e s f ap;have bQ:=i λe (s:G No c e)=>(k bP) e s f ap;have a9:=i ap;have aN:=i (show f+1<=120 from by have:=k bE;have:=k a8;omega);have bO:=i λ(wr w3:U) (ag v':V) (w:fX c wr q D J z p n es a u r more ag f f) (av:Obj) cb ak hs=>(w.put ap av (v':=v') (w3:=w3) cb ak hs aZ a3)
    have bG:=i λ(wr:U) (ag:V) (w:fX c wr q D J z p n es a u r more ag (f+1) f)=>w.end_ ap aZ a3;generalize ce:a[f]=x at *;clear ce;go_wp2_with fail;refine((k bN) _ (k o).mod).mono ?_;rintro cD w3 ⟨rfl,bu⟩;have ad:=i ((k o).still bu);obtain⟨aE,aF,rfl⟩:=aC (k ad).row;clear bu o;go_upto_region 12 with fail;have bv:G No w3 (w3.alloc (v #[y K x.row,y K x.P] 36)):=(G.refl _ w3).alloc _
    have aj:=i ((k ad).still bv);have ay:=i (X.new w3 #[y K x.row,y K x.P] 36)
    have bT:=i (show E w3.heap.size≠(C aE f aF).ownBlock from λm=>by
     have:=iX (k ad).row _ m.symm
     omega)
    have aT:=i (show E z≠(C aE f aF).ownBlock from λm=>((k ad).new z m.symm).2.1 rfl);have bU:=i (show ¬w3.heap.size=z from λm=>by have:=(k ad).cq.lt;omega);generalize w3.alloc (v #[y K x.row,y K x.P] 36)=cu at *;generalize w3.heap.size=cr at *;clear bv ad;go_cut [] (λah=>Hid (∃bY b2,fX c ah q D J z p n es a u r more (C bY (f+1) b2) (f+1) f)/\Hid (X ah cr #[y K x.row,y K x.P] 36))
    case first=>
     have cQ:=(k aj).cq.cell;have cS:=(k aj).cq.frozen;have cW:=(k aj).cq.lt;have cx:=(k ay).cell;have cz:=(k ay).lt;have bb:=i ((k aj).still (G.refl No cu).drew);have bA:=i (k ay).drew
     go_region_law (first
      |(refine eZ rfl 115 _ _ rfl #[b (E ⟨q,0,F⟩),l #[y K x.row,y K x.P]] (by simp[Z,aP]) (λe=>by kernel_rfl) _ _ ((k bQ) _ (k bb).mod) ?_;intro I a2;have N:=i ((k bb).still a2);have bB:=i (a2.has (k bA) (λd=>d));have cR:=(k N).cq.cell;have cT:=(k N).cq.frozen;have cX:=(k N).cq.lt;clear a2)
      |(refine pW rfl (.tmp 59) (.tmp 63) 61 rfl 63 cf _ 6 48 nW cn co cp cq rfl (by decide) (C aE f aF) f _ (by simp[Z,aP]) (by exact((k N).still ((G.refl No I).alloc _)).row) (C (E ⟨I.heap.size,0,F⟩) 1 1) 1 (aX x) (by simp[Z,aP]) (by exact Jo I x) rfl (by intro cY hu;simp[aX,dc] at hu;obtain rfl|rfl|rfl|rfl|rfl|rfl:=hu<;>rfl) (by unfold maxLen;have:=k aN;omega) (by have:=k aN;omega) ?_;intro v' bx bq am cd;obtain⟨bi,bk,rfl⟩:=aC bq;have ck:=(X.grown (((G.refl No I).alloc _).has (k N).cq (λd=>d)) am (k aT)).cell;have cl:=(X.grown (((G.refl No I).alloc _).has (k N).cq (λd=>d)) am (k aT)).frozen;have cm:=(X.grown (((G.refl No I).alloc _).has (k N).cq (λd=>d)) am (k aT)).lt;have aA:=i (X.grown (((G.refl No I).alloc _).has (k bB) (λd=>d)) am (k bT))))
     all_goals go_wp2
     all_goals go_meet
     all_goals exact⟨i ⟨bi,bk,(k bO) I bx _ _ (k N) _ bq am cd⟩,i (((G.refl (λY=>Y=z) bx).at 0 _).has (k aA) (k bU))⟩
    case rest=>
     obtain⟨S,aA⟩:=hcut;obtain⟨bi,bk,S⟩:=k S;have bR:=i S;have ck:=S.cq.cell;have cl:=S.cq.frozen;have cm:=S.cq.lt;have cy:=(k aA).cell;have cA:=(k aA).lt;have cI:K.wrap ((first:Int)+(f:Int)+1)=(first:Int)+((f+1:Nat):Int):=by
      have:=k a8;have:=k aN;rw[aB _ (by omega) (by omega)];omega
     clear S aj ay;go_wp2;exact⟨⟨f+1,_,rfl,k a9,i ((k bG) _ _ (k bR))⟩,by simp[intOf];have:=k a9;omega⟩
   ·have b9:¬((first:Int)+(f:Int)<(first:Int)+(a.length:Int)):=by omega
    have ca:¬((f:Int)<(a.length:Int)):=by omega
    have m:f=a.length:=by omega
    have bH:=i m;obtain⟨aE,aF,rfl⟩:=aC (k o).row;have cP:=(k o).cq.cell;have cV:=(k o).cq.lt;have d0:wr.cell? ⟨c.heap.size+1,0,F⟩=E (C F 0 0):=(k o).res.cell 0;have d1:wr.cell? ⟨c.heap.size+1,1,F⟩=E (y K 0):=(k o).res.cell 1;have d2:wr.cell? ⟨c.heap.size+1,2,F⟩=E (y K 0):=(k o).res.cell 2;have d3:wr.cell? ⟨c.heap.size+1,3,F⟩=E (y K 0):=(k o).res.cell 3
    have d4:wr.cell? ⟨c.heap.size+1,4,F⟩=E (W false):=(k o).res.cell 4;have f1:=(k o).res.frozen;have cL:=(k o).res.lt;clear m;go_wp2;refine bodyPost_ret (by simp[results,results92,go_sem,d0,d1,d2,d3,d4];try rfl) rfl ?_;have m:=k bH;subst m;have M:∀av,No (⟨c.heap.size+1,av,F⟩:Addr).block\/c.heap.size<=(⟨c.heap.size+1,av,F⟩:Addr).block:=λav=>.inr (by simp);have bs:=(k o).row;have cc:=(k o).cq
    rw[eA] at bs cc;refine⟨⟨_,by have aH:=k bL;subst aH;rw[eA],?_,λY a1=>((k o).new Y a1).1⟩,(((((k o).mod.setCell (M 0) _).setCell (M 1) _).setCell (M 2) _).setCell (M 3) _).setCell (M 4) _⟩;exact((((G.refl (λY=>Y=c.heap.size+1) wr).at 0 _).at 1 _).at 2 _|>.at 3 _|>.at 4 _).owns bs (λY a1 m=>((k o).new Y a1).2.2 m)
def pD(lv c a:V):Array V:=#[lv,c,a]
structure td (w w':U) (yb L:Nat) (lv xv ov l:V) (xs:List V) (xv':V) (rb:Nat) (hs:Array V):Prop where
 has:X w' yb (pD lv xv' ov) 34
 row:w'.ownsRow 0 60 1 xv' (L+1) (xs++[C (E ⟨rb,0,F⟩) 4 4])
 box:X w' rb hs 61
 size:hs.size=4
 each:∀(j:Nat) (v:V),hs[j]? =E v->∃m,bw 63 6 w' v m/\gE 6 (aK L).toList w' v m/\m<=1000000/\∀g,v.ownBlock=E g->g≠rb/\g≠yb/\xv'.ownBlock≠E g/\(l.ownBlock=E g\/w.heap.size<=g)
 Ag:w.heap.size<=rb/\xv'.ownBlock≠E rb
 own:∀g,xv'.ownBlock=E g->g≠yb/\(xv.ownBlock=E g\/w.heap.size<=g)
 mod:G (λg=>g=yb\/l.ownBlock=E g\/xv.ownBlock=E g) w w'
theorem Jq{x H o u:U} {ae e j z m:Nat} {lv i D q aa ab ad s:V} {xs:List V} {au:Nat} {ar:Option Addr} (ax:q=C ar j au) (hy:X x e (pD lv i D) 34) (L:G No x H) (aH:ae<H.heap.size) (am:x.ownsRow 0 60 1 i z xs) (J:∀a,q.ownBlock=E a->a≠e/\i.ownBlock≠E a) (R:i.ownBlock≠E e) (r:kL z (λa=>q.ownBlock=E a) H o ae m #[q,aa,ab,ad] #[j,j+1,j+2,j+3] 4 0) (ay:∀a,q.ownBlock=E a->a<x.heap.size) (aD:H.heap.size<=m) (aC:j+3<=1000000)
  (ak:u.ownsRow 0 60 1 s (z+1) (xs++[C (E ⟨m,0,F⟩) 4 4])) (af:(o.alloc (v #[C (E ⟨m,0,F⟩) 4 4] 60)).grownBy u i.ownBlock) (hs:dY (o.alloc (v #[C (E ⟨m,0,F⟩) 4 4] 60)) i s):td x (u.setCell ⟨e,1,F⟩ s) e z lv i D q xs s m #[q,aa,ab,ad]:=by
 have aF:=hy.lt;have Q:=λS I=>iX am S I;have aA:=L.size;have aB:=r.mod.size;have aE:=r.lV.lt;have Y:G (λa=>i.ownBlock=E a) o u:=((G.refl _ o).alloc _).grown af (λS I=>.inl I);have B:G (λa=>i.ownBlock=E a\/a=e) o (u.setCell ⟨e,1,F⟩ s):=(Y.mono (λ_ _ n=>.inl n)).trans ((G.refl _ _).setCell (p:=⟨e,1,F⟩) (.inl (.inr rfl)) _)
 have ap:X o e (pD lv i D) 34:=r.mod.has (L.has hy (λn=>n)) (λc=>(J e c).1 rfl);have ao:X u e (pD lv i D) 34:=Y.has ap R;have P:i.ownBlock≠E m:=λc=>by have:=Q m c;omega
 have w:∀a,s.ownBlock=E a->a≠e/\(i.ownBlock=E a\/o.heap.size<a):=λa f=>by
  obtain d|d:=hs a f
  ·exact⟨λc=>R (by rw[<-c];exact d),.inl d⟩
  ·rw[bj] at d;exact⟨by omega,.inr (by omega)⟩
 refine⟨?_,gT ak (a:=⟨e,1,F⟩) (λc=>(w e c).1 rfl) _,B.has r.lV ?_,rfl,λp O hv=>?_,⟨by omega,λc=>?_⟩,λa f=>⟨(w a f).1,(w a f).2.imp id (λd=>by omega)⟩,?_⟩
 ·exact ao.set 1 s
 ·rintro(c|c)
  ·exact P c
  ·omega
 ·have ag:p<4:=(Array.getElem?_eq_some_iff.1 hv).1;have aj:∃k,(#[j,j+1,j+2,j+3]:Array Nat)[p]? =E k:=⟨_,bX (by simpa using ag)⟩;obtain⟨k,t⟩:=aj;obtain⟨M,N⟩:=r.sl p O k hv t;have aq:=r.full p O k (by omega) hv t;have A:∀a,O.ownBlock=E a->¬(i.ownBlock=E a\/a=e):=λa f c=>by
   obtain⟨_,_,d⟩:=N a f;obtain c|c:=c
   ·obtain d|d:=d
    ·exact(J a d).2 c
    ·have:=Q a c;omega
   ·obtain d|d:=d
    ·exact(J a d).1 c
    ·omega
  have ai:k<=1000000:=by
   have ah:p=0\/p=1\/p=2\/p=3:=by omega
   obtain rfl|rfl|rfl|rfl:=ah
   ·obtain rfl:=br (show E j=E k from t);omega
   ·obtain rfl:=br (show E (j+1)=E k from t);omega
   ·obtain rfl:=br (show E (j+2)=E k from t);omega
   ·obtain rfl:=br (show E (j+3)=E k from t);omega
  refine⟨k,M.mod B A,aq.mod B (λa f=>⟨M.lt a f,A a f⟩),ai,λa f=>⟨(N a f).2.1,λc=>A a f (.inr c),λc=>?_,(N a f).2.2.imp id (λd=>by omega)⟩⟩;obtain d|d:=(w a c).2
  ·exact A a f (.inl d)
  ·have:=M.lt a f;omega
 ·obtain d|d:=(w m c).2
  ·exact P d
  ·omega
 ·have av:=(L.trans (S:=No) (G.refl _ _)).mono (S':=λa=>a=e\/q.ownBlock=E a\/i.ownBlock=E a) (λ_ _ n=>n.elim);exact(av.trans (r.mod.mono (λ_ _ n=>.inr (.inl n)))).trans (B.mono (λ_ _ n=>n.elim (λaw=>.inr (.inr aw)) .inl))
theorem Ah{w:U} {t c I f:Nat} {H:Option Addr} {lv Q ov:V} {xs:List V} (hy:X w t (pD lv Q ov) 34) (aE:w.ownsRow 0 60 1 Q f xs) (ar:f<=1099511627776) (hl:bw 63 6 w (C H c I) c) (ay:c+3<=1000000) (a2:∀a,(C H c I).ownBlock=E a->a≠t/\Q.ownBlock≠E a) (a4:Q.ownBlock≠E t):
  Calls T 66 #[b (E ⟨t,1,F⟩),C H c I] w λq w'=>q=g (h #[])/\∃bD j hs,td w w' t f lv Q ov (C H c I) xs bD j hs:=by
 obtain⟨am,ao,rfl⟩:=aC aE;have bE:w.cell? ⟨t,1,F⟩=E (C am f ao):=hy.cell 1;have a8:=hy.lt;have aZ:=i (X.new w (aK f) 63);have ax:G No w (w.alloc (v (aK f) 63)):=(G.refl _ w).alloc _;have ai:=i ax;have ah:=i (hl.mod ax (λ_ _ s=>s));have D:=i hl.lt;have aW:=i hy;have aT:=i aE;have R:=i a2;have aV:=i a4;have ak:=i (show w.heap.size<(w.alloc (v (aK f) 63)).heap.size from by simp)
 obtain⟨m,Y⟩:∃m,m=C H c I:=⟨_,rfl⟩;have bc:=i Y;rw[<-Y] at ah D R;unfold pD at hy;clear hy aE hl a2 a4 ax;have bb:=i ar;go_enter func66,ntmps66;rw[<-Y];clear Y;go_upto_region 1 with fail;have a0:(w.alloc (v #[y K 0,y K 0,y K 9,y K (f:Int),y K 0,y K 0] 63))=w.alloc (v (aK f) 63):=rfl;rw[a0];clear a0;generalize w.alloc (v (aK f) 63)=A at *;generalize aF:w.heap.size=ad at *;have bf:=i aF
 clear bE a8 aF;refine GW (k aZ) (k ah) ay (λa n=>Nat.ne_of_lt ((k D) a n)) _ _ _ _ _ _ _ _ _ _ _ _ _ _ _ _ _ _ _ _ _ _ _ _ _ _ _ _ _ _ _ _ _ _ _ _ _ _ _ _ _ _ _ _ _ _ _ _ _ _ _ _ _ _ _ _ _ _ _ _ _ _ ?_;intro bU bV bW bY bZ b1 b2 b3 b4 b5 b6 b7 b8 b9 ca cb cc j N O P aj aN;obtain⟨a6,a9,a5,a7,rn,J,L,M⟩:=k aN;have bh:=i (λa n=>Nat.lt_trans ((k D) a n) (k ak):∀a,m.ownBlock=E a->a<A.heap.size)
 have aM:=i (show kL f (λa=>m.ownBlock=E a) A aj ad j #[m,N,O,P] #[c,c+1,c+2,c+3] 0 0 from⟨a6,a9,a7,λu z e hv o=>by
  have a1:u<4:=(Array.getElem?_eq_some_iff.1 hv).1
  have aF:=k ak
  have ab:∀(r:V) (aI:Nat),bw 63 6 aj r aI->(∀a,r.ownBlock=E a->a≠j/\(m.ownBlock=E a\/A.heap.size<=a))->bw 63 6 aj r aI/\∀a,r.ownBlock=E a->a≠ad/\a≠j/\(m.ownBlock=E a\/A.heap.size<=a):=λr aI bq aq=>⟨bq,λa n=>⟨λq=>by
   obtain d|d:=(aq a n).2
   ·have:=(k D) a d;omega
   ·omega,(aq a n).1,(aq a n).2⟩⟩
  have aw:u=0\/u=1\/u=2\/u=3:=by omega
  obtain rfl|rfl|rfl|rfl:=aw
  ·obtain rfl:=br (show E m=E z from hv)
   obtain rfl:=br (show E c=E e from o)
   exact ab _ _ a5 (λa n=>⟨λq=>by have:=(k bh) a n;omega,.inl n⟩)
  ·obtain rfl:=br (show E N=E z from hv)
   obtain rfl:=br (show E (c+1)=E e from o)
   exact ab _ _ J.1 J.2
  ·obtain rfl:=br (show E O=E z from hv)
   obtain rfl:=br (show E (c+2)=E e from o)
   exact ab _ _ L.1 L.2
  ·obtain rfl:=br (show E P=E z from hv)
   obtain rfl:=br (show E (c+3)=E e from o)
   exact ab _ _ M.1 M.2,λu z e a1=>absurd a1 (dZ _),λz _=>gE.zero⟩)
 have bd:=i rn;clear a6 a9 a5 a7 rn J L M aN ah aZ;have aO:=i ay;clear ay ar;go_wp2_with fail;go_loopw [6] (λbB wr=>∃d:Nat,bB=y K (d:Int)/\d<=4/\Hid (kL f (λa=>m.ownBlock=E a) A wr ad j #[m,N,O,P] #[c,c+1,c+2,c+3] d 0)) (λaL _=>4 - (intOf aL).toNat)
 case atStart=>exact⟨0,rfl,by omega,aM⟩
 case round=>
  obtain⟨d,rfl,bP,x⟩:=hrel;clear aM;by_cases aD:d<4
  ·have bv:(d:Int)<4:=by omega
   have bQ:(0:Int)<=d:=by omega
   have bR:K.wrap ((d:Int)+1)=((d+1:Nat):Int):=by rw[aB _ (by omega) (by omega)];rfl
   obtain⟨ap,av⟩:∃ap,(#[m,N,O,P]:Array V)[d]? =E ap:=⟨_,bX (by simpa using aD)⟩;obtain⟨e,o⟩:∃e,(#[c,c+1,c+2,c+3]:Array Nat)[d]? =E e:=⟨_,bX (by simpa using aD)⟩;have bO:e<=1000000:=by
    have:=k aO;have aw:d=0\/d=1\/d=2\/d=3:=by omega
    obtain rfl|rfl|rfl|rfl:=aw
    ·obtain rfl:=br (show E c=E e from o);omega
    ·obtain rfl:=br (show E (c+1)=E e from o);omega
    ·obtain rfl:=br (show E (c+2)=E e from o);omega
    ·obtain rfl:=br (show E (c+3)=E e from o);omega
   obtain⟨bi,bl,rfl⟩:=((k x).sl d ap e av o).1.slice;have af:=i av;have ag:=i o;clear av o;go_upto_region 5 with fail;go_upto_block 2 with fail;go_wp2_with fail;go_loopw [7] (λbC wr=>∃p:Nat,bC=y K (p:Int)/\p<=e/\Hid (kL f (λa=>m.ownBlock=E a) A wr ad j #[m,N,O,P] #[c,c+1,c+2,c+3] d p)) (λaL _=>e - (intOf aL).toNat)
   case atStart=>exact⟨0,rfl,by omega,x⟩
   case round=>
    obtain⟨p,rfl,hi,B⟩:=hrel;have bk:wr.cell? ⟨j,d,F⟩=E (C bi e bl):=((k B).lV.cell d).trans (k af);have bm:=(k B).lV.lt;by_cases bt:p<e
    ·have bs:(p:Int)<(e:Int):=by omega
     have bM:(0:Int)<=p:=by omega
     have bN:K.wrap ((p:Int)+1)=((p+1:Nat):Int):=by rw[aB _ (by omega) (by omega)];rfl
     have aY:=i (((k B).sl d _ e (k af) (k ag)).1.block (by omega));go_upto_region 8 with fail;obtain⟨a,cap,bL,bn,_⟩:=k aY;injection bn with bo _ bp;subst bo bp;refine GX (k B) (k af) (k ag) bt aD _ _ _ _ _ _ _ _ _ _ _ _ _ _ _ _ _ _ _ _ _ _ _ _ _ _ _ _ _ _ _ _ _ _ _ _ _ _ _ _ _ _ _ _ _ _ _ _ _ _ _ _ _ _ _ _ _ _ _ _ ?_;intro cd ce cf cg ch ci cj bG ae;clear bk bm aY;go_wp2
     exact⟨⟨p+1,rfl,by omega,ae⟩,by simp[intOf];omega⟩
    ·have bs:¬(p:Int)<(e:Int):=by omega
     obtain rfl:p=e:=by omega
     have ae:=i ((k B).next (k ag));go_wp2;exact⟨⟨d+1,rfl,by omega,ae⟩,by simp[intOf];omega⟩
  ·have bv:¬(d:Int)<4:=by omega
   obtain rfl:d=4:=by omega
   have S:=i ((k x).mod.has ((k ai).has (k aW) (λs=>s)) (λq=>((k R) t q).1 rfl));have aU:=i ((k x).mod.owns ((k ai).owns (k aT) (λ_ _ s=>s)) (λbz bu q=>((k R) bz q).2 bu));have ck:wr.cell? ⟨t,1,F⟩=E (C am f ao):=(k S).cell 1;have a8:=(k S).lt;have aH:G No wr (wr.alloc (v #[C (E ⟨j,0,F⟩) 4 4] 60)):=(G.refl _ _).alloc _;have aQ:=i (aH.owns (k aU) (λ_ _ s=>s));have aX:=i (aH.has (k S) (λs=>s))
   have aS:=i (show Reads (wr.alloc (v #[C (E ⟨j,0,F⟩) 4 4] 60)) (C (E ⟨wr.heap.size,0,F⟩) 1 1) 1 [C (E ⟨j,0,F⟩) 4 4] from .inr ⟨⟨wr.heap.size,0,F⟩,1,rfl,λu r hu=>by
    rw[dx,bg,(X.new wr #[C (E ⟨j,0,F⟩) 4 4] 60).cell,<-dE]
    exact hu⟩)
   have aR:=i (show ∀r∈[C (E ⟨j,0,F⟩) 4 4],r.oneCell'=true from λr hu=>by simp at hu;subst hu;rfl);obtain⟨bx,bA,J,L,M⟩:=info_parts GR;have ar:=k bb;clear aH S aU
   go_wp2_with (at_builtin;refine eI rfl (.tmp 57) (.tmp 59) 29 rfl 60 bx _ 1 24 underlying29 bA J L M rfl (by decide) (C am f ao) f xs (by simp[Z]) (by exact k aQ) (C (E ⟨wr.heap.size,0,F⟩) 1 1) 1 [C (E ⟨j,0,F⟩) 4 4] (by simp[Z]) (by exact k aS) rfl (k aR) (by unfold maxLen;omega) (by omega) ?_;intro bS bT aA au a3;obtain⟨bH,bJ,rfl⟩:=aC aA;have aa:=X.grown (k aX) au (λq=>(k aV) q.symm);have cl:=aa.cell 1;have cn:=aa.lt;have cm:=aa.frozen)
   have ba:=i (Jq (k bc) (k aW) (k ai) (k ak) (k aT) (k R) (k aV) (k x) (λa n=>by rw[k bf];exact(k D) a n) (k bd) (k aO) aA au a3);clear aA au a3 aa aQ aS aX aR x;go_wp2;go_end0;exact⟨rfl,_,_,_,k ba⟩
def te(a:Nat):V:=C (E ⟨a,0,F⟩) 4 4
structure fH (w:U) (F:Nat->Prop) (xv:V) (ls:List Nat):Prop where
 row:w.ownsRow 0 60 1 xv ls.length (ls.map te)
 nh:∀g,xv.ownBlock=E g->¬F g
 each:∀i (h:i<ls.length),¬F ls[i]/\xv.ownBlock≠E ls[i]/\∃hs:Array V,X w ls[i] hs 61/\hs.size=4/\∀(j:Nat) (v:V),hs[j]? =E v->∃m,bw 63 6 w v m/\gE 6 (aK i).toList w v m/\m<=1000000/\∀g,v.ownBlock=E g->¬F g/\xv.ownBlock≠E g
theorem fH.nil(e:U) (a:Nat->Prop):fH e a (C F 0 0) []:=⟨cJ _ _ _ _,λf d=>by simp[az] at d,λi c=>absurd c (dZ _)⟩
theorem fH.mod{w w':U} {j F':Nat->Prop} {p:V} {ls:List Nat} (e:fH w j p ls) (f:G j w w') (hF:∀k,k<w.heap.size->F' k->j k):fH w' F' p ls:=by
 have t:=λa c=>iX e.row a c;refine⟨f.owns e.row e.nh,λa c d=>e.nh a c (hF a (t a c) d),λu hi=>?_⟩;obtain⟨n,q,hs,o,r,s⟩:=e.each u hi;refine⟨λd=>n (hF _ o.lt d),q,hs,f.has o n,r,λx D hv=>?_⟩;obtain⟨z,m,A,B,i⟩:=s x D hv;exact⟨z,m.mod f (λa c=>(i a c).1),A.mod f (λa c=>⟨m.lt a c,(i a c).1⟩),B,λa c=>⟨λd=>(i a c).1 (hF a (m.lt a c) d),(i a c).2⟩⟩
theorem fH.more{p L w':U} {r F':Nat->Prop} {i M lv S J:V} {ls:List Nat} {j o:Nat} {hs:Array V} (s:fH p r i ls) (I:G No p L) (hd:td L w' j ls.length lv i S J (ls.map te) M o hs) (hy:r j) (hl:∀a,J.ownBlock=E a->p.heap.size<=a) (hF:∀m,F' m->m<p.heap.size/\r m):fH w' F' M (ls++[o]):=by
 have ae:=λa e=>iX s.row a e;have ad:=I.size
 have w:G (λa=>a=j\/i.ownBlock=E a) p w':=(I.mono (S':=λa=>a=j\/i.ownBlock=E a) (λ_ _ X=>X.elim)).trans' hd.mod (λm Q aa=>by
  obtain d|d|d:=Q
  ·exact .inl d
  ·have:=hl m d;omega
  ·exact .inr d)
 refine⟨?_,λa e c=>?_,λk hi=>?_⟩
 ·rw[aJ,List.map_append];exact hd.row
 ·obtain⟨Y,N⟩:=hF a c;obtain d|d:=(hd.own a e).2
  ·exact s.nh a d N
  ·omega
 ·by_cases H:k<ls.length
  ·rw[qK H];obtain⟨A,B,R,D,O,P⟩:=s.each k H;have ab:=D.lt;have f1:¬(ls[k]=j\/i.ownBlock=E ls[k]):=by
    rintro(c|c)
    ·exact A (c ▸ hy)
    ·exact B c
   refine⟨λc=>A (hF _ c).2,λc=>?_,R,w.has D f1,O,λt q hv=>?_⟩
   ·obtain d|d:=(hd.own _ c).2
    ·exact B d
    ·omega
   ·obtain⟨u,n,x,z,f⟩:=P t q hv;have f2:∀a,q.ownBlock=E a->¬(a=j\/i.ownBlock=E a):=λa e c=>by
     obtain c|c:=c
     ·exact(f a e).1 (c ▸ hy)
     ·exact(f a e).2 c
    refine⟨u,n.mod w f2,x.mod w (λa e=>⟨n.lt a e,f2 a e⟩),z,λa e=>⟨λc=>(f a e).1 (hF a c).2,λc=>?_⟩⟩;obtain d|d:=(hd.own _ c).2
    ·exact(f a e).2 d
    ·have:=n.lt a e;omega
  ·obtain rfl:k=ls.length:=by simp at hi;omega
   have a:(ls++[o])[ls.length]'hi=o:=by simp
   rw[a];refine⟨λc=>by have:=(hF o c).1;have:=hd.Ag.1;omega,hd.Ag.2,hs,hd.box,hd.size,λt q hv=>?_⟩;obtain⟨u,n,x,z,f⟩:=hd.each t q hv;refine⟨u,n,x,z,λa e=>⟨λc=>?_,(f a e).2.2.1⟩⟩;have:=(hF a c).1;obtain d|d:=(f a e).2.2.2
   ·have:=hl a d;omega
   ·omega
theorem fH.at{e:U} {k:Nat->Prop} {j:V} {ls:List Nat} (d:fH e k j ls) {a:Nat} (hi:a<ls.length):∃c cap i,j=C (E ⟨c,0,F⟩) ls.length cap/\c<e.heap.size/\ls[a]? =E i/\e.cell? ⟨c,a,F⟩=E (C (E ⟨i,0,F⟩) 4 4):=by
 have m:=d.row;obtain⟨o,p|⟨f,cap,n,hv,_⟩⟩:=d.row
 ·omega
 ·refine⟨f,cap,ls[a],hv,iX d.row f (by rw[hv];rfl),cK hi,?_⟩;have:=m.cells (by rw[hv];rfl) a (te ls[a]) (by rw[List.getElem?_map,cK hi];rfl);rw[dx,bg] at this;exact this
theorem fH.head{i:U} {r:Nat->Prop} {B:V} {ls:List Nat} (s:fH i r B ls) {n f o:Nat} (x:ls[n]? =E o) (H:f<4):∃a e k,e<=1000000/\o<i.heap.size/\i.cell? ⟨o,f,F⟩=E (C a e k)/\∀j,j<e->∃d,a=E ⟨d,0,F⟩/\d<i.heap.size/\i.rangeAt d (j* 6) (aK n).toList:=by
 obtain⟨hi,c⟩:=List.getElem?_eq_some_iff.1 x;obtain⟨_,_,hs,m,G,t⟩:=s.each n hi;rw[c] at m;obtain⟨p,hv⟩:∃p,hs[f]? =E p:=⟨_,bX (by omega)⟩;obtain⟨e,q,z,A,_⟩:=t f p hv;obtain⟨a,k,rfl⟩:=q.slice;refine⟨a,e,k,A,m.lt,(m.cell f).trans hv,λj w=>?_⟩;obtain⟨d,cap,D,c,u,_⟩:=q.block (by omega);injection c with c _ _;exact⟨d,c,u.lt,z d (by rw[c];rfl) j w⟩
end Go.Proofs.YthhibagcpjeihaaGreat
