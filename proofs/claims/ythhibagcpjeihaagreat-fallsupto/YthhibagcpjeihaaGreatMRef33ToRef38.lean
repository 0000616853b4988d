import Derived.Test.YthhibagcpjeihaaGreatMRef28ToRef32
import Derived.Deep.RegionHeld2
open Go.Proofs.Tryz
open Go.Value renaming int->y,pointer->b,slice->C,bool->W,agg->l
open Go.IntKind renaming i64->K,wrap_i64->jB
open Option renaming none->F,some->E
open Go renaming World->U,Value->V
open Go.Proofs.Tryz renaming prog->T
open Go.Ending renaming returned->g
open Go.Obj renaming cells->v
open Nat renaming lt_of_lt_of_le->aG,le_trans->bF,le_refl->bK
open Go.Act renaming eval->Z,put->aP
open List renaming take_length->eA,length_set->iU,getElem_set_self->lH,set_getElem_self->lI,getElem_set_ne->nX
open Go.World renaming block_lt_of_cell?->jA
open Int renaming mul_nonneg->iK
namespace Go.Proofs.YthhibagcpjeihaaGreat
open Go.RowKit
open M
set_option linter.unusedVariables false
set_option linter.unusedSimpArgs false
set_option maxRecDepth 100000
set_option maxHeartbeats 8000000
theorem KO{Y bU:U} {w j cap H:Nat} {a:Option Addr} {N:O} {num P:Int} {x hs:List B} (ah:∀n∈hs,n.wf/\n.st≠0) (hl:hs.length<=120) (ae:Exit->Act->U->Prop) (af:Hid (iD Y bU w j cap N num P x hs (C a hs.length H) 0)) (ai aj ay aN aZ ba bN bT ak cB cC aq ar au av aw ax aA aC aD aE aF aH aI aK aL aM aO aQ aR aS aT aU aV aW aX aY a0 a1 a2 a3 a4 a5 a6 a7 a8 a9 bb bc bd bf bh bi bk bl bm bn bo bp bq bs bt bu bv bw bx bz bA bB bC bD bE bG bH bJ bL bM bO bP bQ bR bS cD cE cF cG cH cI cL cM cN cO cP cQ cR cS cT cg ch ci cj ck cl cm cn co cp cq cr ct cu cv cw cx cy cz cA am ao ap:V)
  (dB:∀(c5 df dg dh di dk dl dm dn bY bZ b1 b2 b3 b4 b5 b6 b7 cV cW cX cY cZ c0 c1 c2 c3 c4 c6 c7 c8 c9 c' da db dc dd de:V) (bV:U),Hid (iD Y bV w j cap N num P x hs (C a hs.length H) hs.length)->ae (.exit 2) ⟨#[ai,aj,ay,aN,aZ,ba,b (E ⟨w,0,F⟩),C a hs.length H,bN,bT,ak,c5,df,dg,aq,ar,au,av,aw,ax,aA,aC,aD,aE,aF,aH,aI,aK,aL,aM,aO,aQ,aR,aS,aT,aU,aV,aW,aX,aY,a0,a1,a2,a3,a4,a5,a6,a7,a8,a9,bb,bc,bd,bf,bh,bi,bk,bl,bm,bn,bo,bp,bq,bs,bt,bu,bv,bw,bx,bz,bA,bB,bC,bD,bE,bG,bH,bJ,bL,bM,bO,bP,bQ,bR,bS,dh,di,dk,dl,dm,dn,bY,bZ,b1,b2,b3,b4,b5,b6,b7,cV,cW,cX,cY,cZ,c0,c1,c2,c3,c4,c6,c7,c8,c9,c',da,db,dc,dd,de,am,ao,ap],[]⟩ bV):
  Code.wp T (swapLoop 1) ae ⟨#[ai,aj,ay,aN,aZ,ba,b (E ⟨w,0,F⟩),C a hs.length H,bN,bT,ak,y K 0,cB,cC,aq,ar,au,av,aw,ax,aA,aC,aD,aE,aF,aH,aI,aK,aL,aM,aO,aQ,aR,aS,aT,aU,aV,aW,aX,aY,a0,a1,a2,a3,a4,a5,a6,a7,a8,a9,bb,bc,bd,bf,bh,bi,bk,bl,bm,bn,bo,bp,bq,bs,bt,bu,bv,bw,bx,bz,bA,bB,bC,bD,bE,bG,bH,bJ,bL,bM,bO,bP,bQ,bR,bS,cD,cE,cF,cG,cH,cI,cL,cM,cN,cO,cP,cQ,cR,cS,cT,cg,ch,ci,cj,ck,cl,cm,cn,co,cp,cq,cr,ct,cu,cv,cw,cx,cy,cz,cA,am,ao,ap],[]⟩ bU:=by
 conv=>arg 4;dsimp only
 conv=>arg 2;whnf
 have b8:=i ah;clear ah;go_loopw [11] (λS wr=>∃c:Nat,S=y K c/\c<=hs.length/\Hid (iD Y wr w j cap N num P x hs (C a hs.length H) c)) (λS _=>hs.length - (intOf S).toNat)
 case atStart=>exact⟨0,rfl,by omega,af⟩
 case round=>
  obtain⟨c,rfl,dH,o⟩:=hrel;clear af;by_cases q:c<hs.length
  ·have cd:(c:Int)<(hs.length:Int):=by omega
   have dI:(0:Int)<=c:=by omega
   have dJ:K.wrap ((c:Int)+1)=((c+1:Nat):Int):=by rw[aB _ (by omega) (by omega)];rfl
   obtain⟨r,rfl,L⟩:=vK (k o).home (by omega);have ag:=(k o).own r rfl;have L:=i L;have ad:=i ag;clear ag;go_upto_block 4 with fail;refine wp_block ?_
   refine Kb q _ o _ _ _ _ _ _ _ _ _ _ _ _ _ _ _ _ _ _ _ _ _ _ _ _ _ _ _ _ _ _ _ _ _ _ _ _ _ _ _ _ _ _ _ _ _ _ _ _ _ _ _ _ _ _ _ _ _ _ _ _ _ _ _ _ _ _ _ _ _ _ _ _ _ _ _ _ _ _ _ _ _ _ _ _ _ _ _ _ _ _ _ _ _ _ _ _ _ _ _ _ _ _ _ _ _ _ _ _ _ _ _ _ _ _ _ _ _ _ _ _ _ ?_;intro bY bZ b1 b2 b3 b4 b5 b6 b7;have p:=(k o).free q;obtain⟨f,R⟩:∃f,firstFree (bW x hs c)=f:=⟨_,rfl⟩;rw[R] at p ⊢
   obtain⟨D,Q⟩:∃D,(bW x hs c).length=D:=⟨_,rfl⟩;have dA:D<=120:=by rw[<-Q];exact gF (k o).ji.wf
   have dF:(f:Int)<(D:Int):=by omega
   have dC:(0:Int)<=f:=by omega
   obtain⟨e,t⟩:∃e,(bW x hs c)[f]=e:=⟨_,rfl⟩;obtain⟨n,s⟩:∃n,hs[c]=n:=⟨_,rfl⟩;have ab:=i λd (u:G No wr d)=>((k o).still u).next (k b8) q n s f R p e t
   have M:=i λd (u:G No wr d)=>(show d.cell? ⟨w,8,F⟩=E (C (E ⟨j,0,F⟩) D cap) from by rw[<-Q];exact((k o).ji.still u).has.cell 8)
   have J:=i λd (u:G No wr d)=>(show d.cell? ⟨j,f* 6,F⟩=E (y K e.row)/\d.cell? ⟨j,f* 6+1,F⟩=E (y K e.P)/\d.cell? ⟨j,f* 6+2,F⟩=E (y K e.st)/\d.cell? ⟨j,f* 6+3,F⟩=E (y K e.pa)/\d.cell? ⟨j,f* 6+4,F⟩=E (y K e.cl)/\d.cell? ⟨j,f* 6+5,F⟩=E (y K e.un)/\(∀ce,d.frozen? ⟨j,ce,F⟩=false)/\j<d.heap.size from by
    have m:=((k o).ji.still u).row
    exact⟨by rw[<-t];exact m.row f p,by rw[<-t];exact m.P f p,by rw[<-t];exact m.st f p,by rw[<-t];exact m.pa f p,by rw[<-t];exact m.cl f p,by rw[<-t];exact m.un f p,m.gm,m.lt⟩)
   have aa:=i λd (u:G No wr d)=>(show d.cell? ⟨r,c* 6,F⟩=E (y K n.row)/\d.cell? ⟨r,c* 6+1,F⟩=E (y K n.P)/\d.cell? ⟨r,c* 6+2,F⟩=E (y K n.st)/\d.cell? ⟨r,c* 6+3,F⟩=E (y K n.pa)/\d.cell? ⟨r,c* 6+4,F⟩=E (y K n.cl)/\d.cell? ⟨r,c* 6+5,F⟩=E (y K n.un) from by
    have m:=(k L).mod u (λe=>e)
    exact⟨by rw[<-s];exact m.row c q,by rw[<-s];exact m.P c q,by rw[<-s];exact m.st c q,by rw[<-s];exact m.pa c q,by rw[<-s];exact m.cl c q,by rw[<-s];exact m.un c q⟩)
   have ca:=i (show j≠r from λcc=>(k ad).2.2 cc.symm);have b9:=i (show w≠j from(k o).ji.ne);clear R p Q t s o L ad;have cf:=(k M) wr (G.refl _ _);obtain⟨d0,d1,_⟩:=(k J) wr (G.refl _ _);go_upto_region 23 with fail;have A:=i ((G.refl No wr).alloc (v #[y K e.row,y K e.P] 36));have I:=i (X.new wr #[y K e.row,y K e.P] 36)
   have dG:wr.heap.size<(wr.alloc (v #[y K e.row,y K e.P] 36)).heap.size:=(k I).lt;clear cf d0 d1;have GT:=i (show j≠wr.heap.size from by obtain⟨_,_,_,_,_,_,_,dz⟩:=(k J) wr (G.refl _ _);omega);generalize wr.heap.size=tb at *;generalize wr.alloc (v #[y K e.row,y K e.P] 36)=z at *;have dN:=(k M) z (k A);obtain⟨d0,d1,d2,d3,d4,d5,dy,dK⟩:=(k J) z (k A);obtain⟨dq,dr,dt,du,dv,dw⟩:=(k aa) z (k A)
   have b0:z.cell? ⟨tb,0,F⟩=E (y K e.row):=(k I).cell 0;have dp:z.cell? ⟨tb,1,F⟩=E (y K e.P):=(k I).cell 1;have dM:=k ca;have dL:=k b9;have gt:=k GT;have cb:=i ((k ab) z (k A));clear ab M J aa I A;go_region
   all_goals go_wp2
   all_goals exact⟨⟨c+1,rfl,by omega,(k cb).still (by repeat' (first|with_reducible exact G.refl _ _|refine G.drewN ?_ _|refine G.drew ?_))⟩,by simp[intOf];omega⟩
  ·have cd:¬(c:Int)<(hs.length:Int):=by omega
   obtain rfl:c=hs.length:=by omega
   go_wp2
def ig(i:U) (gf a:Nat) (num:Int) (c:O) (f d cap:Nat) (e:Int):U:=((((((((((i.setCell ⟨gf,a,F⟩ (y K num)).setCell ⟨gf,a+1,F⟩ (y K c.rows)).setCell ⟨gf,a+2,F⟩ (y K c.w)).setCell ⟨gf,a+3,F⟩ (y K c.front)).setCell ⟨gf,a+4,F⟩ (y K c.I)).setCell ⟨gf,a+5,F⟩ (y K c.R)).setCell ⟨gf,a+6,F⟩ (y K c.n)).setCell ⟨gf,a+7,F⟩ (y K c.f)).setCell ⟨gf,a+8,F⟩ (C (E ⟨f,0,F⟩) d cap)).setCell ⟨gf,a+9,F⟩ (y K e))
theorem fQ.made{m w3 c:U} {d cap:Nat} {a:O} {num e:Int} (j:G No m w3) (f:G No w3 c) (k:aE c d cap (q a)) (p:w3.heap.size<d) (n:L a (q a)):fQ m (c.alloc (v #[y K num,y K a.rows,y K a.w,y K a.front,y K a.I,y K a.R,y K a.n,y K a.f,C (E ⟨d,0,F⟩) (q a).length cap,y K e] 134)) c.heap.size d cap a num e (q a):=by
 have i:G No c (c.alloc (v #[y K num,y K a.rows,y K a.w,y K a.front,y K a.I,y K a.R,y K a.n,y K a.f,C (E ⟨d,0,F⟩) (q a).length cap,y K e] 134)):=(G.refl _ _).alloc _;have:=j.size;have:=f.size;have:=k.lt;exact⟨X.new _ _ _,k.mod i (λo=>o),n,by omega,by omega,(j.trans f).trans i⟩
theorem fQ.sX{i w3 d:U} {c e cap:Nat} {a:O} {num f:Int} (m:G No i w3) (j:G No w3 d) (n:X w3 c #[y K 0,y K 0,y K 0,y K 0,y K 0,y K 0,y K 0,y K 0,C F 0 0,y K 0] 134) (P:i.heap.size<=c) (H:aE d e cap (q a)) (Q:w3.heap.size<e) (I:L a (q a)):fQ i ((((((((((d.setCell ⟨c,0,F⟩ (y K num)).setCell ⟨c,1,F⟩ (y K a.rows)).setCell ⟨c,2,F⟩ (y K a.w)).setCell ⟨c,3,F⟩ (y K a.front)).setCell ⟨c,4,F⟩ (y K a.I)).setCell ⟨c,5,F⟩ (y K a.R)).setCell ⟨c,6,F⟩ (y K a.n)).setCell ⟨c,7,F⟩ (y K a.f)).setCell ⟨c,8,F⟩ (C (E ⟨e,0,F⟩) (q a).length cap)).setCell ⟨c,9,F⟩ (y K f)) c e cap a num f (q a):=by
 have N:=j.has n (λM=>M);have R:=n.lt;have k:e≠c:=by omega
 have o:G (λJ=>J=c) d ((((((((((d.setCell ⟨c,0,F⟩ (y K num)).setCell ⟨c,1,F⟩ (y K a.rows)).setCell ⟨c,2,F⟩ (y K a.w)).setCell ⟨c,3,F⟩ (y K a.front)).setCell ⟨c,4,F⟩ (y K a.I)).setCell ⟨c,5,F⟩ (y K a.R)).setCell ⟨c,6,F⟩ (y K a.n)).setCell ⟨c,7,F⟩ (y K a.f)).setCell ⟨c,8,F⟩ (C (E ⟨e,0,F⟩) (q a).length cap)).setCell ⟨c,9,F⟩ (y K f)):=(((((((((((G.refl _ d).at 0 _).at 1 _).at 2 _).at 3 _).at 4 _).at 5 _).at 6 _).at 7 _).at 8 _).at 9 _)
 have r:X (d.setCell ⟨c,0,F⟩ (y K num)) c #[y K num,y K 0,y K 0,y K 0,y K 0,y K 0,y K 0,y K 0,C F 0 0,y K 0] 134:=N.set 0 _;have s:X ((d.setCell ⟨c,0,F⟩ (y K num)).setCell ⟨c,1,F⟩ (y K a.rows)) c #[y K num,y K a.rows,y K 0,y K 0,y K 0,y K 0,y K 0,y K 0,C F 0 0,y K 0] 134:=r.set 1 _
 have t:X (((d.setCell ⟨c,0,F⟩ (y K num)).setCell ⟨c,1,F⟩ (y K a.rows)).setCell ⟨c,2,F⟩ (y K a.w)) c #[y K num,y K a.rows,y K a.w,y K 0,y K 0,y K 0,y K 0,y K 0,C F 0 0,y K 0] 134:=s.set 2 _
 have u:X ((((d.setCell ⟨c,0,F⟩ (y K num)).setCell ⟨c,1,F⟩ (y K a.rows)).setCell ⟨c,2,F⟩ (y K a.w)).setCell ⟨c,3,F⟩ (y K a.front)) c #[y K num,y K a.rows,y K a.w,y K a.front,y K 0,y K 0,y K 0,y K 0,C F 0 0,y K 0] 134:=t.set 3 _
 have w:X (((((d.setCell ⟨c,0,F⟩ (y K num)).setCell ⟨c,1,F⟩ (y K a.rows)).setCell ⟨c,2,F⟩ (y K a.w)).setCell ⟨c,3,F⟩ (y K a.front)).setCell ⟨c,4,F⟩ (y K a.I)) c #[y K num,y K a.rows,y K a.w,y K a.front,y K a.I,y K 0,y K 0,y K 0,C F 0 0,y K 0] 134:=u.set 4 _
 have x:X ((((((d.setCell ⟨c,0,F⟩ (y K num)).setCell ⟨c,1,F⟩ (y K a.rows)).setCell ⟨c,2,F⟩ (y K a.w)).setCell ⟨c,3,F⟩ (y K a.front)).setCell ⟨c,4,F⟩ (y K a.I)).setCell ⟨c,5,F⟩ (y K a.R)) c #[y K num,y K a.rows,y K a.w,y K a.front,y K a.I,y K a.R,y K 0,y K 0,C F 0 0,y K 0] 134:=w.set 5 _
 have z:X (((((((d.setCell ⟨c,0,F⟩ (y K num)).setCell ⟨c,1,F⟩ (y K a.rows)).setCell ⟨c,2,F⟩ (y K a.w)).setCell ⟨c,3,F⟩ (y K a.front)).setCell ⟨c,4,F⟩ (y K a.I)).setCell ⟨c,5,F⟩ (y K a.R)).setCell ⟨c,6,F⟩ (y K a.n)) c #[y K num,y K a.rows,y K a.w,y K a.front,y K a.I,y K a.R,y K a.n,y K 0,C F 0 0,y K 0] 134:=x.set 6 _
 have A:X ((((((((d.setCell ⟨c,0,F⟩ (y K num)).setCell ⟨c,1,F⟩ (y K a.rows)).setCell ⟨c,2,F⟩ (y K a.w)).setCell ⟨c,3,F⟩ (y K a.front)).setCell ⟨c,4,F⟩ (y K a.I)).setCell ⟨c,5,F⟩ (y K a.R)).setCell ⟨c,6,F⟩ (y K a.n)).setCell ⟨c,7,F⟩ (y K a.f)) c #[y K num,y K a.rows,y K a.w,y K a.front,y K a.I,y K a.R,y K a.n,y K a.f,C F 0 0,y K 0] 134:=z.set 7 _
 have B:X (((((((((d.setCell ⟨c,0,F⟩ (y K num)).setCell ⟨c,1,F⟩ (y K a.rows)).setCell ⟨c,2,F⟩ (y K a.w)).setCell ⟨c,3,F⟩ (y K a.front)).setCell ⟨c,4,F⟩ (y K a.I)).setCell ⟨c,5,F⟩ (y K a.R)).setCell ⟨c,6,F⟩ (y K a.n)).setCell ⟨c,7,F⟩ (y K a.f)).setCell ⟨c,8,F⟩ (C (E ⟨e,0,F⟩) (q a).length cap)) c #[y K num,y K a.rows,y K a.w,y K a.front,y K a.I,y K a.R,y K a.n,y K a.f,C (E ⟨e,0,F⟩) (q a).length cap,y K 0] 134:=A.set 8 _
 have D:X ((((((((((d.setCell ⟨c,0,F⟩ (y K num)).setCell ⟨c,1,F⟩ (y K a.rows)).setCell ⟨c,2,F⟩ (y K a.w)).setCell ⟨c,3,F⟩ (y K a.front)).setCell ⟨c,4,F⟩ (y K a.I)).setCell ⟨c,5,F⟩ (y K a.R)).setCell ⟨c,6,F⟩ (y K a.n)).setCell ⟨c,7,F⟩ (y K a.f)).setCell ⟨c,8,F⟩ (C (E ⟨e,0,F⟩) (q a).length cap)).setCell ⟨c,9,F⟩ (y K f)) c #[y K num,y K a.rows,y K a.w,y K a.front,y K a.I,y K a.R,y K a.n,y K a.f,C (E ⟨e,0,F⟩) (q a).length cap,y K f] 134:=B.set 9 _
 exact⟨D,H.mod o k,I,λp=>k p.symm,by have:=m.size;omega,(m.trans j).trans' o (λS hi hl=>by omega)⟩
structure vR (w:U) (gf mJ g0 cap0:Nat) (p Q:O) (num ep:Int) (l:List B):Prop where
 row:aE w g0 cap0 l
 wf:L p l
 ne:gf≠g0
 cell:∀j,j<10->w.cell? ⟨gf,mJ+j,F⟩=(tj num p g0 l.length cap0 ep)[j]?
 gm:∀o,w.frozen? ⟨gf,o,F⟩=false
 lt:gf<w.heap.size
 I:Q.I=p.I
 R:Q.R=p.R
 n:Q.n=p.n
 f:Q.f=p.f
theorem KP{m:U} {gf d D A:Nat} {p Q:O} {c:List B} {num L:Int} (r s t u:Int) (e':vR m gf d D A p Q num L c) (hb:¬(Q.sized=true/\¬Q.rows* Q.w<(ba c:Int))):Calls T 54 #[b (E ⟨gf,d,F⟩),l #[y K Q.rows,y K Q.w,y K Q.front,y K r,y K s,y K t,y K u]] m λw w'=>w=g (y K 4)/\G No m w':=by
 have P:=i λa (o:G No m a)=>(show a.cell? ⟨gf,d,F⟩=E (y K num)/\a.cell? ⟨gf,d+1,F⟩=E (y K p.rows)/\a.cell? ⟨gf,d+2,F⟩=E (y K p.w)/\a.cell? ⟨gf,d+3,F⟩=E (y K p.front)/\a.cell? ⟨gf,d+4,F⟩=E (y K Q.I)/\a.cell? ⟨gf,d+5,F⟩=E (y K Q.R)/\a.cell? ⟨gf,d+6,F⟩=E (y K Q.n)/\a.cell? ⟨gf,d+7,F⟩=E (y K Q.f)/\a.cell? ⟨gf,d+8,F⟩=E (C (E ⟨D,0,F⟩) c.length A)/\a.cell? ⟨gf,d+9,F⟩=E (y K L)/\(∀N,a.frozen? ⟨gf,N,F⟩=false)/\gf<a.heap.size from by
  have R:=e'.lt
  have f:=λM (ag:M<10) aj (hv:(tj num p D c.length A L)[M]? =E aj)=>eo o ((e'.cell M ag).trans hv) (λj=>j)
  refine⟨f 0 (by omega) _ rfl,f 1 (by omega) _ rfl,f 2 (by omega) _ rfl,f 3 (by omega) _ rfl,by rw[e'.I];exact f 4 (by omega) _ rfl,by rw[e'.R];exact f 5 (by omega) _ rfl,by rw[e'.n];exact f 6 (by omega) _ rfl,by rw[e'.f];exact f 7 (by omega) _ rfl,f 8 (by omega) _ rfl,f 9 (by omega) _ rfl,λN=>?_,aG R o.size⟩
  have:=e'.gm N
  unfold World.frozen? at this ⊢
  rw[o.block gf R (λj=>j)]
  exact this)
 have x:=i λa=>(show Calls T 82 #[l #[y K Q.rows,y K Q.w,y K Q.front,y K r,y K s,y K t,y K u]] a λw w'=>w=g (W Q.sized)/\G No a w' from qn ⟨Q.rows,Q.w,Q.front,r,s,t,u,0⟩ a);have J:=i λa (o:G No m a)=>rA gf d D A c a (e'.row.mod o (λj=>j)) (by have:=gF e'.wf;omega) (eo o (e'.cell 8 (by omega)) (λj=>j));have ar:c.length<=120:=gF e'.wf;have aq:=pZ c;have af:=AJ c
 have z:=i ((G.refl No m).alloc (v #[y K Q.rows,y K Q.w,y K Q.front,y K r,y K s,y K t,y K u] 39));have I:=i (X.new m #[y K Q.rows,y K Q.w,y K Q.front,y K r,y K s,y K t,y K u] 39)
 cases hs:Q.sized with
 |false=>
  rw[hs] at x;clear e' hb hs J;go_enter func54,ntmps54;go_wp2_with fail;refine((k x) _).mono ?_;rintro w H ⟨rfl,q⟩;have n:=i ((k z).trans q);clear q I z;obtain⟨f0,f1,f2,f3,f4,f5,f6,f7,f8,f9,ae,ad⟩:=(k P) H (k n);go_wp2_with fail;go_quiet (fail);go_wp2;go_ret;exact⟨rfl,(k n).drewN _⟩
 |true=>
  have ah:Q.rows* Q.w<(ba c:Int):=by
   by_cases Y:Q.rows* Q.w<(ba c:Int)
   ·exact Y
   ·exact absurd ⟨hs,Y⟩ hb
  have S:=hs;simp only[O.sized,decide_eq_true_eq] at S;have ai:0<=Q.rows* Q.w:=iK (by omega) (by omega);have am:wrap64 (Q.rows* Q.w)=Q.rows* Q.w:=by unfold wrap64;omega
  have ao:K.wrap ((c.length:Int) - (cY c:Int))=(c.length:Int) - (cY c:Int):=aB _ (by omega) (by omega);have hd:decide (Q.rows* Q.w<(c.length:Int) - (cY c:Int))=true:=by simp;omega
  rw[hs] at x;clear e' hb hs S ah af ai;generalize cY c=ap at *;go_enter func54,ntmps54;go_wp2_with fail;refine((k x) _).mono ?_;rintro w H ⟨rfl,q⟩;have n:=i ((k z).trans q);have ak:=(q.has (k I) (λj=>j)).cell;clear q I z;generalize m.heap.size=au at *;obtain⟨f0,f1,f2,f3,f4,f5,f6,f7,f8,f9,ae,ad⟩:=(k P) H (k n);have ab:=i λaa=>(k J) (H.drewN aa) ((k n).drewN aa);clear J;go_wp2_with fail
  go_quiet ((go_at_call 58;exact Calls.quiet_of_same ((k ab) _)));go_wp2;go_ret;exact⟨rfl,(k n).drewN _⟩
theorem iD.start{w wr:U} {n k cap i:Nat} {p c:O} {num j:Int} {d:List B} {a:Option Addr} (o:gx w wr n k cap c num j d (C a (eQ c d d.length) i) d.length) (t:L p d) (q:c.sized=true) (r:c.limited=true) (s:¬c.rows* c.w<(ba d:Int)):iD w wr n k cap c num j (stay c d) (aQ c d) (C a (aQ c d).length i) 0:=by
 obtain⟨m,e,f⟩:=o;unfold eQ at e f;rw[eA] at m e f;exact⟨m,rP t q r s,e,f⟩
theorem KQ{s:U} {gf d ag af:Nat} {p a:O} {e:List B} {num u:Int} (aa ab ad ae:Int) (r:vR s gf d ag af p a num u e) (M:a.sized=true) (aM:a.limited=true) (bi:¬a.rows* a.w<(ba e:Int)):Calls T 54 #[b (E ⟨gf,d,F⟩),l #[y K a.rows,y K a.w,y K a.front,y K aa,y K ab,y K ad,y K ae]] s λH w'=>H=g (y K 0)/\
   ∃(x:U) (o cap:Nat),G No s x/\s.heap.size<=o/\aE x o cap (eY a e)/\w'=ig x gf d num a o (eY a e).length cap u:=by
 have I:=i λf (N:G No s f)=>(show f.cell? ⟨gf,d,F⟩=E (y K num)/\f.cell? ⟨gf,d+1,F⟩=E (y K p.rows)/\f.cell? ⟨gf,d+2,F⟩=E (y K p.w)/\f.cell? ⟨gf,d+3,F⟩=E (y K p.front)/\f.cell? ⟨gf,d+4,F⟩=E (y K a.I)/\f.cell? ⟨gf,d+5,F⟩=E (y K a.R)/\f.cell? ⟨gf,d+6,F⟩=E (y K a.n)/\f.cell? ⟨gf,d+7,F⟩=E (y K a.f)/\f.cell? ⟨gf,d+8,F⟩=E (C (E ⟨ag,0,F⟩) e.length af)/\f.cell? ⟨gf,d+9,F⟩=E (y K u)/\(∀aX,f.frozen? ⟨gf,aX,F⟩=false)/\gf<f.heap.size from by
  have bh:=r.lt
  have z:=λP (aS:P<10) ap (hv:(tj num p ag e.length af u)[P]? =E ap)=>eo N ((r.cell P aS).trans hv) (λj=>j)
  refine⟨z 0 (by omega) _ rfl,z 1 (by omega) _ rfl,z 2 (by omega) _ rfl,z 3 (by omega) _ rfl,by rw[r.I];exact z 4 (by omega) _ rfl,by rw[r.R];exact z 5 (by omega) _ rfl,by rw[r.n];exact z 6 (by omega) _ rfl,by rw[r.f];exact z 7 (by omega) _ rfl,z 8 (by omega) _ rfl,z 9 (by omega) _ rfl,λaX=>?_,aG bh N.size⟩
  have:=r.gm aX
  unfold World.frozen? at this ⊢
  rw[N.block gf bh (λj=>j)]
  exact this)
 have aC:=i λf=>(show Calls T 82 #[l #[y K a.rows,y K a.w,y K a.front,y K aa,y K ab,y K ad,y K ae]] f λH w'=>H=g (W a.sized)/\G No f w' from qn ⟨a.rows,a.w,a.front,aa,ab,ad,ae,0⟩ f);have a3:=i λf (N:G No s f)=>rA gf d ag af e f (r.row.mod N (λj=>j)) (by have:=gF r.wf;omega) (eo N (r.cell 8 (by omega)) (λj=>j));have bD:e.length<=120:=gF r.wf;have ca:=pZ e;have bC:=AJ e
 have a7:=i ((G.refl No s).alloc (v #[y K a.rows,y K a.w,y K a.front,y K aa,y K ab,y K ad,y K ae] 39));have a0:=i (X.new s #[y K a.rows,y K a.w,y K a.front,y K aa,y K ab,y K ad,y K ae] 39)
 have aA:=i (show eg s gf d ag af p e from⟨r.row,by omega,r.ne,r.cell 8 (by omega),λP aS=>by
  rw[Nat.add_assoc,r.cell (4+P) (by omega)]
  match P,aS with
  |0,_=>rfl
  |1,_=>rfl
  |2,_=>rfl
  |3,_=>rfl⟩)
 have ai:=i r.wf;have ay:=i (ly M aM)
 have ax:=i λf=>(show Calls T 84 #[l #[y K a.rows,y K a.w,y K a.front,y K a.I,y K a.R,y K a.n,y K a.f]] f λH w'=>∃ap,H=g ap/\∃o cap,ap=C (E ⟨o,0,F⟩) (q a).length cap/\aE w' o cap (q a)/\f.heap.size<o/\G No f w' from
  (ux a M f).mono λH w' ⟨o,cap,bE,bG⟩=>⟨_,bE,o,cap,rfl,bG⟩)
 have av:=i M;have aw:=i aM;have a5:=i bi;have bm:=M;simp only[O.sized,decide_eq_true_eq] at bm;have bJ:0<=a.rows* a.w:=iK (by omega) (by omega);have bL:a.rows* a.w<=20* 6:=Int.mul_le_mul (by omega) (by omega) (by omega) (by omega);have bA:wrap64 (a.rows* a.w)=a.rows* a.w:=by unfold wrap64;omega
 have bB:K.wrap ((e.length:Int) - (cY e:Int))=(e.length:Int) - (cY e:Int):=aB _ (by omega) (by omega);have hd:decide (a.rows* a.w<(e.length:Int) - (cY e:Int))=false:=by simp;omega
 rw[M] at aC;clear r M aM bi bm bC bJ bL;generalize cY e=b7 at *;go_enter func54,ntmps54;go_wp2_with fail;refine((k aC) _).mono ?_;rintro H aq ⟨rfl,aV⟩;have ak:=i ((k a7).trans aV);have ar:=i (aV.has (k a0) (λj=>j));have bu:=(k ar).cell;have b4:=i (show s.heap.size<=s.heap.size from bK _);clear aV a0 a7;generalize bl:s.heap.size=c at *;have J:=i bl;clear bl
 obtain⟨f0,f1,f2,f3,f4,f5,f6,f7,f8,f9,ao,L⟩:=(k I) aq (k ak);have a2:=i λbn=>(k a3) (aq.drewN bn) ((k ak).drewN bn);clear a3 aC;go_upto_region 2 with fail;go_cut [33] (λbN x=>bN=W false/\Hid (G No aq x))
 case first=>
  go_quiet ((go_at_call 58;exact Calls.quiet_of_same ((k a2) _)));go_wp2;go_meet;exact⟨rfl,(G.refl No aq).drewN _⟩
 case rest=>
  obtain⟨rfl,aF⟩:=hcut
  apply_assumption
  clear a2 f0 f1 f2 f3 f4 f5 f6 f7 f8 f9 ao L bu hd bA bB;have aD:=i ((k ak).trans (k aF));have Q:=i ((k aF).has (k ar) (λj=>j));have bv:=(k Q).cell;have bz:=(k Q).frozen;have bx:=(k Q).lt;obtain⟨f0,f1,f2,f3,f4,f5,f6,f7,f8,f9,ao,L⟩:=(k I) wc (k aD);have bt:=i (show gf≠c from λH=>by have:=(k aA).slice;have:=jA s _ this;have:=k J;simp only at *;omega);have bM:=k bt;clear ak ar aF
  go_upto_region 5 with fail;have R:=i (show X ((((wc.setCell ⟨c,3,F⟩ (y K a.I)).setCell ⟨c,4,F⟩ (y K a.R)).setCell ⟨c,5,F⟩ (y K a.n)).setCell ⟨c,6,F⟩ (y K a.f)) c #[y K a.rows,y K a.w,y K a.front,y K a.I,y K a.R,y K a.n,y K a.f] 39 from((((k Q).set 3 _).set 4 _).set 5 _).set 6 _)
  have Y:=i (show G No s ((((wc.setCell ⟨c,3,F⟩ (y K a.I)).setCell ⟨c,4,F⟩ (y K a.R)).setCell ⟨c,5,F⟩ (y K a.n)).setCell ⟨c,6,F⟩ (y K a.f)) from((((k aD).setCell (p:=⟨c,3,F⟩) (.inr (by have:=k J;simp only;omega)) _).setCell (p:=⟨c,4,F⟩) (.inr (by have:=k J;simp only;omega)) _).setCell (p:=⟨c,5,F⟩) (.inr (by have:=k J;simp only;omega)) _).setCell (p:=⟨c,6,F⟩) (.inr (by have:=k J;simp only;omega)) _)
  clear bv bz bx f0 f1 f2 f3 f4 f5 f6 f7 f8 f9 ao L Q aD bM;generalize ((((wc.setCell ⟨c,3,F⟩ (y K a.I)).setCell ⟨c,4,F⟩ (y K a.R)).setCell ⟨c,5,F⟩ (y K a.n)).setCell ⟨c,6,F⟩ (y K a.f))=D at *;have bw:=(k R).cell;have bH:=(k R).lt;obtain⟨f0,_,_,_,_,_,_,_,_,f9,_,L⟩:=(k I) D (k Y);go_cut [6] (λbZ x=>∃w o cap,bZ=b (E ⟨w,0,F⟩)/\Hid (fQ s x w o cap a num u (q a)))
  case first=>
   have bo:=i (k R).drew;have a8:=i (k Y).drew;have aW:G No D ((D.alloc (v #[y K 0,y K 0,y K 0,y K 0,y K 0,y K 0,y K 0,y K 0,C F 0 0,y K 0] 134)).drew):=((G.refl _ D).alloc _).drew;have bp:=i (aW.has (k R) (λj=>j));have a9:=i ((k Y).trans aW);have am:=i (X.new D #[y K 0,y K 0,y K 0,y K 0,y K 0,y K 0,y K 0,y K 0,C F 0 0,y K 0] 134).drew;clear aW;have b8:gf≠D.heap.size:=by omega
   have b9:D.heap.size≠gf:=by omega
   have cb:c≠D.heap.size:=by omega
   have cc:D.heap.size≠c:=by omega
   go_region_held2 (λw'=>w'.cell? ⟨gf,d,F⟩=E (y K num)/\w'.cell? ⟨gf,d+9,F⟩=E (y K u)/\w'.cell? ⟨c,0,F⟩=E (y K a.rows)/\w'.cell? ⟨c,1,F⟩=E (y K a.w)/\w'.cell? ⟨c,2,F⟩=E (y K a.front)/\w'.cell? ⟨c,3,F⟩=E (y K a.I)/\w'.cell? ⟨c,4,F⟩=E (y K a.R)/\w'.cell? ⟨c,5,F⟩=E (y K a.n)/\w'.cell? ⟨c,6,F⟩=E (y K a.f)) (first|with_reducible assumption|go_keep) (first
    |(refine pC rfl 84 _ _ rfl #[l #[y K a.rows,y K a.w,y K a.front,y K a.I,y K a.R,y K a.n,y K a.f]] (by simp[Z,aP]) (λf=>by kernel_rfl) _ ((k ax) _) ?_;rintro b1 m ⟨aL,aI,rfl,aN,aZ,A⟩;have aY:m.cell? ⟨gf,d,F⟩=E (y K num)/\m.cell? ⟨gf,d+9,F⟩=E (y K u)/\m.cell? ⟨c,0,F⟩=E (y K a.rows)/\m.cell? ⟨c,1,F⟩=E (y K a.w)/\m.cell? ⟨c,2,F⟩=E (y K a.front)/\m.cell? ⟨c,3,F⟩=E (y K a.I)/\m.cell? ⟨c,4,F⟩=E (y K a.R)/\m.cell? ⟨c,5,F⟩=E (y K a.n)/\m.cell? ⟨c,6,F⟩=E (y K a.f):=(by have hb:=(A.has (k bo) (λj=>j)).cell;obtain⟨aT,_,_,_,_,_,_,_,_,aU,_,_⟩:=(k I) m ((k a8).trans A);exact⟨aT,aU,hb 0,hb 1,hb 2,hb 3,hb 4,hb 5,hb 6⟩);obtain⟨bO,bP,bQ,bR,bS,bT,bU,bV,bY⟩:=id aY)
    |(refine pC rfl 84 _ _ rfl #[l #[y K a.rows,y K a.w,y K a.front,y K a.I,y K a.R,y K a.n,y K a.f]] (by simp[Z,aP]) (λf=>by kernel_rfl) _ ((k ax) _) ?_;rintro b1 m ⟨aL,aI,rfl,aN,aZ,A⟩;have aY:m.cell? ⟨gf,d,F⟩=E (y K num)/\m.cell? ⟨gf,d+9,F⟩=E (y K u)/\m.cell? ⟨c,0,F⟩=E (y K a.rows)/\m.cell? ⟨c,1,F⟩=E (y K a.w)/\m.cell? ⟨c,2,F⟩=E (y K a.front)/\m.cell? ⟨c,3,F⟩=E (y K a.I)/\m.cell? ⟨c,4,F⟩=E (y K a.R)/\m.cell? ⟨c,5,F⟩=E (y K a.n)/\m.cell? ⟨c,6,F⟩=E (y K a.f):=(by have hb:=(A.has (k bp) (λj=>j)).cell;obtain⟨aT,_,_,_,_,_,_,_,_,aU,_,_⟩:=(k I) m ((k a9).trans A);exact⟨aT,aU,hb 0,hb 1,hb 2,hb 3,hb 4,hb 5,hb 6⟩);obtain⟨bO,bP,bQ,bR,bS,bT,bU,bV,bY⟩:=id aY;have dI:=(A.has (k am) (λj=>j)).cell;have dJ:=(A.has (k am) (λj=>j)).frozen;have dK:=(A.has (k am) (λj=>j)).lt))
   all_goals go_wp2
   all_goals go_meet
   all_goals first
    |with_reducible exact⟨_,aL,aI,rfl,i (fQ.made (k a8) A aN aZ (k ay))⟩
    |with_reducible exact⟨_,aL,aI,rfl,i (fQ.sX (k a9) A (k am) (k Y).size aN aZ (k ay))⟩
  case rest=>
   obtain⟨w,o,cap,rfl,bb⟩:=hcut;clear bw bH f0 f9 L R Y ax
   apply_assumption
   go_upto_block 0 with fail;refine wp_block ?_;refine Ka (k aA) (k ai) (k av) (k aw) _ (i (gx.start e (k bb))) _ _ _ _ _ _ _ _ _ _ _ _ _ _ _ _ _ _ _ _ _ _ _ _ _ _ _ _ _ _ _ _ _ _ _ _ _ _ _ _ _ _ _ _ _ _ _ _ _ _ _ _ _ _ _ _ _ _ _ _ _ _ _ _ _ _ _ _ _ _ _ _ _ _ _ _ _ _ _ _ _ _ _ _ _ _ _ _ _ _ _ _ _ _ _ _ _ _ _ _ _ _ _ _ _ _ _ _ _ _ _ _ _ _ _ _ _ _ _ ?_
   intro c8 di cd cC cD cE cF cG cH cI cL cM cN cO cP cQ cR cS cT cV cW cX cZ c0 c1 c2 c3 c4 c5 c6 c7 c9 c' da db dc b5 b6 x a6;have aH:=i (iD.start (k a6) (k ai) (k av) (k aw) (by have:=k a5;omega));have S:=qk (q:=a) (k ai);have ah:=bF (AO a e e.length) bD;have bk:eQ a e e.length=(aQ a e).length:=by unfold eQ;rw[eA]
   rw[bk] at ah ⊢;have S:=i S;clear bb a6 bk;obtain⟨hs,aR⟩:∃hs,aQ a e=hs:=⟨_,rfl⟩;rw[aR] at ah aH S ⊢;have a4:=i aR;clear aR;go_upto_block 2 with fail;refine wp_block ?_
   refine KO (k S) ah _ aH _ _ _ _ _ _ _ _ _ _ _ _ _ _ _ _ _ _ _ _ _ _ _ _ _ _ _ _ _ _ _ _ _ _ _ _ _ _ _ _ _ _ _ _ _ _ _ _ _ _ _ _ _ _ _ _ _ _ _ _ _ _ _ _ _ _ _ _ _ _ _ _ _ _ _ _ _ _ _ _ _ _ _ _ _ _ _ _ _ _ _ _ _ _ _ _ _ _ _ _ _ _ _ _ _ _ _ _ _ _ _ _ _ _ _ _ _ _ _ _ ?_;intro co cA cB dd de df dg dh dk dl dm dn dp dq dr dt du dv ce cf cg ch ci cj ck cl cm cn cp cq cr ct cu cv cw cx cy cz t bc
   have bf:bW (stay a e) hs hs.length=eY a e:=by
    unfold bW eY;rw[eA,k a4]
   have n:=(k bc).ji;rw[bf] at n;obtain⟨f0,f1,f2,f3,f4,f5,f6,f7,f8,f9,ao,L⟩:=(k I) t n.mod;have dw:t.cell? ⟨w,0,F⟩=E (y K num):=n.has.cell 0;have dy:t.cell? ⟨w,1,F⟩=E (y K a.rows):=n.has.cell 1;have dz:t.cell? ⟨w,2,F⟩=E (y K a.w):=n.has.cell 2;have dA:t.cell? ⟨w,3,F⟩=E (y K a.front):=n.has.cell 3;have dB:t.cell? ⟨w,4,F⟩=E (y K a.I):=n.has.cell 4;have dC:t.cell? ⟨w,5,F⟩=E (y K a.R):=n.has.cell 5
   have dF:t.cell? ⟨w,6,F⟩=E (y K a.n):=n.has.cell 6;have dG:t.cell? ⟨w,7,F⟩=E (y K a.f):=n.has.cell 7;have b2:t.cell? ⟨w,8,F⟩=E (C (E ⟨o,0,F⟩) (eY a e).length cap):=n.has.cell 8;have dH:t.cell? ⟨w,9,F⟩=E (y K u):=n.has.cell 9;have n:=i n;clear bf aH bc S ah I aA ai ay av aw a5 a4
   have au:=i (show ∃(x:U) (aK bd:Nat),G No s x/\s.heap.size<=aK/\aE x aK bd (eY a e)/\ig t gf d num a o (eY a e).length cap u=ig x gf d num a aK (eY a e).length bd u from⟨t,o,cap,(k n).mod,(k n).new.2,(k n).row,rfl⟩);have b3:=J;obtain⟨aj,aO⟩:∃aj,(eY a e).length=aj:=⟨_,rfl⟩;rw[aO] at b2 au;have bs:=i aO;clear aO
   have a1:=i (show ig t gf d num a o aj cap u=((((((((((t.setCell ⟨gf,d,F⟩ (y K num)).setCell ⟨gf,d+1,F⟩ (y K a.rows)).setCell ⟨gf,d+2,F⟩ (y K a.w)).setCell ⟨gf,d+3,F⟩ (y K a.front)).setCell ⟨gf,d+4,F⟩ (y K a.I)).setCell ⟨gf,d+5,F⟩ (y K a.R)).setCell ⟨gf,d+6,F⟩ (y K a.n)).setCell ⟨gf,d+7,F⟩ (y K a.f)).setCell ⟨gf,d+8,F⟩ (C (E ⟨o,0,F⟩) aj cap)).setCell ⟨gf,d+9,F⟩ (y K u)) from rfl)
   rw[k a1] at au;clear a1 n;go_wp2_with fail;go_ret;have bq:=k au;rw[k bs];exact⟨rfl,by with_reducible exact bq⟩
theorem dn.put{i:U} {gf f:Nat} {xs:List e} {a:Nat} {k:e} (m:dn i gf f (xs.set a k)) (hi:a<xs.length) (j:Nat) (n:j<10) (c:V) (d:e) (o:aV d=(aV k).setIfInBounds j c):dn (i.setCell ⟨gf,a* 10+j,F⟩ c) gf f (xs.set a d):=by
 have:=m.set a (by simpa using hi) j n c d (by simpa using o)
 rwa [List.set_set] at this
theorem dn.ig{k:U} {gf j:Nat} {xs:List e} (z:dn k gf j xs) (d:Nat) (hi:d<xs.length) (num:Int) (c:O) (f cap:Nat) (ls:List B) (i:Int):dn (ig k gf (d* 10) num c f ls.length cap i) gf j (xs.set d ⟨⟨num,c,ls,i⟩,f,cap⟩):=by
 have m:dn k gf j (xs.set d xs[d]):=by rw[lI];exact z
 generalize xs[d]=a at m;have n:=m.put hi 0 (by omega) (y K num) ⟨⟨num,⟨a.f.p.rows,a.f.p.w,a.f.p.front,a.f.p.I,a.f.p.R,a.f.p.n,a.f.p.f,a.f.p.ep⟩,a.f.S,a.f.ep⟩,a.g,a.cap⟩ rfl;have o:=n.put hi 1 (by omega) (y K c.rows) ⟨⟨num,⟨c.rows,a.f.p.w,a.f.p.front,a.f.p.I,a.f.p.R,a.f.p.n,a.f.p.f,a.f.p.ep⟩,a.f.S,a.f.ep⟩,a.g,a.cap⟩ rfl
 have p:=o.put hi 2 (by omega) (y K c.w) ⟨⟨num,⟨c.rows,c.w,a.f.p.front,a.f.p.I,a.f.p.R,a.f.p.n,a.f.p.f,a.f.p.ep⟩,a.f.S,a.f.ep⟩,a.g,a.cap⟩ rfl;have q:=p.put hi 3 (by omega) (y K c.front) ⟨⟨num,⟨c.rows,c.w,c.front,a.f.p.I,a.f.p.R,a.f.p.n,a.f.p.f,a.f.p.ep⟩,a.f.S,a.f.ep⟩,a.g,a.cap⟩ rfl
 have r:=q.put hi 4 (by omega) (y K c.I) ⟨⟨num,⟨c.rows,c.w,c.front,c.I,a.f.p.R,a.f.p.n,a.f.p.f,a.f.p.ep⟩,a.f.S,a.f.ep⟩,a.g,a.cap⟩ rfl;have s:=r.put hi 5 (by omega) (y K c.R) ⟨⟨num,⟨c.rows,c.w,c.front,c.I,c.R,a.f.p.n,a.f.p.f,a.f.p.ep⟩,a.f.S,a.f.ep⟩,a.g,a.cap⟩ rfl;have t:=s.put hi 6 (by omega) (y K c.n) ⟨⟨num,⟨c.rows,c.w,c.front,c.I,c.R,c.n,a.f.p.f,a.f.p.ep⟩,a.f.S,a.f.ep⟩,a.g,a.cap⟩ rfl
 have u:=t.put hi 7 (by omega) (y K c.f) ⟨⟨num,⟨c.rows,c.w,c.front,c.I,c.R,c.n,c.f,a.f.p.ep⟩,a.f.S,a.f.ep⟩,a.g,a.cap⟩ rfl;have w:=u.put hi 8 (by omega) (C (E ⟨f,0,F⟩) ls.length cap) ⟨⟨num,⟨c.rows,c.w,c.front,c.I,c.R,c.n,c.f,c.ep⟩,ls,a.f.ep⟩,f,cap⟩ rfl;have x:=w.put hi 9 (by omega) (y K i) ⟨⟨num,⟨c.rows,c.w,c.front,c.I,c.R,c.n,c.f,c.ep⟩,ls,i⟩,f,cap⟩ rfl;exact x
theorem G.ig{S:Nat->Prop} {a e:U} (m:G S a e) {gf:Nat} (d:S gf) (c:Nat) (num:Int) (i:O) (k f cap:Nat) (j:Int):G S a (Go.Proofs.YthhibagcpjeihaaGreat.ig e gf c num i k f cap j):=by
 unfold Go.Proofs.YthhibagcpjeihaaGreat.ig
 exact(((((((((m.setCell (p:=⟨gf,c,F⟩) (.inl d) _).setCell (p:=⟨gf,c+1,F⟩) (.inl d) _).setCell (p:=⟨gf,c+2,F⟩) (.inl d) _).setCell (p:=⟨gf,c+3,F⟩) (.inl d) _).setCell (p:=⟨gf,c+4,F⟩) (.inl d) _).setCell (p:=⟨gf,c+5,F⟩) (.inl d) _).setCell (p:=⟨gf,c+6,F⟩) (.inl d) _).setCell (p:=⟨gf,c+7,F⟩) (.inl d) _).setCell (p:=⟨gf,c+8,F⟩) (.inl d) _).setCell (p:=⟨gf,c+9,F⟩) (.inl d) _
theorem aF.KT{k m:U} {u:Nat->Nat} {o gf w:Nat} {xs:List e} {now:Int} (i:aF k u o (C (E ⟨gf,0,F⟩) xs.length w) xs now) (c:Nat) (hi:c<xs.length) (num:Int) (n:O) (f cap:Nat) (ls:List B) (p:Int) (I:G No k m) (af:k.heap.size<=f) (J:aE m f cap ls) (X:L n ls):∃M,aF (ig m gf (c* 10) num n f ls.length cap p) M o (C (E ⟨gf,0,F⟩) xs.length w) (xs.set c ⟨⟨num,n,ls,p⟩,f,cap⟩) now/\(∀a,M a≠0->u a≠0\/k.heap.size<=a)/\G (λa=>u a≠0) k (ig m gf (c* 10) num n f ls.length cap p):=by
 obtain⟨q,ab⟩:=i.parts rfl (by omega);have P:=J.lt;have ae:gf<k.heap.size:=i.aU gf (by rw[q];omega);have ah:o<k.heap.size:=i.aU o (by rw[i.aW];omega);have t:G (λa=>a=gf) k (ig m gf (c* 10) num n f ls.length cap p):=(I.mono (S':=λa=>a=gf) (λ_ _ D=>D.elim)).ig (gf:=gf) rfl _ _ _ _ _ _ _
 have H:G (λa=>a=gf) m (ig m gf (c* 10) num n f ls.length cap p):=(G.refl (λa=>a=gf) m).ig (gf:=gf) rfl _ _ _ _ _ _ _;have S:o≠gf:=λd=>by have:=i.aW;rw[d,q] at this;omega
 refine⟨λa=>if a=f then c+3 else if a=xs[c].g then 0 else u a,⟨t.has i.has S,.inr ⟨gf,w,by rw[iU],?_,?_⟩,?_,λa j=>?_,λs Q=>?_,by simpa using i.dU⟩,λa j=>?_,t.mono (λa _ d=>by rw[d,q];omega)⟩
 ·exact(ab.mod I (λD=>D)).ig c hi num n f cap ls p
 ·have z:gf≠f:=by omega
  have:gf≠xs[c].g:=λd=>by have:=(i.S c hi).2.1;rw[<-d,q] at this;omega
  simp only[if_neg z,if_neg this];exact q
 ·have z:o≠f:=by omega
  have:o≠xs[c].g:=λd=>by have:=(i.S c hi).2.1;rw[<-d,i.aW] at this;omega
  simp only[if_neg z,if_neg this];exact i.aW
 ·by_cases d:a=f
  ·subst d;exact aG P H.size
  ·simp only[if_neg d] at j;by_cases r:a=xs[c].g
   ·simp[r] at j
   ·simp only[if_neg r] at j;exact aG (i.aU a j) t.size
 ·have R:s<xs.length:=by simpa using Q
  by_cases d:c=s
  ·subst d;simp only[lH];exact⟨J.mod H (by omega),by simp,X⟩
  ·simp only[nX d];obtain⟨N,A,ad⟩:=i.S s R;have ag:=N.lt;have Y:xs[s].g≠f:=by omega
   have aa:xs[s].g≠xs[c].g:=λx=>by have:=(i.S c hi).2.1;rw[<-x,A] at this;omega
   refine⟨N.mod t (λx=>by rw[x,q] at A;omega),?_,ad⟩;rw[if_neg Y,if_neg aa];exact A
 ·by_cases d:a=f
  ·exact .inr (by omega)
  ·simp only[if_neg d] at j;by_cases r:a=xs[c].g
   ·simp[r] at j
   ·simp only[if_neg r] at j;exact .inl j
theorem Bh{i:U} {p:Nat->Nat} {u gf j:Nat} {xs:List e} {now:Int} (c:aF i p u (C (E ⟨gf,0,F⟩) xs.length j) xs now) (a:Nat) (hi:a<xs.length) (q:O):vR i gf (a* 10) xs[a].g xs[a].cap xs[a].f.p (eN xs[a].f.p q) xs[a].f.num xs[a].f.ep xs[a].f.S:=by
 obtain⟨o,f⟩:=c.parts rfl (by omega);obtain⟨r,s,t⟩:=c.S a hi;obtain⟨w,d,_⟩:=f.cur;exact⟨r,t,λk=>by rw[<-k,o] at s;omega,λn m=>f.cell a hi n m,d.frozen,d.lt,rfl,rfl,rfl,rfl⟩
theorem KU{k:U} {m:Nat->Nat} {r gf n:Nat} {xs:List e} {now:Int} (p:aF k m r (C (E ⟨gf,0,F⟩) xs.length n) xs now) (c:Nat) (hi:c<xs.length) (a:O) (i:a.sized=true/\¬a.rows* a.w<(ba xs[c].f.S:Int)):Calls T 54 #[b (E ⟨gf,c* 10,F⟩),l #[y K a.rows,y K a.w,y K a.front,y K a.I,y K a.R,y K a.n,y K a.f]] k λo w'=>o=g (y K 0)/\
   ∃j f cap,aF w' j r (C (E ⟨gf,0,F⟩) xs.length n) (xs.set c ⟨⟨xs[c].f.num,eN xs[c].f.p a,eY (eN xs[c].f.p a) xs[c].f.S,xs[c].f.ep⟩,f,cap⟩) now/\(∀d,j d≠0->m d≠0\/k.heap.size<=d)/\G (λd=>m d≠0) k w':=by
 have hF:=Bh p c hi a;have q:(eN xs[c].f.p a).limited=true:=hF.wf.limited;refine(KQ a.I a.R a.n a.f hF i.1 q i.2).mono ?_;rintro o w' ⟨rfl,A,f,cap,t,s,u,rfl⟩;obtain⟨j,w,x,z⟩:=p.KT c hi xs[c].f.num (eN xs[c].f.p a) f cap (eY (eN xs[c].f.p a) xs[c].f.S) xs[c].f.ep t s u (uq hF.wf i.1 q i.2);exact⟨rfl,j,f,cap,w,x,z⟩
theorem KV{d:U} {m:Nat->Nat} {n gf f:Nat} {xs:List e} {now:Int} (j:aF d m n (C (E ⟨gf,0,F⟩) xs.length f) xs now) (c:Nat) (hi:c<xs.length) (a:O) (k:¬(a.sized=true/\¬a.rows* a.w<(ba xs[c].f.S:Int))):Calls T 54 #[b (E ⟨gf,c* 10,F⟩),l #[y K a.rows,y K a.w,y K a.front,y K a.I,y K a.R,y K a.n,y K a.f]] d λi w'=>i=g (y K 4)/\G No d w':=
 KP (Q:=eN xs[c].f.p a) a.I a.R a.n a.f (Bh j c hi a) k
def oF(c:O) (a:e) (d cap:Nat):e:=⟨⟨a.f.num,eN a.f.p c,eY (eN a.f.p c) a.f.S,K.wrap (a.f.ep+1)⟩,d,cap⟩
theorem KW{j:U} {L:Nat->Nat} {r gf cap:Nat} {xs:List e} {now:Int} (q:aF j L r (C (E ⟨gf,0,F⟩) xs.length cap) xs now) (c s ac x w u t time:Int) (a:O) (hf:1<=c/\c<=20) (f:Nat) (hi:f<xs.length) (A:cT xs c=f) (B:¬(a.sized=true/\¬a.rows* a.w<(ba xs[f].f.S:Int))):
  Calls T 27 #[b (E ⟨r,0,F⟩),l #[y K 9,y K c,y K s,y K ac,y K x,y K w,y K u,y K t,y K time,y K a.rows,y K a.w,y K a.front,y K a.I,y K a.R,y K a.n,y K a.f]] j λm w'=>m=g (y K 4)/\G No j w':=by
 have D:=i λd (n:G No j d)=>(show Calls T 52 #[b (E ⟨r,0,F⟩),y K c] d λm w'=>m=g (y K (f:Nat))/\w'=d from by
  have:=(q.mod n (λ_ _ o=>o)).find c
  rw[A] at this
  exact this)
 have H:=i λd (n:G No j d)=>KV (q.mod n (λ_ _ o=>o)) f hi a B;have I:=i λd (n:G No j d)=>(show d.cell? ⟨r,0,F⟩=E (C (E ⟨gf,0,F⟩) xs.length cap) from eo n (q.has.cell 0) (λo=>o));have p:=i ((G.refl No j).alloc (v #[y K 9,y K c,y K s,y K ac,y K x,y K w,y K u,y K t,y K time,y K a.rows,y K a.w,y K a.front,y K a.I,y K a.R,y K a.n,y K a.f] 41))
 have z:=i (X.new j #[y K 9,y K c,y K s,y K ac,y K x,y K w,y K u,y K t,y K time,y K a.rows,y K a.w,y K a.front,y K a.I,y K a.R,y K a.n,y K a.f] 41);have f1:¬c<1:=by omega
 have f2:¬c>20:=by omega
 have M:¬(f:Int)<0:=by omega
 have N:(f:Int)<(xs.length:Int):=by omega
 have P:(0:Int)<=f:=by omega
 clear q A hf B;go_enter func27,ntmps27;go_wp2_with fail;refine((k D) _ (k p)).mono ?_;rintro m S ⟨rfl,rfl⟩;have R:=(k I) _ (k p);have hb:=(k z).cell;have Q:=(k z).lt;go_wp2_with fail;refine((k H) _ (k p)).mono ?_;rintro m Y ⟨rfl,J⟩;go_wp2;go_ret;exact⟨rfl,(k p).trans J⟩
theorem KX{f:U} {q:Nat->Nat} {u gf cap:Nat} {xs:List e} {now:Int} (w:aF f q u (C (E ⟨gf,0,F⟩) xs.length cap) xs now) (m A ac J I H B time:Int) (a:O) (hf:1<=m/\m<=20) (c:Nat) (hi:c<xs.length) (N:cT xs m=c) (P:a.sized=true/\¬a.rows* a.w<(ba xs[c].f.S:Int)):
  Calls T 27 #[b (E ⟨u,0,F⟩),l #[y K 9,y K m,y K A,y K ac,y K J,y K I,y K H,y K B,y K time,y K a.rows,y K a.w,y K a.front,y K a.I,y K a.R,y K a.n,y K a.f]] f λo w'=>o=g (y K 0)/\∃r t s,aF w' r u (C (E ⟨gf,0,F⟩) xs.length cap) (xs.set c (oF a xs[c] t s)) now/\(∀d,r d≠0->q d≠0\/f.heap.size<=d)/\G (λd=>q d≠0) f w':=by
 have ab:=i λn (p:G No f n)=>(show Calls T 52 #[b (E ⟨u,0,F⟩),y K m] n λo w'=>o=g (y K (c:Nat))/\w'=n from by
  have:=(w.mod p (λ_ _ j=>j)).find m
  rw[N] at this
  exact this)
 obtain⟨S,ak⟩:=w.parts rfl (by omega)
 have M:=i λn (p:G No f n)=>(show Calls T 54 #[b (E ⟨gf,c* 10,F⟩),l #[y K a.rows,y K a.w,y K a.front,y K a.I,y K a.R,y K a.n,y K a.f]] n λo w'=>o=g (y K 0)/\
   w'.cell? ⟨gf,c* 10+9,F⟩=E (y K xs[c].f.ep)/\(∀aj,w'.frozen? ⟨gf,aj,F⟩=false)/\gf<w'.heap.size/\∃r t s,aF (w'.setCell ⟨gf,c* 10+9,F⟩ (y K (K.wrap (xs[c].f.ep+1)))) r u (C (E ⟨gf,0,F⟩) xs.length cap) (xs.set c (oF a xs[c] t s)) now/\(∀d,r d≠0->q d≠0\/f.heap.size<=d)/\G (λd=>q d≠0) f (w'.setCell ⟨gf,c* 10+9,F⟩ (y K (K.wrap (xs[c].f.ep+1)))) from by
  refine(KU (w.mod p (λ_ _ j=>j)) c hi a P).mono ?_
  rintro o w' ⟨rfl,r,t,s,Q,af,ag⟩
  have hl:(xs.set c (⟨⟨xs[c].f.num,eN xs[c].f.p a,eY (eN xs[c].f.p a) xs[c].f.S,xs[c].f.ep⟩,t,s⟩:e)).length=xs.length:=by rw[iU]
  obtain⟨aw,aa⟩:=Q.parts hl (by omega)
  obtain⟨ap,Y,_⟩:=id aa.cur
  have hc:=aa.cell c (by rw[hl];exact hi) 9 (by omega)
  simp only[lH] at hc
  have R:=Q
  rw[<-hl] at R
  have D:=R.uX c (by rw[hl];exact hi) (K.wrap (xs[c].f.ep+1))
  simp only[lH,List.set_set] at D
  rw[hl] at D
  have ah:G (λd=>q d≠0) f w':=(p.mono (λ_ _ j=>j.elim)).trans ag
  refine⟨rfl,hc,Y.frozen,Y.lt,r,t,s,D,λd ae=>(af d ae).imp (λj=>j) (λj=>bF p.size j),ah.setCell (p:=⟨gf,c* 10+9,F⟩) (.inl ?_) _⟩
  show q gf≠0
  rw[S];omega)
 rw[show K.wrap (xs[c].f.ep+1)=wrap64 (xs[c].f.ep+1) from(by unfold wrap64;exact jB _)] at M;have ad:=i λn (p:G No f n)=>(show n.cell? ⟨u,0,F⟩=E (C (E ⟨gf,0,F⟩) xs.length cap) from eo p (w.has.cell 0) (λj=>j));have x:=i ((G.refl No f).alloc (v #[y K 9,y K m,y K A,y K ac,y K J,y K I,y K H,y K B,y K time,y K a.rows,y K a.w,y K a.front,y K a.I,y K a.R,y K a.n,y K a.f] 41))
 have L:=i (X.new f #[y K 9,y K m,y K A,y K ac,y K J,y K I,y K H,y K B,y K time,y K a.rows,y K a.w,y K a.front,y K a.I,y K a.R,y K a.n,y K a.f] 41);have f1:¬m<1:=by omega
 have f2:¬m>20:=by omega
 have aq:¬(c:Int)<0:=by omega
 have ar:(c:Int)<(xs.length:Int):=by omega
 have au:(0:Int)<=c:=by omega
 clear w N hf P S ak;go_enter func27,ntmps27;go_wp2_with fail;refine((k ab) _ (k x)).mono ?_;rintro o ax ⟨rfl,rfl⟩;have am:=(k ad) _ (k x);have hb:=(k L).cell;have ai:=(k L).lt;go_wp2_with fail;refine((k M) _ (k x)).mono ?_;rintro o ay ⟨rfl,ao,aA,av,z⟩;have z:=i z;clear hb am ai;go_wp2;go_ret;exact⟨rfl,k z⟩
end Go.Proofs.YthhibagcpjeihaaGreat
