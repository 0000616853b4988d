import Derived.Test.YthhibagcpjeihaaGreatMPg6ToBook6N
import Derived.Test.YthhibagcpjeihaaGreatMRef10ToOpArgs
import Derived.Test.YthhibagcpjeihaaGreatMCellsToEnc
import Derived.Test.YthhibagcpjeihaaGreatMBaseToPut2
import Derived.Deep.MidRow
import Derived.Deep.DeepCutAuto
import Derived.Test.YthhibagcpjeihaaGreatMRef28ToRef32
import Derived.Deep.CutBlock
import Derived.Test.YthhibagcpjeihaaGreatMPage1ToBook7S
open Go.Proofs.Tryz
open Go.Value renaming int->y,pointer->b,slice->C,bool->W
open Go.IntKind renaming i64->K
open Option renaming none->F,some->E
open Go renaming World->U,Value->V
open Go.Proofs.Tryz renaming prog->T
open Go.Ending renaming returned->g
open Go.Obj renaming cells->v
open Nat renaming lt_of_lt_of_le->aG
namespace Go.Proofs.YthhibagcpjeihaaGreat
open Go.RowKit
open M
set_option linter.unusedVariables false
set_option linter.unusedSimpArgs false
set_option maxRecDepth 100000
set_option maxHeartbeats 8000000
noncomputable def wg(a:Nat):Code:=((j9 (f11.body.getD .skip))[a]?).getD .skip
theorem LP{p:U} {q s w d m e b3 n b4:Nat} {a:Option Addr} (H:∀c,G No p c->c.cell? ⟨q,2,F⟩=E (C (E ⟨s,0,F⟩) n b4)/\q<c.heap.size/\c.cell? ⟨s,d,F⟩=E (C (E ⟨w,0,F⟩) 4 4)/\s<c.heap.size/\c.cell? ⟨w,m,F⟩=E (C a e b3)/\w<c.heap.size/\∀j,j<e->∃f,a=E ⟨f,0,F⟩/\f<c.heap.size/\c.rangeAt f (j* 3) (pz d).toList) (hi:d<n) (B:n<=1099511627776) (b7:m<4) (t:e<=1000000) (A:Exit->Act->U->Prop) (I cS aA aO a0 bb b8 Y ad ae af ag ah ai aj ak am ao ap aq ar au av aw ax ay aC aD aE aF aH aI aK aL aM aN aQ aR aS aT aU aV aW aX aY aZ a1 a2 a3 a4 a5 a6 a7 a8 a9 ba bc bd bf bh bi bk bl bm bn bo bp bq bs bt bu bv bw bx bz bA bB bC bD bE bG bH bJ bL bM bN bO bP bQ bR bS bT bU bV bW bY J L M N O P Q R S X aa ab b9 ca cb cc cd ce cf cg ch ci cj ck cl cm cn co cp cq cr ct cu cv cw cx cy cz cA cB cC cD cE cF cG cH cI cL cM cN cO cP cQ cR:V)
  (D:∀(dH dI cV cW cX cY cZ c0 c1 c2 c3 c4 c5 c6 c7 c8 c9 c' da db dc dd de df dg dh di dk dl dm dn dp dq dr dt du dv dw dy dz dA dB dC dF dG:V) (c:U),Hid (G No p c)->A (.exit 10) ⟨#[b (E ⟨q,1,F⟩),I,dH,aA,aO,a0,bb,y K (d:Int),y K (m:Int),dI,cV,Y,ad,ae,af,ag,ah,ai,aj,ak,am,ao,ap,aq,ar,au,av,aw,ax,ay,aC,aD,aE,aF,aH,aI,aK,aL,aM,aN,aQ,aR,aS,aT,aU,aV,aW,aX,aY,aZ,a1,a2,a3,a4,a5,a6,a7,a8,a9,ba,bc,bd,bf,bh,bi,bk,bl,bm,bn,bo,bp,bq,bs,bt,bu,bv,bw,bx,bz,bA,bB,bC,bD,bE,bG,bH,bJ,bL,bM,bN,bO,bP,bQ,bR,bS,bT,bU,bV,bW,bY,J,L,M,N,O,P,Q,R,S,X,aa,ab,cW,cX,cY,cZ,c0,c1,c2,c3,c4,c5,c6,c7,c8,c9,c',da,db,dc,dd,de,df,dg,dh,di,dk,dl,dm,dn,dp,dq,dr,dt,du,dv,dw,dy,dz,dA,dB,dC,dF,dG],[]⟩ c):
  Code.wp T (wg 5) A ⟨#[b (E ⟨q,1,F⟩),I,cS,aA,aO,a0,bb,y K (d:Int),y K (m:Int),y K 0,b8,Y,ad,ae,af,ag,ah,ai,aj,ak,am,ao,ap,aq,ar,au,av,aw,ax,ay,aC,aD,aE,aF,aH,aI,aK,aL,aM,aN,aQ,aR,aS,aT,aU,aV,aW,aX,aY,aZ,a1,a2,a3,a4,a5,a6,a7,a8,a9,ba,bc,bd,bf,bh,bi,bk,bl,bm,bn,bo,bp,bq,bs,bt,bu,bv,bw,bx,bz,bA,bB,bC,bD,bE,bG,bH,bJ,bL,bM,bN,bO,bP,bQ,bR,bS,bT,bU,bV,bW,bY,J,L,M,N,O,P,Q,R,S,X,aa,ab,b9,ca,cb,cc,cd,ce,cf,cg,ch,ci,cj,ck,cl,cm,cn,co,cp,cq,cr,ct,cu,cv,cw,cx,cy,cz,cA,cB,cC,cD,cE,cF,cG,cH,cI,cL,cM,cN,cO,cP,cQ,cR],[]⟩ p:=by
 conv=>arg 4;dsimp only
 conv=>arg 2;whnf
 have bZ:=i D;clear D;have b2:=i H;have dJ:=i B;have dT:(0:Int)<=d:=by omega
 have dU:(d:Int)<(n:Int):=by omega
 have dY:(0:Int)<=m:=by omega
 have d0:(m:Int)<4:=by omega
 have b1:=i t;clear H B hi b7 t;go_loopw [9] (λx cT=>∃j:Nat,x=y K (j:Int)/\j<=e/\Hid (G No p cT)) (λx _=>e - (intOf x).toNat)
 case atStart=>exact⟨0,rfl,by omega,G.refl _ _⟩
 case round=>
  obtain⟨j,rfl,dO,r⟩:=hrel;obtain⟨dK,dV,dL,dW,dM,dX,u⟩:=(k b2) wr (k r);have t:=k b1;by_cases b6:j<e
  ·have b5:(j:Int)<(e:Int):=by omega
   have dQ:(0:Int)<=j:=by omega
   have dS:K.wrap ((j:Int)+1)=((j+1:Nat):Int):=by rw[aB _ (by omega) (by omega)];rfl
   obtain⟨f,rfl,dN,o⟩:=u j b6;have d1:wr.cell? ⟨f,j* 3,F⟩=E (y K (-9)):=o 0 _ rfl;have d2:wr.cell? ⟨f,j* 3+1,F⟩=E (y K 0):=o 1 _ rfl;have d3:wr.cell? ⟨f,j* 3+2,F⟩=E (y K (d:Int)):=o 2 _ rfl;clear u o;have z:=i ((k r).alloc (v (pz d) 68));unfold pz at z;go_wp2;exact⟨⟨j+1,rfl,by omega,z⟩,by simp[intOf];omega⟩
  ·have b5:¬(j:Int)<(e:Int):=by omega
   clear u;go_wp2;exact(k bZ) _ _ _ _ _ _ _ _ _ _ _ _ _ _ _ _ _ _ _ _ _ _ _ _ _ _ _ _ _ _ _ _ _ _ _ _ _ _ _ _ _ _ _ _ _ _ r
theorem LQ{m:U} {j f:Nat} {cO:Nat->Prop} {cN:V} {ls:List Nat} {av bv lv:V} (q:iH m cO cN ls) (hy:m.cell? ⟨j,2,F⟩=E cN) (R:j<m.heap.size) (hi:f<ls.length) (H:ls.length<=1099511627776) (A:Exit->Act->U->Prop) (Y ea aA aO a0 bb eb c9 aa ab ad ae af ag ah ai aj ak am ao ap aq ar au aw ax ay aC aD aE aF aH aI aK aL aM aN aQ aR aS aT aU aV aW aX aY aZ a1 a2 a3 a4 a5 a6 a7 a8 a9 ba bc bd bf bh bi bk bl bm bn bo bp bq bs bt bu bw bx bz bA bB bC bD bE bG bH bJ bL bM bN bO bP bQ bR bS bT bU bV bW bY bZ c' da db dc dd de df dg dh di dk dl dm dn dp dq dr dt du dv dw dy dz dA dB dC dF dG dH dI dJ dK dL dM dN dO dQ dS dT dU dV dW dX dY d0 d1 d2 d3 d4 d5 d6 d7 d8 d9:V)
  (M:∀(cL ep cM b1 ed ee ef eg eh ei ej ek el em en eo b2 b3 b4 b5 b6 b7 b8 b9 ca cb cc cd ce cf cg ch ci cj ck cl cm cn co cp cq cr ct cu cv cw cx cy cz cA cB cC cD cE cF cG cH cI:V) (a:U),Hid (G No m a)->A (.exit 8) ⟨#[b (E ⟨j,1,F⟩),Y,cL,aA,aO,a0,bb,y K (f:Int),ep,cM,b1,aa,ab,ad,ae,af,ag,ah,ai,aj,ak,am,ao,ap,aq,ar,au,aw,ax,ay,aC,aD,aE,aF,aH,aI,aK,aL,aM,aN,aQ,aR,aS,aT,aU,aV,aW,aX,aY,aZ,a1,a2,a3,a4,a5,a6,a7,a8,a9,ba,bc,bd,bf,bh,bi,bk,bl,bm,bn,bo,bp,bq,bs,bt,bu,bw,bx,bz,bA,bB,bC,bD,bE,bG,bH,bJ,bL,bM,bN,bO,bP,bQ,bR,bS,bT,bU,bV,bW,bY,bZ,ed,ee,ef,eg,eh,ei,ej,ek,el,em,en,eo,b2,b3,b4,b5,b6,b7,b8,b9,ca,cb,cc,cd,ce,cf,cg,ch,ci,cj,ck,cl,cm,cn,co,cp,cq,cr,ct,cu,cv,cw,cx,cy,cz,cA,cB,cC,cD,cE,cF,cG,cH,cI],[]⟩ a):
  Code.wp T (wg 4) A ⟨#[b (E ⟨j,1,F⟩),Y,ea,aA,aO,a0,bb,y K (f:Int),y K 0,eb,c9,aa,ab,ad,ae,af,ag,ah,ai,aj,ak,am,ao,ap,aq,ar,au,aw,ax,ay,aC,aD,aE,aF,aH,aI,aK,aL,aM,aN,aQ,aR,aS,aT,aU,aV,aW,aX,aY,aZ,a1,a2,a3,a4,a5,a6,a7,a8,a9,ba,bc,bd,bf,bh,bi,bk,bl,bm,bn,bo,bp,bq,bs,bt,bu,bw,bx,bz,bA,bB,bC,bD,bE,bG,bH,bJ,bL,bM,bN,bO,bP,bQ,bR,bS,bT,bU,bV,bW,bY,bZ,c',da,db,dc,dd,de,df,dg,dh,di,dk,dl,dm,dn,dp,dq,dr,dt,du,dv,dw,dy,dz,dA,dB,dC,dF,dG,dH,dI,dJ,dK,dL,dM,dN,dO,dQ,dS,dT,dU,dV,dW,dX,dY,d0,d1,d2,d3,d4,d5,d6,d7,d8,d9],[]⟩ m:=by
 conv=>arg 4;dsimp only
 conv=>arg 2;whnf
 have cP:=i M;clear M;have cV:=i q;have x:=i hy;have z:=i R;have cQ:=i hi;have cR:=i H;obtain⟨o,D,r,rfl,I,P,J⟩:=q.at hi;have cT:=i P;have u:=i J;have t:=i I;have ev:(0:Int)<=f:=by omega
 have ew:(f:Int)<(ls.length:Int):=by omega
 clear q hy R J I H P;go_loopw [8] (λs ec=>∃c:Nat,s=y K (c:Int)/\c<=4/\Hid (G No m ec)) (λs _=>4 - (intOf s).toNat)
 case atStart=>exact⟨0,rfl,by omega,G.refl _ _⟩
 case round=>
  obtain⟨c,rfl,er,e⟩:=hrel;have cZ:wr.cell? ⟨j,2,F⟩=E (C (E ⟨o,0,F⟩) ls.length D):=fF (k e) (k x);have c7:=aG (k z) (k e).size;have c0:=fF (k e) (k u);have c8:=aG (k t) (k e).size;by_cases O:c<4
  ·have c6:(c:Int)<4:=by omega
   have et:(0:Int)<=c:=by omega
   have eu:K.wrap ((c:Int)+1)=((c+1:Nat):Int):=by rw[aB _ (by omega) (by omega)];rfl
   obtain⟨B,X,cY,N,Q,L,S⟩:=(k cV).head (k cT) O
   have w:=i (λ(a:U) (c4:G No wr a)=>(show a.cell? ⟨j,2,F⟩=E (C (E ⟨o,0,F⟩) ls.length D)/\j<a.heap.size/\a.cell? ⟨o,f,F⟩=E (C (E ⟨r,0,F⟩) 4 4)/\o<a.heap.size/\a.cell? ⟨r,c,F⟩=E (C B X cY)/\r<a.heap.size/\∀p,p<X->∃n,B=E ⟨n,0,F⟩/\n<a.heap.size/\a.rangeAt n (p* 3) (pz f).toList from by
    have d:=(k e).trans c4
    refine⟨fF d (k x),aG (k z) d.size,fF d (k u),aG (k t) d.size,fF d L,aG Q d.size,λp c5=>?_⟩
    obtain⟨n,c1,c2,c3⟩:=S p c5
    exact⟨n,c1,aG c2 d.size,qG d c3⟩))
   have cS:=i N;clear L S Q N;go_upto_block 10 with fail;refine wp_block ?_
   refine LP (k w) (k cQ) (k cR) O (k cS) _ _ _ _ _ _ _ _ _ _ _ _ _ _ _ _ _ _ _ _ _ _ _ _ _ _ _ _ _ _ _ _ _ _ _ _ _ _ _ _ _ _ _ _ _ _ _ _ _ _ _ _ _ _ _ _ _ _ _ _ _ _ _ _ _ _ _ _ _ _ _ _ _ _ _ _ _ _ _ _ _ _ _ _ _ _ _ _ _ _ _ _ _ _ _ _ _ _ _ _ _ _ _ _ _ _ _ _ _ _ _ _ _ _ _ _ _ _ _ _ _ _ _ _ _ _ _ _ _ _ _ _ _ _ _ _ _ _ _ _ _ _ _ _ _ _ _ _ _ _ _ ?_
   intro cL cM b1 b2 b3 b4 b5 b6 b7 b8 b9 ca cb cc cd ce cf cg ch ci cj ck cl cm cn co cp cq cr ct cu cv cw cx cy cz cA cB cC cD cE cF cG cH cI eq cW;have cX:=i ((k e).trans (k cW));clear cZ c7 c0 c8 w;go_wp2;exact⟨⟨c+1,rfl,by omega,cX⟩,by simp[intOf];omega⟩
  ·have c6:¬(c:Int)<4:=by omega
   go_wp2;exact(k cP) _ _ _ _ _ _ _ _ _ _ _ _ _ _ _ _ _ _ _ _ _ _ _ _ _ _ _ _ _ _ _ _ _ _ _ _ _ _ _ _ _ _ _ _ _ _ _ _ _ _ _ _ _ _ _ _ _ _ _ e
theorem LR{c:U} {e:Nat} {f:Nat->Prop} {cy:V} {ls:List Nat} (j:iH c f cy ls) (hy:c.cell? ⟨e,2,F⟩=E cy) (w:e<c.heap.size) (cL:ls.length<=1099511627776) (r:Exit->Act->U->Prop) (z dN ae ar aI aV dO dQ cO A B D H I J L M N O P Q R S X Y aa ab ad af ag ah ai aj ak am ao ap aq au av aw ax ay aA aD aE aF aH aK aL aM aN aO aQ aR aS aT aU aW aX aY aZ a0 a1 a2 a3 a4 a5 a6 a7 a8 a9 ba bb bc bd bf bh bi bk bl bm bn bo bp bq bs bt bu dS dT dU dV dW dX dY d0 d1 cP cQ cR cS cT cV cW cX cY cZ c0 c1 c2 c3 c4 c5 c6 c7 c8 c9 c' da db dc dd de df dg dh di dk dl dm dn dp dq dr dt du dv dw dy dz dA dB dC dF dG dH dI dJ dK dL dM:V)
  (u:∀(cv d3 cw cx bv d4 d5 d6 d7 d8 d9 ea eb ec bw bx bz bA bB bC bD bE bG bH bJ bL bM bN bO bP bQ bR bS bT bU bV bW bY bZ b1 b2 b3 b4 b5 b6 b7 b8 b9 ca cb cc cd ce cf cg ch ci cj ck cl cm cn co cp cq cr ct cu:V) (s:U),Hid (G No c s)->r (.exit 6) ⟨#[b (E ⟨e,1,F⟩),z,cv,ae,ar,aI,aV,d3,cw,cx,bv,A,B,D,H,I,J,L,M,N,O,P,Q,R,S,X,Y,aa,ab,ad,af,ag,ah,ai,aj,ak,am,ao,ap,aq,au,av,aw,ax,ay,aA,aD,aE,aF,aH,aK,aL,aM,aN,aO,aQ,aR,aS,aT,aU,aW,aX,aY,aZ,a0,a1,a2,a3,a4,a5,a6,a7,a8,a9,ba,bb,bc,bd,bf,bh,bi,bk,bl,bm,bn,bo,bp,bq,bs,bt,bu,d4,d5,d6,d7,d8,d9,ea,eb,ec,bw,bx,bz,bA,bB,bC,bD,bE,bG,bH,bJ,bL,bM,bN,bO,bP,bQ,bR,bS,bT,bU,bV,bW,bY,bZ,b1,b2,b3,b4,b5,b6,b7,b8,b9,ca,cb,cc,cd,ce,cf,cg,ch,ci,cj,ck,cl,cm,cn,co,cp,cq,cr,ct,cu],[]⟩ s):
  Code.wp T (wg 3) r ⟨#[b (E ⟨e,1,F⟩),z,dN,ae,ar,aI,aV,y K 0,dO,dQ,cO,A,B,D,H,I,J,L,M,N,O,P,Q,R,S,X,Y,aa,ab,ad,af,ag,ah,ai,aj,ak,am,ao,ap,aq,au,av,aw,ax,ay,aA,aD,aE,aF,aH,aK,aL,aM,aN,aO,aQ,aR,aS,aT,aU,aW,aX,aY,aZ,a0,a1,a2,a3,a4,a5,a6,a7,a8,a9,ba,bb,bc,bd,bf,bh,bi,bk,bl,bm,bn,bo,bp,bq,bs,bt,bu,dS,dT,dU,dV,dW,dX,dY,d0,d1,cP,cQ,cR,cS,cT,cV,cW,cX,cY,cZ,c0,c1,c2,c3,c4,c5,c6,c7,c8,c9,c',da,db,dc,dd,de,df,dg,dh,di,dk,dl,dm,dn,dp,dq,dr,dt,du,dv,dw,dy,dz,dA,dB,dC,dF,dG,dH,dI,dJ,dK,dL,dM],[]⟩ c:=by
 conv=>arg 4;dsimp only
 conv=>arg 2;whnf
 have cz:=i u;clear u;have cC:=i j;have cD:=i hy;have cE:=i w;have cB:=i cL;obtain⟨cH,cI,rfl⟩:=aC j.row;clear j hy w;go_loopw [7] (λm d2=>∃a:Nat,m=y K (a:Int)/\a<=ls.length/\Hid (G No c d2)) (λm _=>ls.length - (intOf m).toNat)
 case atStart=>exact⟨0,rfl,by omega,G.refl _ _⟩
 case round=>
  obtain⟨a,rfl,hi,d⟩:=hrel;have t:wr.cell? ⟨e,2,F⟩=E (C cH ls.length cI):=fF (k d) (k cD);have x:=aG (k cE) (k d).size;by_cases cN:a<ls.length
  ·have cM:(a:Int)<(ls.length:Int):=by omega
   have ee:(0:Int)<=a:=by omega
   have ef:K.wrap ((a:Int)+1)=((a+1:Nat):Int):=by rw[aB _ (by omega) (by omega)];rfl
   have p:=i ((k cC).mod (F':=f) ((k d).mono (S':=f) (λ_ _ n=>n.elim)) (λ_ _ n=>n));have o:=i t;have q:=i x;have cA:=i cN;go_upto_block 8 with fail;refine wp_block ?_
   refine LQ (av:=undef) (bv:=undef) (lv:=undef) (k p) (k o) (k q) (k cA) (k cB) _ _ _ _ _ _ _ _ _ _ _ _ _ _ _ _ _ _ _ _ _ _ _ _ _ _ _ _ _ _ _ _ _ _ _ _ _ _ _ _ _ _ _ _ _ _ _ _ _ _ _ _ _ _ _ _ _ _ _ _ _ _ _ _ _ _ _ _ _ _ _ _ _ _ _ _ _ _ _ _ _ _ _ _ _ _ _ _ _ _ _ _ _ _ _ _ _ _ _ _ _ _ _ _ _ _ _ _ _ _ _ _ _ _ _ _ _ _ _ _ _ _ _ _ _ _ _ _ _ _ _ _ _ _ _ _ _ _ _ _ _ _ _ _ _ _ _ _ _ _ _ _ ?_
   intro cv cw cx bv bw bx bz bA bB bC bD bE bG bH bJ bL bM bN bO bP bQ bR bS bT bU bV bW bY bZ b1 b2 b3 b4 b5 b6 b7 b8 b9 ca cb cc cd ce cf cg ch ci cj ck cl cm cn co cp cq cr ct cu ed cF;have cG:=i ((k d).trans (k cF));clear t x p o q;go_wp2;exact⟨⟨a+1,rfl,by omega,cG⟩,by simp[intOf];omega⟩
  ·have cM:¬(a:Int)<(ls.length:Int):=by omega
   go_wp2;exact(k cz) _ _ _ _ _ _ _ _ _ _ _ _ _ _ _ _ _ _ _ _ _ _ _ _ _ _ _ _ _ _ _ _ _ _ _ _ _ _ _ _ _ _ _ _ _ _ _ _ _ _ _ _ _ _ _ _ _ _ _ _ _ _ _ _ _ _ _ _ _ d
theorem LS{a:U} {t F':Nat->Prop} {s:Nat} {lv j m:V} {q r:List Nat} (hy:X a s #[lv,j,m] 34) (n:fH a t j q) (hb:iH a F' m r) (o:q.length<=1099511627776) (p:r.length<=1099511627776):Calls T 11 #[b (E ⟨s,1,F⟩)] a λH w'=>H=g (W true)/\G No a w':=by
 have d:=i hy;have w:=i n;have x:=i hb;have A:=i o;have B:=i p;clear hy n hb o p;go_enter func11,ntmps11;go_upto_block 0 with fail;refine wp_block ?_
 refine Lc (k w) ((k d).cell 1) (k d).lt (k A) _ _ _ _ _ _ _ _ _ _ _ _ _ _ _ _ _ _ _ _ _ _ _ _ _ _ _ _ _ _ _ _ _ _ _ _ _ _ _ _ _ _ _ _ _ _ _ _ _ _ _ _ _ _ _ _ _ _ _ _ _ _ _ _ _ _ _ _ _ _ _ _ _ _ _ _ _ _ _ _ _ _ _ _ _ _ _ _ _ _ _ _ _ _ _ _ _ _ _ _ _ _ _ _ _ _ _ _ _ _ _ _ _ _ _ _ _ _ _ _ _ _ _ _ _ _ _ _ _ _ _ _ _ _ _ _ _ _ _ _ _ _ _ _ _ _ _ _ _ _ _ _ _ ?_
 intro aa ao aC aQ a1 L M N O P Q R S Y ab ad ae af ag ah ai aj ak am ap aq ar au av aw ax ay aA aB aD aE aF aH aI aK aL aM aN aO aR aS aT aU aV aW aX aY aZ a0 a2 a3 a4 a5 a6 a7 a8 a9 ba bb bc bd bf bh bi bk bl bm bn bo bp bq bs bt bu bv bw bx bz bA bB I e;have z:=i ((k x).mod (F':=F') ((k e).mono (S':=F') (λ_ _ c=>c.elim)) (λ_ _ c=>c));have f:=i ((k e).has (k d) (λc=>c))
 go_upto_block 6 with fail;refine wp_block ?_
 refine LR (k z) ((k f).cell 2) (k f).lt (k B) _ _ _ _ _ _ _ _ _ _ _ _ _ _ _ _ _ _ _ _ _ _ _ _ _ _ _ _ _ _ _ _ _ _ _ _ _ _ _ _ _ _ _ _ _ _ _ _ _ _ _ _ _ _ _ _ _ _ _ _ _ _ _ _ _ _ _ _ _ _ _ _ _ _ _ _ _ _ _ _ _ _ _ _ _ _ _ _ _ _ _ _ _ _ _ _ _ _ _ _ _ _ _ _ _ _ _ _ _ _ _ _ _ _ _ _ _ _ _ _ _ _ _ _ _ _ _ _ _ _ _ _ _ _ _ _ _ _ _ _ _ _ _ _ _ _ _ _ _ _ _ _ _ ?_
 intro cB cC cD cE bC cF cG cH cI cL cM cN cO cP bD bE bG bH bJ bL bM bN bO bP bQ bR bS bT bU bV bW bY bZ b1 b2 b3 b4 b5 b6 b7 b8 b9 ca cb cc cd ce cf cg ch ci cj ck cl cm cn co cp cq cr ct cu cv cw cx cy cz cA J D;have u:=i ((k e).trans (k D));go_wp2;go_ret;exact⟨rfl,k u⟩
end Go.Proofs.YthhibagcpjeihaaGreat
