import Derived.Test.YthhibagcpjeihaaGreatMRef39ToLaw8
import Derived.Test.YthhibagcpjeihaaGreatMPTape2ToBulkL
import Derived.Test.YthhibagcpjeihaaGreatMRef10ToOpArgs
import Derived.Test.YthhibagcpjeihaaGreatMCellsToEnc
import Derived.Test.YthhibagcpjeihaaGreatMBaseToPut2
import Derived.Deep.MidRow
import Derived.Deep.DeepCutAuto
open Go.Proofs.Tryz
open Go.Value renaming int->y,pointer->b,slice->C,bool->W,agg->l,tuple->h,ownBlock->az
open Go.IntKind renaming i64->K
open Option renaming none->F,some->E
open Go renaming World->U,Value->V
open Go.Proofs.Tryz renaming prog->T
open Go.Ending renaming returned->g
open Go.Obj renaming cells->v
open Go.Act renaming eval->Z,put->aP
open Go.World renaming ownsRow_nil->cJ,size_setCell->kx
open Nat renaming le_trans->bF
open List renaming length_nil->im
namespace Go.Proofs.YthhibagcpjeihaaGreat
open Go.RowKit
open M
set_option linter.unusedVariables false
set_option linter.unusedSimpArgs false
set_option maxRecDepth 100000
set_option maxHeartbeats 8000000
def wk:N:=⟨8,0,0,0,0,0,0,0,7,⟨0,0,0,0,0,0,0,0⟩⟩
theorem js.mb{f:Nat} {I:z} (k:js f I):∀e c,(I.mb.map λM=>(M.now,M.fl))=E (e,c)->bh (f:Int) e c:=λe c a=>by
 cases d:I.mb with
 |none=>rw[d] at a;cases a
 |some M=>
  rw[d] at a;injection a with a;injection a with i j;subst i;subst j;exact(k.b.may M d).1
theorem ai.copy{c:U} {f:Nat->Prop} {o:Nat} {I:z} (i:ai c f o I):Calls T 47 #[b (E ⟨I.K.tb,0,F⟩)] c λe w'=>∃a:Nat,e=g (b (E ⟨a,0,F⟩))/\c.heap.size<=a/\ae w' (λd=>(if c.heap.size<=d/\d<w'.heap.size then 30 else 0)=30) a I.K.T/\G No c w':=by
 refine(Io i.ij).mono ?_;rintro e w' ⟨a,rfl,j,k,m⟩;exact⟨a,rfl,j,k.narrow.wide (λd n=>if_pos n),m⟩
theorem kU{c w':U} (a:Nat) (d:(if c.heap.size<=a/\a<w'.heap.size then 30 else 0)=30):c.heap.size<=a/\a<w'.heap.size:=by
 by_cases e:c.heap.size<=a/\a<w'.heap.size
 ·exact e
 ·rw[if_neg e] at d;cases d
theorem Mh{d:U} {ag:Nat->Prop} {H D:Nat} {I:z} (s:ai d ag H I) (p:js D I):Calls T 46 #[b (E ⟨H,0,F⟩)] d λa w'=>a=g (h #[])/\G No d w':=by
 have L:=i s.copy;have f:=p.b;have aC:=f.ch;have aE:=f.most;have aD:=f.dU
 have r:=i (λ(e q:U) (j:Nat) (n:G No d q) (u:ae e (λc=>(if d.heap.size<=c/\c<q.heap.size then 30 else 0)=30) j (qJ I.K.T (-1))) (B:G (λc=>d.heap.size<=c) q e)=>(show Calls T 20 #[b (E ⟨j,0,F⟩)] e λa w3=>∃o,a=g (h #[b (E ⟨o,0,F⟩),y K 0])/\G No d w3/\
   Calls T 25 #[b (E ⟨o,0,F⟩),l (Q wk)] w3 λa J=>∃ad,a=g (y K ad)/\G No d J from by
  obtain⟨ax,aj,aq,ap⟩:=vY (N:=(D:Int)) u (λc m=>by have:=(kU c m).2;have:=B.size;omega) (p.tE.fuse (-1)) f.ok p.mb f.room (by omega) (by omega) (by omega)
  have R:bh (D:Int) ax aj:=by
   obtain⟨rfl,rfl⟩|a:=aq
   ·exact f.ok
   ·exact p.mb _ _ a
  have aI:=n.size
  have aK:=B.size
  have X:G No d e:=n.trans' B (λc m hl=>by omega)
  refine ap.mono ?_
  rintro a w3 (⟨o,A,aA,x,rfl,am,P,aB⟩|⟨_,hf,_⟩)
  ·obtain⟨⟨aN,pt,ar,au,aL⟩,aM,av⟩:=am
   have Y:G No d w3:=X.trans' av (λc m hl=>by have:=kU c m;omega)
   refine⟨o,rfl,Y,?_⟩
   have aF:=R.time
   have aH:((x.b A).length:Int)<=I.most+60* I.ch:=P.size
   refine(tm ar (by omega) (vZ (K:=⟨j,A,aA,true,x⟩) R P) (by show(x.b A).length+42<=17592186044416;omega) wk).mono ?_
   rintro a J ⟨rfl,_,ao⟩
   exact⟨_,rfl,Y.trans' ao (λc m hl=>m (by rw[au c (by have:=X.size;omega),if_neg (λa=>by have:=kU c a;omega)]))⟩
  ·exact absurd hf (by show ¬(0:Int)<= -1;omega)))
 have ah:d.cell? ⟨H,0,F⟩=E (b (E ⟨I.K.tb,0,F⟩)):=s.has.cell 0;have ay:=s.has.lt;clear s p f;go_enter func46,ntmps46;go_wp2_with fail;refine(k L).mono ?_;rintro a q ⟨j,rfl,S,u,n⟩;have M:=i (vq u (-1) (by omega));have r:=i (λe t ak=>(k r) e q j n t ak);have N:=i S;clear L ah ay n u S;go_wp2_with fail;refine(k M).mono ?_;rintro a e ⟨rfl,t,aa⟩
 have O:=i ((k r) e t (aa.mono (λc _ (a:c=j)=>by have:=k N;omega)));clear M r t aa N;go_wp2_with fail;refine(k O).mono ?_;rintro a w3 ⟨o,rfl,aw,hd⟩;have w:=i hd;clear O hd aw;unfold wk Q at w;go_wp2_with fail;refine(k w).mono ?_;rintro a J ⟨ad,rfl,ab⟩;have af:=i ab;clear ab w;go_wp2;go_end0;exact⟨rfl,k af⟩
structure qV (w w':U) (O:Nat->Prop) (ob:Nat) (I:z):Prop where
 ex:∃I',ai w' (grow O w w') ob I'/\I'.W.now=I.now/\I'.W.fl=I.fl/\I'.kb=I.kb/\I'.now=I.now/\I'.fl=I.fl/\I'.K=I.K/\I'.ch=I.ch/\I'.sh=false/\I'.mb=F/\I.most<=I'.most/\bB I'.W.xs<=I'.most/\(I'.most<=max I.most (bB I'.W.xs))/\I'.tl=I.tl/\(I'.ns=λ_=>[])/\(I'.bs=λ_=>false)
 mod:G O w w'
theorem Mi(a:U) (S:Array V) (d:S=pH (λ_=>C F 0 0) (λ_=>false)):nr (a.alloc (v S 76)) (λc=>if c=a.heap.size then 1 else 0) a.heap.size (λ_=>C F 0 0) (λ_=>[]) (λ_=>false):=by
 subst d;exact⟨X.new a _ _,λf hi=>cJ _ _ _ _,λf hi c e=>by simp[az] at e,if_pos rfl⟩
theorem Cf{i w2 w3 w':U} {e:Nat->Prop} {f:Nat} {a I':z} (p:ai w3 (grow e i w2) f a) (u:i.heap.size<=w2.heap.size) (w:w2.heap.size<=w3.heap.size) (k:G (λd=>d=f) w3 w') (s:G e i w3) (t:e f) (r:∀d,e d->d<i.heap.size) (q:X w' f (dA I') 55) (n:I'.kb=a.kb/\I'.okp=a.okp/\I'.om=a.om/\I'.now=a.now/\I'.fl=a.fl/\I'.K=a.K/\I'.tl=a.tl) (m:(I'.W=a.W/\(I'.mb=a.mb\/I'.mb=F))\/(a.mb=E I'.W/\I'.mb=F)) (o:I'.owt=a.owt/\I'.tob=a.tob/\I'.vs=a.vs/\I'.ns=a.ns/\I'.bs=a.bs):ai w' (grow e i w') f I'/\G e i w':=by
 have x:=k.size;refine⟨(p.tH k (λd _ j=>j) q (.inl n) m (.inl o)).iI (λd c=>?_) (λd c=>?_),s.trans (k.mono (λd _ (j:d=f)=>by rw[j];exact t))⟩
 ·obtain(c|c)|c:=c
  ·exact .inl c
  ·exact .inr ⟨c.1,by omega⟩
  ·exact .inr ⟨by omega,c.2⟩
 ·obtain c|c:=c
  ·have:=r d c;omega
  ·exact c.2
theorem Mj{c:U} {L:Nat->Prop} {a B:Nat} {N:Int} {I:z} (o:ai c L a I) (am:I.kb=E B) (hF:bh N I.now I.fl) (aS:bh N I.W.now I.W.fl) (aZ:bB I.W.xs<=I.most) (aT:(I.W.now=I.now/\I.W.fl=I.fl)\/(∃M,I.mb=E M/\M.now=I.now/\M.fl=I.fl/\Diff I.now I.fl I.W.now I.W.fl)):
  Calls T 48 #[b (E ⟨a,0,F⟩)] c λm w'=>m=g (W true)/\qV c w' L a I:=by
 have av:=o.qS;have au:=o.lt;have bc:=o.has.lt;have a4:=i o;have ap:G (λd=>d=a) c (((c.setCell ⟨a,7,F⟩ (W false)).setCell ⟨a,4,F⟩ (b (E ⟨c.heap.size,0,F⟩))).alloc (v (pH (λ_=>C F 0 0) (λ_=>false)) 76)):=(((G.refl _ c).at 7 _).at 4 _).alloc _
 have aU:X (((c.setCell ⟨a,7,F⟩ (W false)).setCell ⟨a,4,F⟩ (b (E ⟨c.heap.size,0,F⟩))).alloc (v (pH (λ_=>C F 0 0) (λ_=>false)) 76)) a (dA { I with sh:=false,tob:=c.heap.size,owt:=λd=>if d=c.heap.size then 1 else 0,vs:=λ_=>C F 0 0,ns:=λ_=>[],bs:=λ_=>false }) 55:=((o.has.set 7 (W false)).set 4 _).alloc _;have ax:=Mi ((c.setCell ⟨a,7,F⟩ (W false)).setCell ⟨a,4,F⟩ (b (E ⟨c.heap.size,0,F⟩))) _ rfl
 rw[show((c.setCell ⟨a,7,F⟩ (W false)).setCell ⟨a,4,F⟩ (b (E ⟨c.heap.size,0,F⟩))).heap.size=c.heap.size by simp] at ax
 have p:=i (o.tH (I':={ I with sh:=false,tob:=c.heap.size,owt:=λd=>if d=c.heap.size then 1 else 0,vs:=λ_=>C F 0 0,ns:=λ_=>[],bs:=λ_=>false }) ap (λd _ m=>m) aU (.inl ⟨rfl,rfl,rfl,rfl,rfl,rfl,rfl⟩) (.inl ⟨rfl,.inl rfl⟩) (.inr ⟨ax,λd q=>by
  have q:(if d=c.heap.size then 1 else 0)≠0:=q
  by_cases j:d=c.heap.size
  ·refine⟨by omega,by simp;omega,?_⟩
   by_cases m:I.okp d=0
   ·exact m
   ·have:=au d (o.kT d m);omega
  ·rw[if_neg j] at q;exact absurd rfl q⟩))
 have ah:=i (ap.mono (S':=L) (λd _ (m:d=a)=>by rw[m];exact av));have aN:=i ap.size;have bf:=o.has.frozen;have bb:c.cell? ⟨a,7,F⟩=E (W I.sh):=o.has.cell 7;have ba:c.cell? ⟨a,4,F⟩=E (b (E ⟨I.tob,0,F⟩)):=o.has.cell 4;have H:=i hF;have ae:=i aS;have S:=i aZ;have J:=i aT;have aF:=i au;have aI:=i av;clear o ap aU ax hF aS aZ aT au av;unfold pH at *;go_enter func48,ntmps48;go_upto_region 3 with fail
 generalize bd:World.alloc _ _=u at *;clear bd bf bc a4 bb ba;have t:u.cell? ⟨a,3,F⟩=E (fj (I.mb.map (·.wb))):=(k p).has.cell 3;have ab:=(k p).has.lt
 cases A:I.mb with
 |none=>
  rw[A] at t;unfold fj at t;simp only[Option.map_none] at t;have hs:I.W.now=I.now/\I.W.fl=I.fl:=by
   obtain j|⟨M,j,_⟩:=k J
   ·exact j
   ·rw[A] at j;cases j
  have R:=i (show qV c u L a I from⟨⟨_,k p,hs.1,hs.2,rfl,rfl,rfl,rfl,rfl,rfl,A,Int.le_refl _,k S,by show I.most<=max I.most (bB I.W.xs);omega,rfl,rfl,rfl⟩,k ah⟩);clear H ae S J p ah A hs;go_wp2;go_ret;exact⟨rfl,k R⟩
 |some M=>
  rw[A] at t;unfold fj at t;simp only[Option.map_some] at t;have r:=i A;clear A;obtain⟨D,aw⟩:∃D:Bool,(D=true/\I.now=I.W.now/\I.fl=I.W.fl)\/(D=false/\Diff I.now I.fl I.W.now I.W.fl):=by
   obtain⟨ad,P⟩|⟨x,_,_,_,j⟩:=k J
   ·exact⟨true,.inl ⟨rfl,ad.symm,P.symm⟩⟩
   ·exact⟨false,.inr ⟨rfl,j⟩⟩
  have af:=i aw
  have aD:=i (λ(e:ft u)=>(show Calls T 74 #[b (E ⟨B,0,F⟩),b (E ⟨I.W.wb,0,F⟩)] e.W λm w'=>m=g (W D)/\G No e.W w' from by
   have O:=(k p).mod e.h (λ_ _ f=>f)
   obtain⟨⟨pt,q⟩,_⟩:=O.keep.some B am
   exact BW (N:=N) ⟨pt,q.keep⟩ O.aR.aR O.aR.same (k H) (k ae) D aw))
  clear aw;have aq:∀(e:ft u),e.W.cell? ⟨a,1,F⟩=E (b (E ⟨B,0,F⟩)):=λe=>by
   have:=(e.h.has (k p).has (λf=>f)).cell 1;rw[this];show E (fj I.kb)=_;rw[am];rfl
  have a5:∀(e:ft u),e.W.cell? ⟨a,2,F⟩=E (b (E ⟨I.W.wb,0,F⟩)):=λe=>(e.h.has (k p).has (λf=>f)).cell 2;have ar:∀(e:ft u),a<e.W.heap.size:=λe=>(e.h.has (k p).has (λf=>f)).lt;go_upto_region 5 with fail;go_cut [3] from 17 to 25 (λaA aC=>aA=W D/\Hid (G No u aC))
  case first=>
   haveI:=rF u
   refine nO (w0:=u) (by kernel_rfl) (by kernel_rfl) (G.refl _ _) ?_
   repeat (go_big_quiet_step ((go_at_call 74;exact Calls.wd _ ((k aD) _))))
   refine wpQuiet_nil ?_;rintro w3 ⟨⟨_,aa⟩,rfl⟩;have w:=i aa;clear aa;go_wp2;go_meet;exact⟨rfl,w⟩
  case rest=>
   obtain⟨rfl,w⟩:=hcut
   apply_assumption
   have n:=i ((k p).mod (k w) (λ_ _ f=>f));have aO:=i (k w).size;have aj:=i ((k ah).trans ((k w).mono (λ_ _ f=>f.elim)));clear aD aq a5 ar t ab p w ah;have ab:=(k n).has.lt;have of:=(k n).has.frozen;have d3:wc.cell? ⟨a,3,F⟩=E (b (E ⟨M.wb,0,F⟩)):=by
    rw[(k n).has.cell 3];show E (fj (I.mb.map (·.wb)))=_;rw[k r];rfl
   cases D with
   |true=>
    have hs:I.now=I.W.now/\I.fl=I.W.fl:=by
     obtain⟨_,j⟩|⟨j,_⟩:=k af
     ·exact j
     ·cases j
    have aQ:=(k n).has.set 3 (b F);obtain⟨a2,a0⟩:=Cf (I':={ I with sh:=false,tob:=c.heap.size,owt:=λd=>if d=c.heap.size then 1 else 0,vs:=λ_=>C F 0 0,ns:=λ_=>[],bs:=λ_=>false,mb:=F }) (k n) (k aN) (k aO) ((G.refl (λd=>d=a) wc).at 3 (b F)) (k aj) (k aI) (k aF) aQ ⟨rfl,rfl,rfl,rfl,rfl,rfl,rfl⟩ (.inl ⟨rfl,.inr rfl⟩) ⟨rfl,rfl,rfl,rfl,rfl⟩
    have R:=i (show qV c (wc.setCell ⟨a,3,F⟩ (b F)) L a I from⟨⟨_,a2,hs.1.symm,hs.2.symm,rfl,rfl,rfl,rfl,rfl,rfl,rfl,Int.le_refl _,k S,by show I.most<=max I.most (bB I.W.xs);omega,rfl,rfl,rfl⟩,a0⟩);clear aQ a2 a0 H ae S J n aj af hs;go_wp2;go_ret;exact⟨rfl,k R⟩
   |false=>
    have hs:∃x,I.mb=E x/\x.now=I.now/\x.fl=I.fl:=by
     obtain⟨ad,P⟩|⟨x,ad,P,bi,_⟩:=k J
     ·obtain⟨j,_⟩|⟨_,j⟩:=k af
      ·cases j
      ·obtain j|⟨_,bq,_,_,_,j|⟨bu,bo,bv,bp,bk,Q,bl⟩⟩:=j
       ·exact absurd ad.symm j
       ·rw[P] at j;exact absurd j.2 j.1
       ·rw[P,bk] at Q;injection Q with Q;injection Q with Q _;exact absurd (by rw[Q]) bl
     ·exact⟨x,ad,P,bi⟩
    obtain⟨x,ak,ao,hf⟩:=hs;rw[k r] at ak;injection ak with ak;subst ak;have aH:=i (show M.now=I.now/\M.fl=I.fl from⟨ao,hf⟩)
    have aE:=i (λ(e:ft wc)=>(show Calls T 74 #[b (E ⟨B,0,F⟩),b (E ⟨M.wb,0,F⟩)] e.W λm w'=>m=g (W true)/\G No e.W w' from by
     have O:=(k n).mod e.h (λ_ _ f=>f)
     obtain⟨⟨pt,q⟩,_⟩:=O.keep.some B am
     have aX:=O.may M (k r)
     exact BW (N:=N) ⟨pt,q.keep⟩ aX.aR aX.same (k H) (by rw[ao,hf];exact k H) true (.inl ⟨rfl,ao.symm,hf.symm⟩)))
    have aq:∀(e:ft wc),e.W.cell? ⟨a,1,F⟩=E (b (E ⟨B,0,F⟩)):=λe=>by
     have:=(e.h.has (k n).has (λf=>f)).cell 1;rw[this];show E (fj I.kb)=_;rw[am];rfl
    have a6:∀(e:ft wc),e.W.cell? ⟨a,3,F⟩=E (b (E ⟨M.wb,0,F⟩)):=λe=>by
     have:=(e.h.has (k n).has (λf=>f)).cell 3;rw[this];show E (fj (I.mb.map (·.wb)))=_;rw[k r];rfl
    have ar:∀(e:ft wc),a<e.W.heap.size:=λe=>(e.h.has (k n).has (λf=>f)).lt;clear ao hf;go_upto_region 7 with fail;go_cut [3] from 26 to 36 (λaA aC=>aA=W true/\Hid (G No wc aC))
    case first=>
     haveI:=rF wc
     refine nO (w0:=wc) (by kernel_rfl) (by kernel_rfl) (G.refl _ _) ?_
     repeat (go_big_quiet_step ((go_at_call 74;exact Calls.wd _ ((k aE) _))))
     refine wpQuiet_nil ?_;rintro w3 ⟨⟨_,aa⟩,rfl⟩;have w:=i aa;clear aa;go_wp2;go_meet;exact⟨rfl,w⟩
    case rest=>
     obtain⟨rfl,ag⟩:=hcut
     apply_assumption
     have s:=i ((k n).mod (k ag) (λ_ _ f=>f));have a7:=i (bF (k aO) (k ag).size);have aM:=i ((k aj).trans ((k ag).mono (λ_ _ f=>f.elim)));clear aE aq a6 ar n ag aj ab of d3;have a8:wc.cell? ⟨a,2,F⟩=E (b (E ⟨I.W.wb,0,F⟩)):=(k s).has.cell 2;have t:wc.cell? ⟨a,3,F⟩=E (b (E ⟨M.wb,0,F⟩)):=by
      rw[(k s).has.cell 3];show E (fj (I.mb.map (·.wb)))=_;rw[k r];rfl
     have ab:=(k s).has.lt;have of:=(k s).has.frozen;have ay:G (λd=>d=a) wc (wc.setCell ⟨a,2,F⟩ (b (E ⟨M.wb,0,F⟩))):=(G.refl _ wc).at 2 _;have aV:X (wc.setCell ⟨a,2,F⟩ (b (E ⟨M.wb,0,F⟩))) a (dA { I with sh:=false,tob:=c.heap.size,owt:=λd=>if d=c.heap.size then 1 else 0,vs:=λ_=>C F 0 0,ns:=λ_=>[],bs:=λ_=>false,W:=M }) 55:=(k s).has.set 2 (b (E ⟨M.wb,0,F⟩))
     have aY:iZ (wc.setCell ⟨a,2,F⟩ (b (E ⟨M.wb,0,F⟩))) M:=((k s).may M (k r)).mod ay (λd q (m:d=a)=>by
      obtain⟨bn,bm,_,_,_,_,a9,_⟩:=(k s).ex
      have:=a9 M (k r) d q
      rw[m] at this;omega)
     have aK:=i (Bj (I:={ I with sh:=false,tob:=c.heap.size,owt:=λd=>if d=c.heap.size then 1 else 0,vs:=λ_=>C F 0 0,ns:=λ_=>[],bs:=λ_=>false,W:=M }) aV aY (bB M.xs) rfl);have aL:=i ay;clear ay aV aY;go_wp2_with fail;refine(k aK).mono ?_;rintro m aB ⟨rfl,Y,aW⟩;have aR:=Y.set 3 (b F);have d3:aB.cell? ⟨a,3,F⟩=E (b (E ⟨M.wb,0,F⟩)):=by
      rw[Y.cell 3];show E (fj (I.mb.map (·.wb)))=_;rw[k r];rfl
     have bs:=Y.frozen;have bt:=Y.lt;obtain⟨a3,a1⟩:=Cf (I':={ I with sh:=false,tob:=c.heap.size,owt:=λd=>if d=c.heap.size then 1 else 0,vs:=λ_=>C F 0 0,ns:=λ_=>[],bs:=λ_=>false,W:=M,most:=max I.most (bB M.xs),mb:=F }) (k s) (k aN) (k a7) (((k aL).trans aW).trans ((G.refl (λd=>d=a) aB).at 3 (b F))) (k aM) (k aI) (k aF) aR ⟨rfl,rfl,rfl,rfl,rfl,rfl,rfl⟩ (.inr ⟨k r,rfl⟩) ⟨rfl,rfl,rfl,rfl,rfl⟩
     have R:=i (show qV c (aB.setCell ⟨a,3,F⟩ (b F)) L a I from⟨⟨_,a3,(k aH).1,(k aH).2,rfl,rfl,rfl,rfl,rfl,rfl,rfl,by show I.most<=max I.most (bB M.xs);omega,by show bB M.xs<=max I.most (bB M.xs);omega,Int.le_refl _,rfl,rfl,rfl⟩,a1⟩);clear Y aW aR a3 a1 aK H ae S J s aM af aL a8 t ab of;go_wp2;go_ret;exact⟨rfl,k R⟩
structure qW (w w':U) (O:Nat->Prop) (ob n:Nat) (I:z):Prop where
 ex:∃I',ai w' (grow O w w') ob I'/\bZ n I'/\(((∃b,I'.kb=E b)/\(I'.tl=λ_=>F)/\(I'.ns=λ_=>[])/\I'.bs=λ_=>false)\/(I'.kb=F/\0<=I.K.T.fuse))
 mod:G O w w'
theorem Mk{e w2 w3 n f:U} {w:Nat->Prop} {c ak j k B:Nat} {X:Bool} {I:z} {x:u} {S:Int} {D:Y} (o:ai e w c I) (aq:js ak I) (s:G No e w2) (am:e.heap.size<=j) (p:w3=w2.setCell ⟨c,0,F⟩ (b (E ⟨j,0,F⟩))) (ab:qN w3 n (λa=>if e.heap.size<=a/\a<w2.heap.size then 30 else 0) k j B X x S D) (q:f=n.setCell ⟨c,1,F⟩ (b (E ⟨k,0,F⟩))):
  ∃m,ai f (grow w e f) c { I with kb:=E k,okp:=m,om:=λ_=>0,now:=S,fl:=D,K:=⟨j,B,X,true,x⟩,tl:=λ_=>F }/\G (λa=>a=c) e f:=by
 obtain⟨⟨m,pt,N,P,ag⟩,ap,r⟩:=ab;have ao:=o.has.lt;have ar:=s.size;have au:w3.heap.size=w2.heap.size:=by rw[p];simp
 have av:=r.size;have aw:f.heap.size=n.heap.size:=by rw[q];simp
 have ah:G (λa=>a=c) e w3:=by
  rw[p];exact(s.mono (λ_ _ t=>t.elim)).at 0 _
 have aj:G (λa=>a=c) e n:=ah.trans' r (λa d hl=>by have:=kU a d;omega);have Q:G (λa=>a=c) n f:=by rw[q];exact(G.refl _ _).at 1 _
 have R:=aj.trans Q;have L:(if e.heap.size<=c/\c<w2.heap.size then 30 else 0)=0:=if_neg (by omega);have how:m c=0:=by rw[P c (by omega),L];rfl
 have H:=(s.has o.has (λt=>t)).set 0 (b (E ⟨j,0,F⟩));rw[<-p] at H;have ad:=r.has H (by rw[L];omega);have J:=ad.set 1 (b (E ⟨k,0,F⟩));rw[<-q] at J;have O:=N.mod Q (λa d (i:a=c)=>by rw[i] at d;exact d how);refine⟨m,o.tH R (λa _ i=>i) J (.inr ⟨⟨λaa hb=>?_,λae=>by cases ae⟩,λa d=>?_,λ_=>rfl⟩) (.inl ⟨rfl,.inl rfl⟩) (.inl ⟨rfl,rfl,rfl,rfl,rfl⟩),R⟩
 ·have hb:E k=E aa:=hb;injection hb with hb;subst hb;refine⟨⟨pt,O⟩,⟨λM hi _=>?_,λM hi es af=>(by cases af),λa d=>absurd rfl d⟩⟩;rw[O.keep.has.cell,rR _ _ M hi,ag _ (by omega) (by omega)]
 ·have hl:=N.keep.aU a d;refine⟨?_,by omega⟩;by_cases i:a<w3.heap.size
  ·have d:m a≠0:=d;rw[P a i] at d;by_cases A:e.heap.size<=a/\a<w2.heap.size
   ·exact A.1
   ·exact absurd (by rw[if_neg A];rfl) d
  ·omega
theorem bZ.found{S:U} {G:Nat->Prop} {Q p D:Nat} {I a I':z} {o w:Nat} {q:Bool} {e:u} {m:Int} {i:Y} {R:Nat->Nat} (n:js p I) (hF:bh (p:Int) m i) (O:a={ I with kb:=E D,okp:=R,om:=λ_=>0,now:=m,fl:=i,K:=⟨w,o,q,true,e⟩,tl:=λ_=>F }) (x:cP e o q m i (I.most+60* I.ch)) (P:e.room=I.K.T.room)
  (B:ai S G Q I') (H:I'.W.now=a.now/\I'.W.fl=a.fl/\I'.kb=a.kb/\I'.now=a.now/\I'.fl=a.fl/\I'.K=a.K/\I'.ch=a.ch/\I'.sh=false/\I'.mb=F/\a.most<=I'.most/\bB I'.W.xs<=I'.most/\(I'.most<=max a.most (bB I'.W.xs))):bZ p I':=by
 subst O;obtain⟨J,j,L,f,c,d,k,N,t,r,X,s⟩:=H;have f:I'.now=m:=f;have c:I'.fl=i:=c;have d:I'.K=⟨w,o,q,true,e⟩:=d;have k:I'.ch=I.ch:=k;have r:I.most<=I'.most:=r;have s:I'.most<=max I.most (bB I'.W.xs):=s;have ab:=vM B.aR.aR;have hs:=B.aR.same.weight;have aa:=n.b.most;have j:I'.W.fl=i:=j;rw[j] at hs
 refine⟨⟨⟨by rw[f];exact J,by rw[c];exact j⟩,by rw[f,c];exact hF,λM A=>(by rw[t] at A;cases A),by rw[c];omega,by rw[k];exact n.b.ch,by rw[d];show ¬e.room<200;rw[P];exact n.b.room,n.b.dU,by rw[d];exact x.hf⟩,λ_=>⟨⟨D,L⟩,N,t,?_⟩,λhl=>?_⟩
 ·rw[d,f,c,k];exact x.more (by omega)
 ·rw[d] at hl;cases hl
theorem qX{R:U} {w:Nat->Prop} {e x:Nat} {I:z} (ak:ai R w e I) (ay:js x I) (may:Bool) (aM:may=true\/I.K.T.fuse<0):Calls T 24 #[b (E ⟨e,0,F⟩),W may] R λd w'=>d=g (W true)/\qW R w' w e x I:=by
 have aE:=i (Mh ak ay);have H:=i ak;have f:=i ay;have a3:=i aM;clear ak ay aM;go_enter func24,ntmps24;go_wp2_with fail;refine(k aE).mono ?_;rintro d j ⟨rfl,aw⟩;have n:=i ((k H).mod aw (λ_ _ s=>s));have X:=i aw;have aA:=i (k n).copy;have a5:j.cell? ⟨e,0,F⟩=E (b (E ⟨I.K.tb,0,F⟩)):=(k n).has.cell 0;have bu:=(k n).has.lt;have of:=(k n).has.frozen;clear aw aE;go_wp2_with fail;refine(k aA).mono ?_
 rintro d m ⟨o,rfl,aq,aQ,ax⟩;have bo:=(k n).has.lt;have O:=ax.has (k n).has (λs=>s);have bs:=O.frozen;have bv:=O.lt;have d0:m.cell? ⟨e,0,F⟩=E (b (E ⟨I.K.tb,0,F⟩)):=O.cell 0;have aD:=i aq;have af:=i ax
 have aR:ae (m.setCell ⟨e,0,F⟩ (b (E ⟨o,0,F⟩))) (λa=>(if j.heap.size<=a/\a<m.heap.size then 30 else 0)=30) o I.K.T:=aQ.mod (S':=λa=>a=e) ((G.refl _ m).at 0 _) (λa c d=>by
  have:=kU a c
  have d:a=e:=d
  omega)
 have t:=(k f).b;obtain⟨Q,J,aT,aO⟩:=vY (N:=(x:Int)) aR (λa c=>by have:=(kU a c).2;simp;omega) (k f).tE t.ok (k f).mb t.room (by have:=t.most;have:=t.ch;have:=t.dU;omega) (by have:=t.ch;omega) (by have:=t.dU;omega);have ad:=i aO;have S:=i aT;have D:=i (O.set 0 (b (E ⟨o,0,F⟩)));have ag:(m.setCell ⟨e,0,F⟩ (b (E ⟨o,0,F⟩))).cell? ⟨e,0,F⟩=E (b (E ⟨o,0,F⟩)):=by
  rw[(k D).cell];rfl
 clear aO aT aQ aR O aq ax aA a5 bu of bo t;go_upto_region 3 with fail;obtain⟨w3,am⟩:∃w3,w3=m.setCell ⟨e,0,F⟩ (b (E ⟨o,0,F⟩)):=⟨_,rfl⟩;rw[<-am] at ad D ag ⊢;have ab:=i am;have aX:=(k D).lt;clear am bs bv d0;go_wp2_with fail;refine(k ad).mono ?_;clear ad;rintro d r (⟨aa,bm,bz,A,rfl,ap,L,N⟩|⟨rfl,aL,A,aH,aK,L,N,Y⟩)
 ·have ao:bh (x:Int) Q J:=by
   obtain⟨rfl,rfl⟩|d:=k S
   ·exact(k f).b.ok
   ·exact(k f).mb _ _ d
  obtain⟨bx,a0,P⟩:=Mk (k n) (k f) (k af) (k aD) (k ab) ap rfl;have aI:(I.W.now=Q/\I.W.fl=J)\/(∃M,I.mb=E M/\M.now=Q/\M.fl=J/\Diff Q J I.W.now I.W.fl):=by
   obtain⟨aY,aZ⟩:=(k f).b.same;obtain⟨rfl,rfl⟩|d:=k S
   ·exact .inl ⟨aY,aZ⟩
   ·cases av:I.mb with
    |none=>rw[av] at d;cases d
    |some M=>
     rw[av] at d;injection d with d;injection d with ah aj;subst ah;subst aj;obtain⟨_,bE,hc⟩:=(k f).b.may M av;exact .inr ⟨M,rfl,rfl,rfl,by rw[aY,aZ];exact Lo (k f).b.ok hc⟩
  have aU:bB I.W.xs<=I.most:=by
   rw[(k n).aR.same.weight,(k f).b.same.2];exact(k f).b.most.1
  have aC:=i (Mj (N:=(x:Int)) a0 rfl ao (by rw[(k f).b.same.1,(k f).b.same.2];exact(k f).b.ok) aU aI);have aN:(G (λa=>(if j.heap.size<=a/\a<m.heap.size then 30 else 0)=30) w3 r):=ap.mod;have q:=aN.has (k D) (λd=>by have:=kU e d;have:=(k n).has.lt;omega);have bt:=q.frozen;have bw:=q.lt;have d1:r.cell? ⟨e,1,F⟩=E (fj I.kb):=q.cell 1
  have u:=i (λ(p:U) (hf:qV (r.setCell ⟨e,1,F⟩ (b (E ⟨aa,0,F⟩))) p (grow w j (r.setCell ⟨e,1,F⟩ (b (E ⟨aa,0,F⟩)))) e { I with kb:=E aa,okp:=bx,om:=λ_=>0,now:=Q,fl:=J,K:=⟨o,bm,bz,true,A⟩,tl:=λ_=>F })=>(show qW R p w e x I from by
   obtain⟨⟨a4,a1,ah,aj,aF,bc,bd,bf,bi,bk,bl,a6,a7,a8,a9,ba,bb⟩,aW⟩:=hf
   have bC:=(k X).size
   have bM:=P.size
   have a2:=aW.size
   have au:=(k H).lt
   refine⟨⟨a4,a1.iI (λa c=>?_) (λa c=>?_),bZ.found (k f) ao rfl L N a1 ⟨ah,aj,aF,bc,bd,bf,bi,bk,bl,a6,a7,a8⟩,.inl ⟨⟨aa,aF⟩,a9,ba,bb⟩⟩,?_⟩
   ·obtain(c|c)|c:=c
    ·exact .inl c
    ·exact .inr ⟨by omega,by omega⟩
    ·exact .inr ⟨by omega,c.2⟩
   ·obtain c|c:=c
    ·have:=au a c;omega
    ·exact c.2
   ·refine(((k X).mono (λ_ _ s=>s.elim)).trans (P.mono (S':=w) (λa _ (d:a=e)=>by rw[d];exact(k H).qS))).trans' aW (λa c hl=>?_)
    obtain c|c:=c
    ·exact c
    ·omega))
  clear aI aU a0 P ap L N ao aN q S ag aX;go_wp2_with fail;refine(k aC).mono ?_;rintro d p ⟨rfl,hf⟩;have u:=i ((k u) p hf);clear hf aC;go_wp2;go_ret;exact⟨rfl,k u⟩
 ·obtain rfl:may=true:=by
   obtain d|d:=k a3
   ·exact d
   ·omega
  have q:=Y.has (k D) (λd=>by have:=kU e d;have:=(k n).has.lt;omega);have bt:=q.frozen;have bw:=q.lt;have d1:r.cell? ⟨e,1,F⟩=E (fj I.kb):=q.cell 1;have ar:=q.set 1 (b F)
  have aS:ae (r.setCell ⟨e,1,F⟩ (b F)) (λa=>(if j.heap.size<=a/\a<m.heap.size then 30 else 0)=30) o A:=aH.mod (S':=λa=>a=e) ((G.refl _ r).at 1 _) (λa c d=>by
   have:=kU a c
   have d:a=e:=d
   have:=(k n).has.lt
   omega)
  have aB:=i (tB (tb:=o) ar (by rfl) aS aK)
  have u:=i (λ(p:U) (t6:ae p (λa=>(if j.heap.size<=a/\a<m.heap.size then 30 else 0)=30) o A) (B:G (· =o) (r.setCell ⟨e,1,F⟩ (b F)) p)=>(show qW R p w e x I from by
   have bC:=(k X).size
   have bL:=(k af).size
   have bG:=(k n).has.lt
   have aq:=k aD
   have bH:w3.heap.size=m.heap.size:=by rw[k ab];simp
   have bJ:=Y.size
   have bp:G (λa=>a=e) j w3:=by
    rw[k ab]
    exact((k af).mono (λ_ _ s=>s.elim)).at 0 _
   have bq:G (λa=>a=e) j r:=bp.trans' Y (λa c hl=>by have:=kU a c;omega)
   have P:G (λa=>a=e) j (r.setCell ⟨e,1,F⟩ (b F)):=bq.at 1 _
   have aV:G (λa=>a=e) j p:=P.trans' B (λa (c:a=o) hl=>by omega)
   have bn:=B.has ar (by omega)
   have a2:=B.size
   simp only[kx] at a2
   have bA:=(k n).tH (I':={ I with kb:=F,okp:=λa=>if j.heap.size<=a/\a<m.heap.size then 30 else 0,om:=λ_=>0,K:=⟨o,I.K.file,I.K.torn,false,A⟩,tl:=λ_=>F }) aV (λa _ d=>d) bn (.inr ⟨⟨λbD hb=>(by cases hb),λ_=>⟨t6,λa c=>?_⟩⟩,λa c=>?_,λ_=>rfl⟩) (.inl ⟨rfl,.inl rfl⟩) (.inl ⟨rfl,rfl,rfl,rfl,rfl⟩)
   rotate_left
   ·have c:(if j.heap.size<=a/\a<m.heap.size then 30 else 0)≠0:=c
    by_cases d:j.heap.size<=a/\a<m.heap.size
    ·omega
    ·rw[if_neg d] at c;exact absurd rfl c
   ·have c:(if j.heap.size<=a/\a<m.heap.size then 30 else 0)≠0:=c
    by_cases d:j.heap.size<=a/\a<m.heap.size
    ·omega
    ·rw[if_neg d] at c;exact absurd rfl c
   have au:=(k H).lt
   refine⟨⟨_,bA.iI (λa c=>?_) (λa c=>?_),⟨⟨(k f).b.same,(k f).b.ok,(k f).b.may,(k f).b.most,(k f).b.ch,by show ¬A.room<200;rw[N];exact(k f).b.room,(k f).b.dU,(k f).b.file⟩,λhl=>(by cases hl),λ_=>⟨L,.inl rfl⟩⟩,.inr ⟨rfl,aL⟩⟩,?_⟩
   ·obtain c|c:=c
    ·exact .inl c
    ·exact .inr ⟨by omega,c.2⟩
   ·obtain c|c:=c
    ·have:=au a c;omega
    ·exact c.2
   ·exact((k X).mono (λ_ _ s=>s.elim)).trans (aV.mono (S':=w) (λa _ (d:a=e)=>by rw[d];exact(k H).qS))))
  clear q ar aS aH L N aK aL Y S ag aX;go_wp2_with fail;refine(k aB).mono ?_;rintro d p ⟨rfl,t6,B⟩;have u:=i ((k u) p t6 B);clear t6 B aB;go_wp2;go_ret;exact⟨rfl,k u⟩
def kV(I:z) (a:List Int) (sp:Int):z:={ I with K:={ I.K with T:=iA I.K.T a sp } }
def oL(I:z) (a:Int):z:={ I with K:={ I.K with T:=qJ I.K.T a } }
theorem js.kR{e:Nat} {I:z} (a:js e I) (f:∀c,c<4->I.K.T.last c<=(I.K.T.b c).length) (d:List Int) (sp:Int):js e (kV I d sp):=
 ⟨⟨a.b.same,a.b.ok,a.b.may,a.b.most,a.b.ch,a.b.room,a.b.dU,a.b.file⟩,a.tE.kR a.b.ok f d sp⟩
theorem js.fuse{d:Nat} {I:z} (a:js d I) (c:Int):js d (oL I c):=
 ⟨⟨a.b.same,a.b.ok,a.b.may,a.b.most,a.b.ch,a.b.room,a.b.dU,a.b.file⟩,a.tE.fuse c⟩
theorem bZ.fuse{f:Nat} {I:z} (a:bZ f I) (e:Int):bZ f (oL I e):=
 ⟨⟨a.b.same,a.b.ok,a.b.may,a.b.most,a.b.ch,a.b.room,a.b.dU,a.b.file⟩,λhl=>by
  obtain⟨c,d,i,j⟩:=a.live hl
  exact⟨c,d,i,j.fuse e⟩,λhl=>by
  obtain⟨c,d⟩:=a.dead hl
  exact⟨c.fuse e,d⟩⟩
theorem ai.kR{i:U} {j:Nat->Prop} {n:Nat} {I:z} (k:ai i j n I) (a:List Int) (f:Nat) (e:Option Addr) (sp:Int) (s:a.length<=9223372036854775807) (t:Reads i (C e a.length f) a.length (a.map (y K))) (r:0<a.length->∀c,(C e a.length f).ownBlock=E c->¬j c):Calls T 23 #[b (E ⟨I.K.tb,0,F⟩),C e a.length f,.int .u8 sp] i λd w'=>d=g (h #[])/\ai w' j n (kV I a sp)/\G (λc=>I.okp c=30) i w':=by
 refine(Im k.ij a f e sp s t (λo c q d=>r o c q (k.kT c (by have d:I.okp c=30:=d;omega)))).mono ?_;rintro d w' ⟨rfl,p,m⟩;exact⟨rfl,k.pJ p m,m⟩
theorem ai.fuse{e:U} {i:Nat->Prop} {k:Nat} {I:z} (f:ai e i k I) (c:Int) (p: -9223372036854775808<=c/\c<=9223372036854775807):Calls T 19 #[b (E ⟨I.K.tb,0,F⟩),y K c] e λd w'=>d=g (h #[])/\ai w' i k (oL I c)/\G (λa=>I.okp a=30) e w':=by
 have o:I.okp I.K.tb=30:=f.ij.cd;refine(vq f.ij c p).mono ?_;rintro d w' ⟨rfl,m,n⟩;have j:G (λa=>I.okp a=30) e w':=n.mono (λa _ (d:a=I.K.tb)=>by rw[d];exact o);exact⟨rfl,f.pJ m j,j⟩
def Ml(I I':z):Prop:=(I'.kb=I.kb/\I'.tl=I.tl/\I'.ns=I.ns/\I'.bs=I.bs)\/((I'.tl=λ_=>F)/\(I'.ns=λ_=>[])/\I'.bs=λ_=>false)\/I'.kb=F
structure tL (w w':U) (O:Nat->Prop) (ob n:Nat) (I:z):Prop where
 ex:∃I',ai w' (grow O w w') ob I'/\bZ n I'/\Ml I I'
 mod:G O w w'
theorem qW.wm{f w2 w':U} {e:Nat->Prop} {m k:Nat} {I o:z} (p:qW w2 w' e m k o) (i:G e f w2) (hl:∀d,e d->d<f.heap.size):tL f w' e m k I:=by
 obtain⟨⟨n,r,q,c⟩,j⟩:=p;have s:=i.size;have t:=j.size;refine⟨⟨n,r.iI (λd a=>?_) (λd a=>?_),q,?_⟩,i.trans j⟩
 ·obtain a|a:=a
  ·exact .inl a
  ·exact .inr ⟨by omega,a.2⟩
 ·obtain a|a:=a
  ·have:=hl d a;omega
  ·exact a.2
 ·obtain c|c:=c
  ·exact .inr (.inl c.2)
  ·exact .inr (.inr c.1)
theorem Mm{d:U} {e:Nat->Prop} {o ax:Nat} {I:z} {S:Array V} {a m aF sp:Int} {j:List Int} {Y:Option Addr} {aa:Nat} (M:ai d e o I) (O:bZ ax I) (hS:lZ S a m aF) (hb: -9223372036854775808<=m/\m<=9223372036854775807) (c:a=10\/a=11\/a=12\/a=13) (aS:S[23]? =E (C Y j.length aa)) (aT:S[24]? =E (.int .u8 sp))
  (aW:j.length<=9223372036854775807) (aX:Reads d (C Y j.length aa) j.length (j.map (y K))) (aV:0<j.length->∀a,(C Y j.length aa).ownBlock=E a->¬e a):Calls T 14 #[b (E ⟨o,0,F⟩),l S] d λn w'=>n=g (W true)/\tL d w' e o ax I:=by
 have aI:=M.lt;have aU:=λao (hi:ao<4)=>(M.ij.last ao hi).1;have aZ:∀f,G No d f->Reads f (C Y j.length aa) j.length (j.map (y K)):=λf u=>by
  obtain c|⟨bd,aF,n,c⟩:=aX
  ·exact .inl c
  ·exact .inr ⟨bd,aF,n,λbi bm hu=>fF u (c bi bm hu)⟩
 have J:=i λf (u:G No d f)=>M.mod u (λ_ _ A=>A);have ab:=i λf (u:G No d f)=>((k J) f u).kR j aa Y sp aW (aZ f u) aV;have D:=i (show ∀a,I.okp a=30->e a from λa c=>M.kT a (by omega));have P:=X.new d S 45;have ag:=i P;have aM:=i hS.eS;have aB:G No d (d.alloc (v S 45)):=(G.refl No d).alloc _;have b0:=(P.cell 0).trans hS.eJ;have af:=(P.cell 2).trans hS.eS;have au:=(P.cell 23).trans aS
 have av:=(P.cell 24).trans aT;have aR:=P.lt;have aK:=(k J) _ aB;have L:(d.alloc (v S 45)).cell? ⟨o,0,F⟩=E (b (E ⟨I.K.tb,0,F⟩)):=aK.has.cell 0;have a4:=aK.has.lt;have ak:=i aI;have H:=i O;have ad:=i aU;have B:=i aB;have ba:=i (show I.okp d.heap.size≠30 from λn=>by have:=aI _ (M.kT d.heap.size (by omega));omega);clear M O hS aS aT aW aX aV aI aU aZ P aK aB;obtain rfl|rfl|rfl|rfl:=c
 ·have aj:=i λf (u:G No d f)=>((k J) f u).fuse m hb;clear ab au av;go_enter func14,ntmps14;go_upto_region 3 with fail;generalize am:d.alloc (v S 45)=a6 at *;clear am;go_cut [] (λr=>Hid (ai r e o (oL I m)/\G e d r))
  case first=>
   go_region_law (refine eZ rfl 19 _ _ rfl #[b (E ⟨I.K.tb,0,F⟩),y K m] (by simp[Z,aP]) (λf=>by kernel_rfl) (h #[]) _ ((k aj) _ (k B).drew) ?_;intro q p;have Q:=i (show ai q e o (oL I m)/\G e d q from⟨p.1,((k B).drew.mono (λ_ _ A=>A.elim)).trans (p.2.mono (λa _ n=>(k D) a n))⟩);clear p)
   all_goals go_wp2
   all_goals go_meet
   all_goals exact Q
  case rest=>
   obtain⟨t,x⟩:=k hcut
   apply_assumption
   have w:=i (show tL d wc e o ax I from⟨⟨_,t.iI (λa c=>.inl c) (λa c=>by
    obtain c|c:=c
    ·have:=(k ak) a c;have:=x.size;omega
    ·exact c.2),(k H).fuse m,.inl ⟨rfl,rfl,rfl,rfl⟩⟩,x⟩)
   clear t x hcut aj J D L b0 af H ad ag;go_wp2;go_ret;exact⟨rfl,k w⟩
 ·go_enter func14,ntmps14;go_upto_region 6 with fail;generalize am:d.alloc (v S 45)=a6 at *;clear am;go_cut [] (λr=>Hid (ai r e o (kV I j sp)/\G e d r))
  case first=>
   go_region_law (refine eZ rfl 23 _ _ rfl #[b (E ⟨I.K.tb,0,F⟩),C Y j.length aa,.int .u8 sp] (by simp[Z,aP]) (λf=>by kernel_rfl) (h #[]) _ ((k ab) _ (k B).drew) ?_;intro q p;have Q:=i (show ai q e o (kV I j sp)/\G e d q from⟨p.1,((k B).drew.mono (λ_ _ A=>A.elim)).trans (p.2.mono (λa _ n=>(k D) a n))⟩);clear p)
   all_goals go_wp2
   all_goals go_meet
   all_goals exact Q
  case rest=>
   obtain⟨t,x⟩:=k hcut
   apply_assumption
   have s:=i (qX t ((k H).qR.kR (k ad) j sp) false (.inr (by show(-1:Int)<0;decide)));have aq:=i x;clear t x hcut ab J D L b0 af au av H ad ag;go_wp2_with fail;refine(k s).mono ?_;rintro n bn ⟨rfl,N⟩;have w:=i (N.wm (I:=I) (k aq) (k ak));clear N s;go_wp2;go_ret;exact⟨rfl,k w⟩
 ·have s:=i (qX ((k J) _ (k B)) (k H).qR true (.inl rfl));clear ab J D L af au av H ad ag;go_enter func14,ntmps14;go_wp2_with fail;refine(k s).mono ?_;rintro n bn ⟨rfl,N⟩;have w:=i (N.wm (I:=I) ((k B).mono (λ_ _ A=>A.elim)) (k ak));clear N s;go_wp2;go_ret;exact⟨rfl,k w⟩
 ·have aQ:=i λf=>AW m 12 hb (by omega) f;have bs:=wo m 12 (by omega);go_enter func14,ntmps14;go_upto_region 10 with fail;generalize am:d.alloc (v S 45)=a6 at *;clear am;go_cut [] (λr=>Hid (ai r e o (kV I j sp)/\G e d r/\X r d.heap.size S 45))
  case first=>
   go_region_law (refine eZ rfl 23 _ _ rfl #[b (E ⟨I.K.tb,0,F⟩),C Y j.length aa,.int .u8 sp] (by simp[Z,aP]) (λf=>by kernel_rfl) (h #[]) _ ((k ab) _ (k B).drew) ?_;intro q p;have Q:=i (show ai q e o (kV I j sp)/\G e d q/\X q d.heap.size S 45 from⟨p.1,((k B).drew.mono (λ_ _ A=>A.elim)).trans (p.2.mono (λa _ n=>(k D) a n)),p.2.has (k ag).drew (k ba)⟩);clear p)
   all_goals go_wp2
   all_goals go_meet
   all_goals exact Q
  case rest=>
   obtain⟨t,x,aw⟩:=k hcut
   apply_assumption
   have bc:=i t;have aq:=i x;have a9:=i aw;have aj:=i λf (u:G No wc f)=>(t.mod u (λ_ _ bq=>bq)).fuse (iM m 12) (by omega);clear L b0 af au av aR a4;have L:wc.cell? ⟨o,0,F⟩=E (b (E ⟨I.K.tb,0,F⟩)):=t.has.cell 0;have a4:=t.has.lt;have af:wc.cell? ⟨d.heap.size,2,F⟩=E (y K m):=(aw.cell 2).trans (k aM);have aR:=aw.lt;clear t x aw hcut;go_upto_region 11 with fail
   go_cut [] (λr=>Hid (ai r e o (oL (kV I j sp) (iM m 12))/\G e d r))
   case first=>
    go_region_law (first
     |(refine eZ rfl 13 _ _ rfl #[y K m,y K 12] (by simp[Z,aP]) (λf=>by kernel_rfl) (y K (iM m 12)) _ ((k aQ) _) ?_;intro q bh;subst bh)
     |(refine eZ rfl 19 _ _ rfl #[b (E ⟨I.K.tb,0,F⟩),y K (iM m 12)] (by simp[Z,aP]) (λf=>by kernel_rfl) (h #[]) _ ((k aj) _ (G.refl No wc).drew) ?_;intro q p;have Q:=i (show ai q e o (oL (kV I j sp) (iM m 12))/\G e d q from⟨p.1,(k aq).drew.trans (p.2.mono (λa _ n=>(k D) a n))⟩);clear p))
    all_goals go_wp2
    all_goals go_meet
    all_goals exact Q
   case rest=>
    obtain⟨a7,a0⟩:=k hcut
    apply_assumption
    have s:=i (qX a7 (((k H).qR.kR (k ad) j sp).fuse (iM m 12)) true (.inl rfl));have aC:=i a0;clear a7 a0 hcut aj ab J D L af H ad ag bc aq a9 aQ aM;go_wp2_with fail;refine(k s).mono ?_;rintro n aL ⟨rfl,N⟩;have aA:=i N;obtain⟨⟨ap,ay,a5,f7⟩,a2⟩:=N;have ae:=i ay;have aE:=i a5;have ar:=i a2;have R:aL.cell? ⟨o,1,F⟩=E (fj ap.kb):=ay.has.cell 1;have bk:=ay.has.lt;clear ay a5 f7 a2 s
    cases aH:ap.kb with
    |some bt=>
     rw[aH] at R;unfold fj at R;simp only[Option.map_some] at R;have w:=i ((k aA).wm (I:=I) (k aC) (k ak));clear aA ae aE ar;go_wp2;go_ret;exact⟨rfl,k w⟩
    |none=>
     rw[aH] at R;unfold fj at R;simp only[Option.map_none] at R;have L:aL.cell? ⟨o,0,F⟩=E (b (E ⟨ap.K.tb,0,F⟩)):=(k ae).has.cell 0;have ah:=(k ae).kR [] 0 F 0 (by simp) (.inl ⟨rfl,rfl⟩) (λM=>by simp at M);simp only[im] at ah;have ah:=i ah;have aO:=i λao (hi:ao<4)=>((k ae).ij.last ao hi).1;have aN:=i (show ∀a,ap.okp a=30->grow e wc aL a from λa c=>(k ae).kT a (by omega));clear aA aH
     go_wp2_with fail;refine(k ah).mono ?_;rintro n bu ⟨rfl,a8,a1⟩;have s:=i (qX a8 ((k aE).qR.kR (k aO) [] 0) false (.inr (by show(-1:Int)<0;decide)));have aD:=i a1;clear a8 a1 ah L R bk aO;go_wp2_with fail;refine(k s).mono ?_;rintro n bo ⟨rfl,aY⟩
     have w:=i (show tL d bo e o ax I from by
      obtain⟨⟨bb,bp,bl,f9⟩,a3⟩:=aY
      have bv:=(k aC).size
      have bw:=(k ar).size
      have bx:=(k aD).size
      have bz:=a3.size
      have hl:=k ak
      refine⟨⟨bb,bp.iI (λa c=>?_) (λa c=>?_),bl,?_⟩,(((k aC).trans (k ar)).trans' (k aD) (λa c bf=>?_)).trans' a3 (λa c bf=>?_)⟩
      ·obtain(c|c)|c:=c
       ·exact .inl c
       ·exact .inr ⟨by omega,by omega⟩
       ·exact .inr ⟨by omega,c.2⟩
      ·obtain c|c:=c
       ·have:=hl a c;omega
       ·exact c.2
      ·obtain f9|f9:=f9
       ·exact .inr (.inl f9.2)
       ·exact .inr (.inr f9.1)
      ·obtain O|O:=(k aN) a c
       ·exact O
       ·omega
      ·obtain O|O:=c
       ·exact O
       ·omega)
     clear aY s ae aE ar aD aN;go_wp2;go_ret;exact⟨rfl,k w⟩
end Go.Proofs.YthhibagcpjeihaaGreat
