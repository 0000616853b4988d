import Derived.Test.YthhibagcpjeihaaGreatMRef10ToOpArgs
import Derived.Test.YthhibagcpjeihaaGreatMChangeToPass2
import Derived.Test.YthhibagcpjeihaaGreatMKeep3ToKeep8
import Derived.Deep.DeepCutAuto
import Derived.Test.YthhibagcpjeihaaGreatMSto1ToRp3
import Derived.Test.YthhibagcpjeihaaGreatMCellsToEnc
import Derived.Handy
open Go.Proofs.Tryz
open Go.Value renaming int->y,pointer->b,slice->C,bool->W,agg->l,tuple->h
open Go.IntKind renaming i64->K,wrap_i64->jB
open Option renaming none->F,some->E
open Go renaming World->U,Value->V
open Go.Proofs.Tryz renaming prog->T
open Go.Ending renaming returned->g
open Go.Obj renaming cells->v
open Nat renaming lt_of_lt_of_le->aG,zero_add->bg,le_trans->bF,not_lt_zero->dZ
open List renaming getElem?_eq_getElem->cK,length_take->dj,getElem_mem->dD,take_length->eA,length_set->iU,getElem_set_self->lH,set_getElem_self->lI,countP_le_length->mg,take_add_one->lq,getElem_append_right->qI,countP_append->nL
open Go.World renaming size_alloc->bj
open Bool renaming false_eq_true->kg
namespace Go.Proofs.YthhibagcpjeihaaGreat
open Go.RowKit
open M
set_option linter.unusedVariables false
set_option linter.unusedSimpArgs false
set_option maxRecDepth 100000
set_option maxHeartbeats 8000000
def eD{a:Type} (e:a->a) (c:Nat) (d:List a):List a:=(d.take c).map e++d.drop c
theorem sK{a:Type} (d:a->a) (c:List a):eD d 0 c=c:=by simp[eD]
theorem zw{c:Type} (d:c->c) (a:List c):eD d a.length a=a.map d:=by simp[eD]
theorem px{a:Type} (d:a->a) (e:Nat) (c:List a):(eD d e c).length=c.length:=by simp[eD];omega
theorem sL{d:Type} (f:d->d) (a:Nat) (c:List d) (e:a<c.length):(eD f a c)[a]'(by rw[px];exact e)=c[a]:=by
 unfold eD;rw[qI (by simp;omega)];simp[Nat.min_eq_left (Nat.le_of_lt e)]
theorem vc{a:Type} (c:a->a) (d:Nat) (f:a) (e:List a):eD c (d+1) (f::e)=c f::eD c d e:=by simp[eD]
theorem vd{f:Type} (e:f->f):∀(a:Nat) (c:List f) (d:a<c.length),eD e (a+1) c=(eD e a c).set a (e c[a])
 |_,[],d=>absurd d (dZ _)
 |0,i::c,d=>by rw[vc,sK,sK];rfl
 |a+1,i::c,d=>by rw[vc,vd e a c (by simpa using d),vc];rfl
def jN{a:Type} (c:a->Bool) (d:Nat) (e:List a):Bool:=(e.take d).any c
theorem ve{c:Type} (a:c->Bool) (d:Nat) (f:c) (e:List c):jN a (d+1) (f::e)=(a f||jN a d e):=by simp[jN]
theorem zx{f:Type} (e:f->Bool):∀(c:Nat) (a:List f) (d:c<a.length),jN e (c+1) a=(jN e c a||e a[c])
 |_,[],d=>absurd d (dZ _)
 |0,i::a,d=>by rw[ve];simp[jN]
 |c+1,i::a,d=>by rw[ve,zx e c a (by simpa using d),ve,Bool.or_assoc];rfl
theorem Hr{d:Type} (c:d->Bool) (a:List d):jN c a.length a=a.any c:=by simp[jN]
def ot(c:Int) (a:B):B:=if due c a then a.aS else a
def fW(c:Int) (a:e):e:=⟨⟨a.f.num,a.f.p,dd c a.f.S,if a.f.S.any (due c) then K.wrap (a.f.ep+1) else a.f.ep⟩,a.g,a.cap⟩
theorem Hs(e:Nat) (a:Int) (c:U) (f:¬(1<=a/\a<=100)):Calls T 51 #[b (E ⟨e,0,F⟩),y K a] c λd w'=>d=g (y K 8)/\w'=c:=by
 by_cases i:a<1
 ·go_enter func51,ntmps51;go_wp2;go_ret;exact⟨rfl,rfl⟩
 ·have j:a>100:=by omega
  go_enter func51,ntmps51;go_wp2;go_ret;exact⟨rfl,rfl⟩
theorem Ht(d:Nat) (a now:Int) (c:U) (m:1<=a/\a<=100) (n:0<=now/\now<=4611686018427387000) (e:X c d #[C F 0 0,y K now] 72):Calls T 51 #[b (E ⟨d,0,F⟩),y K a] c λf w'=>f=g (y K 0)/\w'=c.setCell ⟨d,1,F⟩ (y K (now+a)):=by
 have hc:=e.cell;have hf:=e.frozen;have j:¬a<1:=by omega
 have k:¬a>100:=by omega
 have o:K.wrap (now+a)=now+a:=ey _ (by omega) (by omega);clear e;go_enter func51,ntmps51;go_wp2_with fail;go_loopw [5] (λi wr=>i=y K 0/\wr=c.setCell ⟨d,1,F⟩ (y K (now+a))) (λ_ _=>0)
 case atStart=>exact⟨rfl,rfl⟩
 case round=>
  obtain⟨rfl,rfl⟩:=hrel;go_wp2;go_ret;exact⟨rfl,rfl⟩
theorem aF.parts{f:U} {d:Nat->Nat} {n gf cap:Nat} {xs ys:List e} {now:Int} (j:aF f d n (C (E ⟨gf,0,F⟩) xs.length cap) ys now) (hl:ys.length=xs.length) (r:0<xs.length):d gf=2/\dn f gf cap ys:=by
 obtain⟨rfl,c⟩|⟨q,o,k,c,m⟩:=j.jk
 ·simp at hl;omega
 ·injection k with a p i;injection a with a;injection a with a;subst a i;exact⟨m,c⟩
theorem Hu{q w3:U} {j:Nat->Nat} {k gf cap:Nat} {xs:List e} {c:Int} {a:Nat} (hi:a<xs.length) (n:aF q j k (C (E ⟨gf,0,F⟩) xs.length cap) (eD (fW c) a xs) c) (s:aE w3 xs[a].g xs[a].cap (dd c xs[a].f.S)) (r:G (λu=>u=xs[a].g) q w3):(xs[a].f.S.any (due c)=false->aF w3 j k (C (E ⟨gf,0,F⟩) xs.length cap) (eD (fW c) (a+1) xs) c)/\
  (xs[a].f.S.any (due c)=true->aF (w3.setCell ⟨gf,a* 10+9,F⟩ (y K (K.wrap (xs[a].f.ep+1)))) j k (C (E ⟨gf,0,F⟩) xs.length cap) (eD (fW c) (a+1) xs) c):=by
 have p:a<(eD (fW c) a xs).length:=by rw[px];exact hi
 have d:=sL (fW c) a xs hi;have hs:=vd (fW c) a xs hi;have t:L xs[a].f.p xs[a].f.S:=by have:=(n.S a p).2.2;rwa [d] at this
 have f:=n.zn (w':=w3) a p (dd c xs[a].f.S) (by rw[d];simp[dd]) (by rw[d];exact uL t c) (by rw[d];exact s) (by rw[d];exact r);simp only[d] at f;refine⟨λhd=>?_,λhd=>?_⟩
 ·rw[hs];unfold fW;simp only[hd];exact f
 ·have o:(List.set (eD (fW c) a xs) a ⟨⟨xs[a].f.num,xs[a].f.p,dd c xs[a].f.S,xs[a].f.ep⟩,xs[a].g,xs[a].cap⟩).length=xs.length:=by rw[iU,px]
  have m:(C (E ⟨gf,0,F⟩) xs.length cap)=C (E ⟨gf,0,F⟩) (List.set (eD (fW c) a xs) a ⟨⟨xs[a].f.num,xs[a].f.p,dd c xs[a].f.S,xs[a].f.ep⟩,xs[a].g,xs[a].cap⟩).length cap:=by rw[o]
  rw[m] at f;have i:=f.uX a (by rw[o];exact hi) (K.wrap (xs[a].f.ep+1));rw[<-m] at i;simp only[lH,List.set_set] at i;rw[hs];unfold fW;simp only[hd,if_true];exact i
theorem Hv(s gf cap:Nat) (xs:List e) (p:Nat->Nat) (d now:Int) (w:U) (bu:1<=d/\d<=100) (bv:0<=now/\now<=4611686018427387000) (A:aF w p s (C (E ⟨gf,0,F⟩) xs.length cap) xs now) (aL:0<xs.length):Calls T 51 #[b (E ⟨s,0,F⟩),y K d] w λo w'=>o=g (y K 0)/\aF w' p s (C (E ⟨gf,0,F⟩) xs.length cap) (xs.map (fW (now+d))) (now+d)/\G (λa=>p a≠0) w w':=by
 have hc:=A.has.cell;have hf:=A.has.frozen;have bn:¬d<1:=by omega
 have bo:¬d>100:=by omega
 have bw:K.wrap (now+d)=now+d:=ey _ (by omega) (by omega);have au:=i (A.zo (now+d));have av:=i (show G (λa=>p a≠0) w (w.setCell ⟨s,1,F⟩ (y K (now+d))) from(G.refl _ w).setCell (p:=⟨s,1,F⟩) (.inl (by show p s≠0;rw[A.aW];omega)) _);have bh:=A.dU;have aA:=i A.aW;have aC:=i aL;clear A aL;go_enter func51,ntmps51;go_wp2_with fail
 go_loopw [5] (λak wr=>∃f:Nat,ak=y K f/\f<=xs.length/\Hid (aF wr p s (C (E ⟨gf,0,F⟩) xs.length cap) (eD (fW (now+d)) f xs) (now+d))/\Hid (G (λa=>p a≠0) w wr)) (λak _=>xs.length - (intOf ak).toNat)
 case atStart=>exact⟨0,rfl,by omega,by rw[sK];exact au,av⟩
 case round=>
  obtain⟨f,rfl,hi,x,aw⟩:=hrel;clear au av hc hf;have a0:=(k x).has.cell;by_cases R:f<xs.length
  ·have a2:(f:Int)<(xs.length:Int):=by omega
   have bl:(0:Int)<=f:=by omega
   have bp:K.wrap ((f:Int)+1)=((f+1:Nat):Int):=by rw[aB _ (by omega) (by omega)];rfl
   have af:f<(eD (fW (now+d)) f xs).length:=by rw[px];exact R
   obtain⟨ag,X⟩:=(k x).parts (by rw[px]) (k aC);obtain⟨ah,os,wf⟩:=(k x).S f af;rw[sL _ _ _ R] at ah os wf;have sl:=X.cell f af 8 (by omega);have H:=X.cell f af 9 (by omega);rw[sL _ _ _ R] at sl H;have sl:wr.cell? ⟨gf,f* 10+8,F⟩=E (C (E ⟨xs[f].g,0,F⟩) xs[f].f.S.length xs[f].cap):=sl;have H:wr.cell? ⟨gf,f* 10+9,F⟩=E (y K xs[f].f.ep):=H;have aM:wr.cell? ⟨s,1,F⟩=E (y K (now+d)):=(k x).has.cell 1
   have P:¬gf=xs[f].g:=λo=>by rw[o,os] at ag;omega
   have ap:¬s=xs[f].g:=λo=>by have:=k aA;rw[o,os] at this;omega
   have aI:=i λr (t:G (λa=>a=xs[f].g) wr r)=>eo t sl P;have ar:=i λr (t:G (λa=>a=xs[f].g) wr r)=>eo t H P;have aQ:=i λr (t:G (λa=>a=xs[f].g) wr r)=>eo t aM ap;have aU:=i λr (t:G (λa=>a=xs[f].g) wr r)=>(show r.cell? ⟨s,0,F⟩=E (C (E ⟨gf,0,F⟩) xs.length cap) from eo t ((k x).has.cell 0) ap);have aO:=i λr (t:G (λa=>a=xs[f].g) wr r)=>(X.mod t P);have aH:=i ah;have bc:=i wf
   have bt:xs[f].f.S.length<=120:=gF wf;have ST:=i λ(w3:U)=>Hu (w3:=w3) R (k x);have aR:=i ag;have aS:=i os;clear ah os wf H aM P ap X ag;have Q:∃I,xs[f].f.ep=I:=⟨_,rfl⟩;obtain⟨I,Q⟩:=Q;rw[Q] at ar ST;generalize xs[f].f.S=c at *;generalize xs[f].g=j at *;generalize xs[f].cap=N at *;clear Q;generalize wr=aN at *;go_wp2_with fail
   go_loopw [7,8] (λa8 am Y=>∃a:Nat,am=y K a/\a8=W (jN (due (now+d)) a c)/\a<=c.length/\Hid (aE Y j N (eD (ot (now+d)) a c))/\Hid (G (λa=>a=j) aN Y)) (λ_ am _=>c.length - (intOf am).toNat)
   case atStart=>exact⟨0,rfl,rfl,by omega,by rw[sK];exact aH,G.refl _ _⟩
   case round=>
    obtain⟨a,rfl,rfl,bq,q,m⟩:=hrel;have ba:=(k aI) _ (k m);have a4:=(k aQ) _ (k m);have bb:=(k aU) _ (k m);clear a0 sl aH;by_cases S:a<c.length
    ·have a3:(a:Int)<(c.length:Int):=by omega
     have bm:(0:Int)<=a:=by omega
     have bs:K.wrap ((a:Int)+1)=((a+1:Nat):Int):=by rw[aB _ (by omega) (by omega)];rfl
     have u:a<(eD (ot (now+d)) a c).length:=by rw[px];exact S
     have aK:=sL (ot (now+d)) a c S;have D:=i aK;have M:=i (vd (ot (now+d)) a c S);have AS:=i (zx (due (now+d)) a c S);clear aK;generalize a1:jN (due (now+d)) a c=aZ at *;clear a1;go_upto_region 12 with fail;go_cut [71] (λa9 Y=>a9=W (due (now+d) c[a])/\∃nq,Y=wr.drewN nq)
     case first=>
      have ab:=(k q).st a u;have ad:=(k q).un a u;rw[k D] at ab ad;by_cases d1:c[a].st=1
      ·have O:(c[a].st==1)=true:=by simpa using d1
       by_cases d2:c[a].un<=now+d
       ·have ae:decide (c[a].un<=now+d)=true:=by simpa using d2
        have B:=i (show due (now+d) c[a]=true from by unfold due;rw[O,ae];rfl);clear d1 d2;go_quiet (fail);go_wp2;go_meet;exact⟨by rw[k B],_,rfl⟩
       ·have ae:decide (c[a].un<=now+d)=false:=by simpa using d2
        have B:=i (show due (now+d) c[a]=false from by unfold due;rw[O,ae];rfl);clear d1 d2;go_quiet (fail);go_wp2;go_meet;exact⟨by rw[k B],_,rfl⟩
      ·have O:(c[a].st==1)=false:=by simpa using d1
       have B:=i (show due (now+d) c[a]=false from by unfold due;rw[O];rfl);clear d1;go_quiet (fail);go_wp2;go_meet;exact⟨by rw[k B],_,rfl⟩
     case rest=>
      obtain⟨rfl,nq,rfl⟩:=hcut;have n:=i ((k q).mod ((G.refl No wr).drewN nq) (λaq=>aq));have L:=i ((k m).drewN nq);have bx:=(k aI) _ (k L);clear q m ba a4 bb;generalize wr.drewN nq=ao at *;have hb:due (now+d) c[a]=true\/due (now+d) c[a]=false:=by cases due (now+d) c[a]<;>simp
      have J:ot (now+d) c[a]=if due (now+d) c[a]=true then c[a].aS else c[a]:=rfl
      obtain hd|hd:=hb
      ·have aD:=i ((k n).iW a u c[a].aS);have aV:=(k n).row a u;have aW:=(k n).P a u;have ab:=(k n).st a u;have aX:=(k n).pa a u;have aY:=(k n).cl a u;have ad:=(k n).un a u;rw[k D] at aV aW ab aX aY ad;have bi:=(k n).gm;have aa:=i (show jN (due (now+d)) (a+1) c=true from by rw[k AS,hd,Bool.or_true])
       have z:=i (show Hid (aE ((((((ao.setCell ⟨j,a* 6,F⟩ (y K c[a].row)).setCell ⟨j,a* 6+1,F⟩ (y K c[a].P)).setCell ⟨j,a* 6+2,F⟩ (y K 0)).setCell ⟨j,a* 6+3,F⟩ (y K 0)).setCell ⟨j,a* 6+4,F⟩ (y K 0)).setCell ⟨j,a* 6+5,F⟩ (y K 0)).drew j N (eD (ot (now+d)) (a+1) c))/\
         Hid (G (λa=>a=j) aN ((((((ao.setCell ⟨j,a* 6,F⟩ (y K c[a].row)).setCell ⟨j,a* 6+1,F⟩ (y K c[a].P)).setCell ⟨j,a* 6+2,F⟩ (y K 0)).setCell ⟨j,a* 6+3,F⟩ (y K 0)).setCell ⟨j,a* 6+4,F⟩ (y K 0)).setCell ⟨j,a* 6+5,F⟩ (y K 0)).drew) from
        ⟨by rw[k M,J,if_pos hd];exact(k aD).mod (G.refl No _).drew (λaq=>aq),((k L).iW (S:=λa=>a=j) rfl a _ _ _ _ _ _).drew⟩)
       rw[hd];clear n L aD J D M AS hd;go_wp2_with fail;go_region
       all_goals go_wp2
       all_goals exact⟨⟨a+1,rfl,by rw[k aa],by omega,(k z).1,(k z).2⟩,by simp[intOf];omega⟩
      ·have aT:=i (show aE ao j N (eD (ot (now+d)) (a+1) c) from by
        rw[k M,J,hd,<-k D]
        simp only[kg,if_false,lI]
        exact k n)
       have aa:=i (show jN (due (now+d)) (a+1) c=aZ from by rw[k AS,hd,Bool.or_false]);rw[hd];clear n J D M AS hd;go_wp2;exact⟨⟨a+1,rfl,by rw[k aa],by omega,aT,L⟩,by simp[intOf];omega⟩
    ·have a3:¬(a:Int)<(c.length:Int):=by omega
     have o:a=c.length:=by omega
     subst o;rw[zw] at q;rw[Hr];have q:=i (show aE wr j N (dd (now+d) c) from k q);have bf:=(k ar) _ (k m);have bk:∀a5,wr.frozen? ⟨gf,a5,F⟩=false:=by
      obtain⟨bd,a7,_⟩:=((k aO) _ (k m)).cur;exact a7.frozen
     obtain⟨ai,aj⟩:=(k ST) wr (k q) (k m);have ay:=i (show G (λa=>p a≠0) w wr from(k aw).trans ((k m).mono (λa _ (o:a=j)=>by show p a≠0;rw[o,k aS];omega)));have hb:c.any (due (now+d))=true\/c.any (due (now+d))=false:=by cases c.any (due (now+d))<;>simp
     obtain hd|hd:=hb
     ·have z:=i (aj hd);have a6:p gf≠0:=by rw[k aR];omega
      have ax:=i (show G (λa=>p a≠0) w (wr.setCell ⟨gf,f* 10+9,F⟩ (y K (K.wrap (I+1)))) from(k ay).setCell (p:=⟨gf,f* 10+9,F⟩) (.inl a6) _);rw[show K.wrap (I+1)=wrap64 (I+1) from(by unfold wrap64;exact jB _)] at z ax;rw[hd];clear ai aj hd q m;go_wp2;exact⟨⟨f+1,rfl,by omega,z,ax⟩,by simp[intOf];omega⟩
     ·have z:=i (ai hd);rw[hd];clear ai aj hd q m;go_wp2;exact⟨⟨f+1,rfl,by omega,z,ay⟩,by simp[intOf];omega⟩
  ·have a2:¬(f:Int)<(xs.length:Int):=by omega
   have o:f=xs.length:=by omega
   subst o;rw[zw] at x;clear aC aA;go_wp2;go_ret;exact⟨rfl,k x,k aw⟩
theorem aF.Hw{d:U} {k:Nat->Nat} {m:Nat} {c:V} {xs:List e} {now:Int} (i:aF d k m c xs now):xH d c xs:=by
 obtain a|⟨f,cap,a,j,n⟩:=i.jk
 ·exact .inl a
 ·exact .inr ⟨f,cap,a,j⟩
theorem aF.find{a:U} {k:Nat->Nat} {f:Nat} {i:V} {xs:List e} {now:Int} (c:aF a k f i xs now) (d:Int):Calls T 52 #[b (E ⟨f,0,F⟩),y K d] a λj w'=>j=g (y K (cT xs d))/\w'=a:=
 Ea f xs i d a (c.has.cell 0) c.Hw (bF c.dU (by omega))
theorem aF.some{j:U} {i:Nat->Nat} {k:Nat} {a:V} {xs:List e} {now:Int} (c:aF j i k a xs now) (f:0<xs.length):∃gf cap,a=C (E ⟨gf,0,F⟩) xs.length cap:=by
 obtain⟨rfl,_⟩|⟨gf,cap,d,_⟩:=c.jk
 ·exact absurd f (Nat.lt_irrefl _)
 ·exact⟨gf,cap,d⟩
theorem vg(c a d:Int) (i:0<=c/\c<=1000000) (hc:0<=a/\a<=1099511627776) (e:U):Calls T 21 #[y K c,y K a,y K d] e λf w'=>f=g (W (decide (2* c+60* (a+1)+180<=d)))/\w'=e:=by
 have j:K.wrap (2* c)=2* c:=ey _ (by omega) (by omega);have k:K.wrap (a+1)=a+1:=ey _ (by omega) (by omega);have w3:K.wrap (60* (a+1))=60* (a+1):=ey _ (by omega) (by omega);have m:K.wrap (2* c+60* (a+1))=2* c+60* (a+1):=ey _ (by omega) (by omega);have n:K.wrap (2* c+60* (a+1)+180)=2* c+60* (a+1)+180:=ey _ (by omega) (by omega);go_enter func21,ntmps21;go_wp2;go_ret;exact⟨rfl,rfl⟩
open Go.ChangeMaps (setBlock)
def J(now:Int) (a:N):o:=
 ⟨a.m,
  if a.kind=1 then 1 else if a.kind=8 then 6 else if a.kind=9 then 5 else if a.kind=2\/a.kind=3\/a.kind=6 then 2 else if a.kind=5 then 4 else 3,
  a.p,
  if a.kind=2 then⟨a.j,a.ac,1,a.aI,a.cls,a.time⟩ else if a.kind=3 then⟨a.j,a.ac,2,a.aI,a.cls,0⟩ else if a.kind=6 then⟨a.j,a.ac,3,0,0,0⟩ else⟨a.j,a.ac,0,0,0,0⟩,
  a.bN,a.bO,now+a.time,[]⟩
theorem vh{now:Int} {a:N} (c:a.kind=1):dh (J now a)=jf a.p:=by
 unfold dh J;simp only[c,if_true]
theorem vj{now:Int} {a:N} (c:a.kind=8):dh (J now a)=my (now+a.time):=by
 unfold dh J;simp[c]
theorem vm{now:Int} {a:N} (d:2<=a.kind/\a.kind<=9/\a.kind≠8):dh (J now a)=fC a:=by
 unfold dh J fC;have:a.kind=2\/a.kind=3\/a.kind=4\/a.kind=5\/a.kind=6\/a.kind=7\/a.kind=9:=by omega
 obtain c|c|c|c|c|c|c:=this<;>simp[c]
theorem zy{now:Int} {a:N} (e:a.kind=1) (hf:1<=a.m/\a.m<=20) (f:a.p.sized=true) (i:a.p.limited=true):gN now (J now a):=by
 have j:(J now a).kind=1:=by unfold J;simp[e]
 simp only[O.sized,decide_eq_true_eq] at f;simp only[O.limited,decide_eq_true_eq] at i;refine⟨by omega,λ_=>⟨by show 0<=a.m;omega,by show a.m<32;omega⟩,λ_=>⟨⟨by show 0<=a.p.rows;omega,by show a.p.rows<128;omega⟩,⟨by show 0<=a.p.w;omega,by show a.p.w<128;omega⟩,⟨by show 0<=a.p.front;omega,by show a.p.front<128;omega⟩,λd=>?_⟩,λc=>by omega,λc=>by omega,λc=>by omega,λc=>by omega,λc=>by omega⟩
 show 0<=a.p.aZ d/\a.p.aZ d<16384
 match d with
 |0=>simp only[O.aZ];omega
 |1=>simp only[O.aZ];omega
 |2=>simp only[O.aZ];omega
 |d+3=>simp only[O.aZ];omega
theorem zA{now:Int} {a:N} (d:a.kind=8) (i:1<=a.time/\a.time<=100) (f:0<=now/\now<=4611686018427387000):gN now (J now a):=by
 have e:(J now a).kind=6:=by unfold J;simp[d]
 exact⟨by omega,λc=>absurd e c,λc=>by omega,λc=>by omega,λc=>by omega,λc=>by omega,λc=>by omega,λ_=>⟨f.1,by show now<=now+a.time;omega,by show now+a.time<=4611686018427387904;omega⟩⟩
theorem zB{p:O} {f:List B} (e:L p f) {c a:Int} (d:p.has c a=true):(1<=c/\c<=20)/\(1<=a/\a<=6):=by
 have hb:=aM.wf.bounds e;simp only[O.has,decide_eq_true_eq] at d;simp only at hb;omega
theorem zC{now:Int} {p:O} {o:List B} {a:N} (A:2<=a.kind/\a.kind<=9/\a.kind≠8) (hf:1<=a.m/\a.m<=20) (s:L p o) (D:0<=now/\now<=4611686018427387000) (f:aH p o a now=0):gN now (J now a):=by
 have e:(J now a).kind≠6->0<=(J now a).fl/\(J now a).fl<32:=λ_=>⟨by show 0<=a.m;omega,by show a.m<32;omega⟩;by_cases m:a.kind=9
 ·have i:(J now a).kind=5:=by unfold J;simp[m]
  unfold aH at f;rw[if_pos m] at f;by_cases r:a.p.sized=true/\¬(a.p.rows* a.p.w<(ba o:Int))
  case neg=>rw[if_neg r] at f;exact absurd f (by omega)
  have u:=r.1;simp only[O.sized,decide_eq_true_eq] at u;exact⟨by omega,e,λc=>by omega,λc=>by omega,λc=>by omega,λc=>by omega,λ_=>⟨⟨by show 0<=a.p.rows;omega,by show a.p.rows<128;omega⟩,⟨by show 0<=a.p.w;omega,by show a.p.w<128;omega⟩,⟨by show 0<=a.p.front;omega,by show a.p.front<128;omega⟩⟩,λc=>by omega⟩
 obtain⟨_,z,x,q,w⟩:=qC f m;have d:=zB s z;by_cases j:a.kind=2
 ·have i:(J now a).kind=2:=by unfold J;simp[j]
  have hs:(J now a).bV=⟨a.j,a.ac,1,a.aI,a.cls,a.time⟩:=by unfold J;simp[j]
  have hb:=jV (q j).1;have G:=q j;refine⟨by omega,e,λc=>by omega,λ_=>?_,λc=>by omega,λc=>by omega,λc=>by omega,λc=>by omega⟩;rw[hs];exact⟨d.1,d.2,by simp,by simp only;omega,by simp only;omega,λ_=>by simp only;omega,by omega⟩
 by_cases k:a.kind=3
 ·have i:(J now a).kind=2:=by unfold J;simp[k]
  have hs:(J now a).bV=⟨a.j,a.ac,2,a.aI,a.cls,0⟩:=by unfold J;simp[k]
  have hb:=jV (w k);refine⟨by omega,e,λc=>by omega,λ_=>?_,λc=>by omega,λc=>by omega,λc=>by omega,λc=>by omega⟩;rw[hs];exact⟨d.1,d.2,by simp,by simp only;omega,by simp only;omega,λc=>by simp at c,by omega⟩
 by_cases n:a.kind=6
 ·have i:(J now a).kind=2:=by unfold J;simp[n]
  have hs:(J now a).bV=⟨a.j,a.ac,3,0,0,0⟩:=by unfold J;simp[n]
  refine⟨by omega,e,λc=>by omega,λ_=>?_,λc=>by omega,λc=>by omega,λc=>by omega,λc=>by omega⟩;rw[hs];exact⟨d.1,d.2,by simp,by simp,by simp,λc=>by simp at c,by omega⟩
 have hs:(J now a).bV=⟨a.j,a.ac,0,0,0,0⟩:=by unfold J;simp[j,k,n]
 by_cases t:a.kind=5
 ·have i:(J now a).kind=4:=by unfold J;simp[t]
  have rt:=zB s (x t).1;exact⟨by omega,e,λc=>by omega,λc=>by omega,λ_=>by rw[hs];exact d,λ_=>rt,λc=>by omega,λc=>by omega⟩
 ·have i:(J now a).kind=3:=by
   have:a.kind=4\/a.kind=7:=by omega
   unfold J;obtain c|c:=this<;>simp[c]
  exact⟨by omega,e,λc=>by omega,λc=>by omega,λ_=>by rw[hs];exact d,λc=>by omega,λc=>by omega,λc=>by omega⟩
def dV(now:Int) (a:Nat->Option (O×List B)) (d:aO) (c:N):Int×Int×(Nat->Option (O×List B))×aO:=
 if (aA now a c).1≠0 then((aA now a c).1,now,a,d)
 else if (cV d (ay now a) (ag now [J now c])).1=0 then(0,(aA now a c).2.1,(aA now a c).2.2,(cV d (ay now a) (ag now [J now c])).2)
 else((cV d (ay now a) (ag now [J now c])).1,now,a,(cV d (ay now a) (ag now [J now c])).2)
structure gH (w w':U) (ow:Nat->Nat) (kb:Nat) (pt:Nat->Option Nat) (now:Int) (fl:Nat->Option (O×List B)) (K:aO):Prop where
 ex:∃ow' pt',cW w' ow' kb now pt' fl K/\(∀k,k<w.heap.size->ow' k=ow k)/\∀i,21<=i->i<29->pt' i=pt i
 mod:G (λk=>ow k≠0) w w'
theorem gH.same{c w':U} {a:Nat->Nat} {i:Nat} {now:Int} {pt:Nat->Option Nat} {e:Nat->Option (O×List B)} {d:aO} (j:cW c a i now pt e d) (f:G No c w'):gH c w' a i pt now e d:=
 ⟨⟨a,pt,j.aD f,λ_ _=>rfl,λ_ _ _=>rfl⟩,f.mono (λ_ _ k=>k.elim)⟩
theorem gH.first{a j w':U} {i:Nat->Nat} {f:Nat} {pt:Nat->Option Nat} {now:Int} {d:Nat->Option (O×List B)} {c:aO} (k:gH j w' i f pt now d c) (e:G No a j):gH a w' i f pt now d c:=by
 obtain⟨⟨r,s,t,n,o⟩,q⟩:=k;exact⟨⟨r,s,t,λp m=>n p (aG m e.size),o⟩,(e.mono (λ_ _ u=>u.elim)).trans q⟩
theorem gH.Hx{m w2 w':U} {i:Nat->Nat} {n:Nat} {now t:Int} {pt:Nat->Option Nat} {u fl':Nat->Option (O×List B)} {o:aO} (hold:∀a,i a≠0->a<m.heap.size) (hs:∃d k,cW w2 d n now k u o/\(∀a,a<m.heap.size->d a=i a)/\(∀j,j<29->k j=pt j)/\lU w2 w' d n k t fl') (p:G (λa=>i a≠0) m w2):gH m w' i n pt t fl' o:=by
 obtain⟨d,k,e,q,z,⟨⟨D,H,A,r,f⟩,m'⟩⟩:=hs;have J:=p.size
 refine⟨⟨D,H,⟨A,?_,?_,?_,?_⟩,λa c=>by rw[r a (by omega),q a c],λs w x=>by rw[f s w,z s x]⟩,p.trans' m' (λa c hl=>by
  have c:d a≠0/\d a<30:=c
  rw[q a hl] at c
  exact c.1)⟩
 ·rw[f 29 (by omega)];exact e.ptr
 ·have:=e.file;unfold mL at this ⊢;rw[f 30 (by omega)];exact this
 ·have:=e.torn;unfold lJ at this ⊢;rw[f 31 (by omega)];exact this
 ·refine(e.tape.mod m' (λa c I=>by omega)).narrow.wide (λa ⟨c,hl⟩=>?_);have:=e.keep.aU a (by omega);rw[r a this];exact c
set_option maxHeartbeats 4000000
def eO:Nat->Option (O×List B):=λ_=>F
theorem Hy(tb:Nat) (c:Int) (cs:Array V) (a:U) (e:X a tb cs 108) (f:cs[8]? =E (y K c)) (m:c<200):Calls T 20 #[b (E ⟨tb,0,F⟩)] a λd w'=>d=g (h #[b F,y K 15])/\w'=a:=by
 have j:=i (rC tb c a cs e f);clear e f;go_enter func20,ntmps20;go_wp2_with fail;refine(k j).mono ?_;rintro d n ⟨rfl,rfl⟩;go_wp2;go_ret2;exact⟨rfl,rfl⟩
set_option maxHeartbeats 2000000
theorem oh.mod{w w':U} {c:Nat->Nat} {f:Nat} {now:Int} {d:Nat->Option (O×List B)} {S:Nat->Prop} (a:oh w c f now d) (i:G S w w') (hs:∀e,c e≠0->¬S e):oh w' c f now d:=by
 obtain⟨pt,a⟩:=a;exact⟨pt,a.mod i hs⟩
def My(e:Nat->Option (O×List B)) (c a:Int):Int×Int:=
 if ¬(1<=c/\c<=20) then(0,2)
 else match e c.toNat with
  |none=>(0,2)
  |some d=>if ¬(0<=a/\a<4) then(0,6) else(min (M.leftOf d.1 d.2 a.toNat) 9,0)
def vn(p:O) (a:List B):Array V:=
 #[y K (af p a 0),y K (af p a 1),y K (af p a 2),y K (af p a 3),y K (aj p a 0),y K (aj p a 1),y K (aj p a 2),y K (aj p a 3),y K (c a 0),y K (c a 1),y K (c a 2),y K (c a 3)]
def gr(d:Nat->Option (O×List B)) (a:Int):Array V×Int:=
 if ¬(1<=a/\a<=20) then(cn,2)
 else match d a.toNat with
  |none=>(cn,2)
  |some c=>(vn c.1 c.2,0)
theorem zD{e:U} {u:Nat->Nat} {d:Nat} {now:Int} {i:Nat->Option (O×List B)} (f:oh e u d now i) (a:Int):Calls T 35 #[b (E ⟨d,0,F⟩),y K a] e λj w'=>j=g (h #[l (gr i a).1,y K (gr i a).2])/\G No e w':=by
 obtain⟨pt,f⟩:=f;unfold gr;by_cases m:1<=a/\a<=20
 case neg=>
  rw[if_pos m];exact ze d a e (λc _=>xN d a m c)
 rw[if_neg (by simpa using m)];have r:((a.toNat:Nat):Int)=a:=by omega
 have hF:∀c,G No e c->Calls T 59 #[b (E ⟨d,0,F⟩),y K a] c λj w'=>j=g (aL (pt a.toNat))/\w'=c:=λc k=>by
  have:=uA (f.mod k (λ_ _ n=>n)) a.toNat (by omega);rw[r] at this;exact this
 cases o:i a.toNat with
 |none=>
  rw[f.gone _ (by omega) o] at hF;exact ze d a e hF
 |some n=>
  obtain⟨w,t⟩:=n;obtain⟨p,s,A,q⟩:=f.here _ w t (by omega) o;rw[s] at hF;simp only
  exact GB d p a _ _ _ _ _ _ _ _ _ _ _ _ e hF (λc k=>by
   obtain⟨D,es,z,x,_⟩:=q.aD k
   exact Gx _ _ _ _ _ _ _ _ _ _ _ _ _ _ _ _ _ _ _ _ _ _ _ _ _ _ _ x)
set_option maxHeartbeats 8000000
def cw(a c d:Nat->Int):Array V:=
 #[y K (a 0),y K (a 1),y K (a 2),y K (a 3),y K (c 0),y K (c 1),y K (c 2),y K (c 3),y K (d 0),y K (d 1),y K (d 2),y K (d 3)]
theorem zE(a d f:Nat->Int) (c:Nat) (e:c<4):(cw a d f)[c]? =E (y K (a c)):=by
 match c,e with|0,_=>rfl|1,_=>rfl|2,_=>rfl|3,_=>rfl
theorem zF(a d f:Nat->Int) (c:Nat) (e:c<4):(cw a d f)[4+c]? =E (y K (d c)):=by
 match c,e with|0,_=>rfl|1,_=>rfl|2,_=>rfl|3,_=>rfl
theorem vo(a e d:Nat->Int) (c:Nat) (f:c<4):(cw a e d)[8+c]? =E (y K (d c)):=by
 match c,f with|0,_=>rfl|1,_=>rfl|2,_=>rfl|3,_=>rfl
theorem sM(a d e:Nat->Int) (c:Nat) (i:c<4) (f:Int):(cw a d e).setIfInBounds c (y K f)=cw (bL a c f) d e:=by
 match c,i with|0,_=>rfl|1,_=>rfl|2,_=>rfl|3,_=>rfl
theorem sN(a d e:Nat->Int) (c:Nat) (i:c<4) (f:Int):(cw a d e).setIfInBounds (4+c) (y K f)=cw a (bL d c f) e:=by
 match c,i with|0,_=>rfl|1,_=>rfl|2,_=>rfl|3,_=>rfl
theorem sO(a d e:Nat->Int) (c:Nat) (i:c<4) (f:Int):(cw a d e).setIfInBounds (8+c) (y K f)=cw a d (bL e c f):=by
 match c,i with|0,_=>rfl|1,_=>rfl|2,_=>rfl|3,_=>rfl
theorem sP(p:O) (d:Bool) (j:Int) (c:List B) (a:Nat) (hi:a<c.length):iJ p d j (c.take (a+1))=iJ p d j (c.take a)+if ((decide (c[a].row<=p.front)==d)&&c[a].st==j)=true then 1 else 0:=by
 unfold iJ;rw[lq,cK hi];simp only[Option.toList_some,nL,List.countP_singleton]
theorem zG(j:Int) (c:List B) (a:Nat) (hi:a<c.length):gd j (c.take (a+1))=gd j (c.take a)+if (c[a].cX&&c[a].cl==j)=true then 1 else 0:=by
 unfold gd;rw[lq,cK hi];simp only[Option.toList_some,nL,List.countP_singleton]
theorem sQ(p:O) (c:List B) (a d:Nat) (hi:a<c.length) (i:c[a].st=d) (hf:c[a].row<=p.front):af p (c.take (a+1))=bL (af p (c.take a)) d (af p (c.take a) d+1)/\aj p (c.take (a+1))=aj p (c.take a):=by
 constructor
 ·funext f;unfold af bL;rw[sP _ _ _ _ _ hi,i];by_cases e:f=d
  ·subst e;simp[hf]
  ·have:¬((d:Nat):Int)=(f:Int):=λj=>e (by omega);simp[e,hf,this]
 ·funext f;unfold aj;rw[sP _ _ _ _ _ hi];simp[hf]
theorem sR(p:O) (c:List B) (a d:Nat) (hi:a<c.length) (i:c[a].st=d) (hf:¬c[a].row<=p.front):aj p (c.take (a+1))=bL (aj p (c.take a)) d (aj p (c.take a) d+1)/\af p (c.take (a+1))=af p (c.take a):=by
 constructor
 ·funext f;unfold aj bL;rw[sP _ _ _ _ _ hi,i];by_cases e:f=d
  ·subst e;simp[hf]
  ·have:¬((d:Nat):Int)=(f:Int):=λj=>e (by omega);simp[e,hf,this]
 ·funext f;unfold af;rw[sP _ _ _ _ _ hi];simp[hf]
theorem Hz(d:List B) (a e:Nat) (hi:a<d.length) (j:d[a].cl=e) (hs:d[a].cX=true):c (d.take (a+1))=bL (c (d.take a)) e (c (d.take a) e+1):=by
 funext i;unfold c bL;rw[zG _ _ _ hi,j,hs];by_cases f:i=e
 ·subst f;simp
 ·have:¬((e:Nat):Int)=(i:Int):=λk=>f (by omega);simp[f,this]
theorem H7(d:List B) (a:Nat) (hi:a<d.length) (hs:d[a].cX=false):c (d.take (a+1))=c (d.take a):=by
 funext e;unfold c;rw[zG _ _ _ hi,hs];simp
theorem H8(p:O) (a:List B):cw (af p a) (aj p a) (c a)=vn p a:=rfl
theorem H'(p:O) (a:List B) (d:Nat) (hl:a.length<=120) (j:Nat):(0<=af p (a.take d) j/\af p (a.take d) j<=120)/\(0<=aj p (a.take d) j/\aj p (a.take d) j<=120)/\(0<=c (a.take d) j/\c (a.take d) j<=120):=by
 have k:(a.take d).length<=120:=by rw[dj];omega
 have e:iJ p true j (a.take d)<=(a.take d).length:=mg;have f:iJ p false j (a.take d)<=(a.take d).length:=mg;have i:gd j (a.take d)<=(a.take d).length:=mg;unfold af aj c;omega
set_option maxHeartbeats 20000000
theorem X.Ia{d:U} {c:Nat} {cs:Array V} {e:TypeId} (f:X d c cs e):∀a,d.frozen? ⟨c,a,F⟩=false:=λa=>f.frozen a
theorem zH:(T.info? 91).map (·.size)=E 12:=by kernel_rfl
theorem Ib:(T.underlying 91).map (·.isRow)=E true:=by kernel_rfl
structure jo (w wx:U) (x:e) (i:Nat):Prop where
 mod:G No w wx
 res:X wx w.heap.size cn 91
 box:X wx (w.heap.size+1) (aV x) 134
 ou:X wx (w.heap.size+1+1) (cw (af x.f.p (x.f.S.take i)) (aj x.f.p (x.f.S.take i)) (c (x.f.S.take i))) 91
theorem jo.start(w:U) (a:e):jo w (((w.alloc (v cn 91)).alloc (v (aV a) 134)).alloc (v cn 91)) a 0:=by
 refine⟨(((G.refl No w).alloc _).alloc _).alloc _,((X.new w cn 91).alloc _).alloc _,?_,?_⟩
 ·have:=(X.new (w.alloc (v cn 91)) (aV a) 134).alloc (v cn 91);rw[bj] at this;exact this
 ·have:=X.new ((w.alloc (v cn 91)).alloc (v (aV a) 134)) cn 91;rw[bj,bj] at this;exact this
theorem jo.alloc{w d:U} {f:e} {c:Nat} (a:jo w d f c) (i:Obj):jo w (d.alloc i) f c:=⟨a.mod.alloc _,a.res.alloc _,a.box.alloc _,a.ou.alloc _⟩
theorem jo.put{d n:U} {a:e} {i j:Nat} (f:jo d n a i) (k:Nat) (m:V) (o:(cw (af a.f.p (a.f.S.take i)) (aj a.f.p (a.f.S.take i)) (c (a.f.S.take i))).setIfInBounds k m=cw (af a.f.p (a.f.S.take j)) (aj a.f.p (a.f.S.take j)) (c (a.f.S.take j))):jo d (n.setCell ⟨d.heap.size+1+1,k,F⟩ m) a j:=
 ⟨f.mod.setCell (.inr (by show d.heap.size<=d.heap.size+1+1;omega)) _,f.res.dB (by show d.heap.size≠d.heap.size+1+1;omega) _,f.box.dB (by show d.heap.size+1≠d.heap.size+1+1;omega) _,by rw[<-o];exact f.ou.set k m⟩
theorem jo.py{a o:U} {d:e} {k j:Nat} (i:jo a o d k) (f m:Nat) (n v':V) (p:((cw (af d.f.p (d.f.S.take k)) (aj d.f.p (d.f.S.take k)) (c (d.f.S.take k))).setIfInBounds f n).setIfInBounds m v'=cw (af d.f.p (d.f.S.take j)) (aj d.f.p (d.f.S.take j)) (c (d.f.S.take j))):jo a ((o.setCell ⟨a.heap.size+1+1,f,F⟩ n).setCell ⟨a.heap.size+1+1,m,F⟩ v') d j:=
 ⟨(i.mod.setCell (p:=⟨a.heap.size+1+1,f,F⟩) (.inr (by show a.heap.size<=a.heap.size+1+1;omega)) _).setCell (.inr (by show a.heap.size<=a.heap.size+1+1;omega)) _,
  (i.res.dB (a:=⟨a.heap.size+1+1,f,F⟩) (by show a.heap.size≠a.heap.size+1+1;omega) _).dB (by show a.heap.size≠a.heap.size+1+1;omega) _,
  (i.box.dB (a:=⟨a.heap.size+1+1,f,F⟩) (by show a.heap.size+1≠a.heap.size+1+1;omega) _).dB (by show a.heap.size+1≠a.heap.size+1+1;omega) _,by rw[<-p];exact(i.ou.set f n).set m v'⟩
theorem zI{a:U} {p:Nat->Nat} {n:Nat} {q:V} {xs:List e} {now:Int} (j:aF a p n q xs now) (d:Int) (m:cT xs d= -1):Calls T 36 #[b (E ⟨n,0,F⟩),y K d] a λf w'=>f=g (h #[l cn,y K 2])/\G No a w':=by
 have c:=(j.mod ((G.refl No a).alloc (v cn 91)) (λ_ _ r=>r)).find d;rw[m] at c;have c:=i c;have o:=i ((G.refl No a).alloc (v cn 91));have s:=i (X.new a cn 91);clear j m;unfold cn at *;go_enter func36,ntmps36;go_wp2_with fail;refine(k c).mono ?_;rintro f t ⟨rfl,rfl⟩;go_wp2;go_returns;exact⟨rfl,k o⟩
theorem Ic{f:U} {aU:Nat->Nat} {ar gf cap:Nat} {xs:List e} {now:Int} (R:aF f aU ar (C (E ⟨gf,0,F⟩) xs.length cap) xs now) (ad:Int) (n:Nat) (hi:n<xs.length) (aR:cT xs ad=n):Calls T 36 #[b (E ⟨ar,0,F⟩),y K ad] f λN w'=>N=g (h #[l (vn xs[n].f.p xs[n].f.S),y K 0])/\G No f w':=by
 have O:=R.mod ((G.refl No f).alloc (v cn 91)) (λ_ _ a=>a);have Q:=O.find ad;rw[aR] at Q;have Q:=i Q;obtain⟨aT,ap⟩:=O.parts rfl (by omega);obtain⟨aq,os,wf⟩:=R.S n hi;have hc:=O.has.cell;have H:∀P,P<10->(f.alloc (v cn 91)).cell? ⟨gf,n* 10+P,F⟩=(aV xs[n])[P]? :=λP aO=>ap.cell n hi P aO;have ak:=i (jo.start f xs[n]);have I:=i aq;have J:=i wf;have aQ:xs[n].f.S.length<=120:=gF wf
 have a1:¬(n:Int)<0:=by omega
 have O:(n:Int)<(xs.length:Int):=by omega
 clear R O ap aq os wf aT;generalize xs[n]=a at *;have aA:(f.alloc (v cn 91)).cell? ⟨gf,n* 10,F⟩=E (y K a.f.num):=H 0 (by omega);have aC:(f.alloc (v cn 91)).cell? ⟨gf,n* 10+1,F⟩=E (y K a.f.p.rows):=H 1 (by omega);have aD:(f.alloc (v cn 91)).cell? ⟨gf,n* 10+2,F⟩=E (y K a.f.p.w):=H 2 (by omega);have aE:(f.alloc (v cn 91)).cell? ⟨gf,n* 10+3,F⟩=E (y K a.f.p.front):=H 3 (by omega)
 have aH:(f.alloc (v cn 91)).cell? ⟨gf,n* 10+4,F⟩=E (y K a.f.p.I):=H 4 (by omega);have aI:(f.alloc (v cn 91)).cell? ⟨gf,n* 10+5,F⟩=E (y K a.f.p.R):=H 5 (by omega);have aK:(f.alloc (v cn 91)).cell? ⟨gf,n* 10+6,F⟩=E (y K a.f.p.n):=H 6 (by omega);have aL:(f.alloc (v cn 91)).cell? ⟨gf,n* 10+7,F⟩=E (y K a.f.p.f):=H 7 (by omega)
 have aM:(f.alloc (v cn 91)).cell? ⟨gf,n* 10+8,F⟩=E (C (E ⟨a.g,0,F⟩) a.f.S.length a.cap):=H 8 (by omega);have aN:(f.alloc (v cn 91)).cell? ⟨gf,n* 10+9,F⟩=E (y K a.f.ep):=H 9 (by omega);have O:(n:Int)<(xs.length:Int):=by omega
 clear H;unfold cn aV at *;go_enter func36,ntmps36;go_wp2_with fail;refine(k Q).mono ?_;rintro N bc ⟨rfl,rfl⟩;go_wp2_with fail;go_loopw [9] (λae aW=>∃d:Nat,ae=y K d/\d<=a.f.S.length/\Hid (jo f aW a d)) (λae _=>a.f.S.length - (intOf ae).toNat)
 case atStart=>exact⟨0,rfl,by omega,ak⟩
 case round=>
  obtain⟨d,rfl,a4,j⟩:=hrel;clear ak aA aC aD aE aH aI aK aL aM aN hc Q;have aw:wr.cell? ⟨f.heap.size+1,3,F⟩=E (y K a.f.p.front):=(k j).box.cell 3;have ax:wr.cell? ⟨f.heap.size+1,8,F⟩=E (C (E ⟨a.g,0,F⟩) a.f.S.length a.cap):=(k j).box.cell 8;by_cases s:d<a.f.S.length
  ·have aS:(d:Int)<(a.f.S.length:Int):=by omega
   have a5:(0:Int)<=d:=by omega
   have a6:K.wrap ((d:Int)+1)=((d+1:Nat):Int):=by rw[aB _ (by omega) (by omega)];rfl
   have M:=(k I).mod (k j).mod (λa=>a);have aX:=M.row d s;have aY:=M.P d s;have Y:=M.st d s;have aZ:=M.pa d s;have ay:=M.cl d s;have a0:=M.un d s;have X:=(k J).cQ _ (dD s);obtain⟨o,aa⟩:∃o:Nat,a.f.S[d].cl=(o:Int):=⟨a.f.S[d].cl.toNat,by have:=X.kX;omega⟩;have S:o<4:=by have:=X.c1;omega
   have a3:(o:Int)<4:=by omega
   have a2:(0:Int)<=o:=by omega
   have m:a.f.S[d].st=0\/a.f.S[d].st=1\/a.f.S[d].st=2\/a.f.S[d].st=3:=by have:=X.kW;have:=X.s1;omega
   have L:=i aa;rw[aa] at ay;have ba:=(k j).ou.Ia;have w:=H' a.f.p a.f.S d aQ;have x:=(k j).ou.cell;have ts:wr.cell? ⟨f.heap.size+1+1,8+o,F⟩=E (y K (c (a.f.S.take d) o)):=by rw[x,vo _ _ _ _ S]
   have a9:=(k j).ou.lt;have a8:=(k j).box.lt;have ws:K.wrap (c (a.f.S.take d) o+1)=c (a.f.S.take d) o+1:=by have:=(w o).2.2;exact ey _ (by omega) (by omega)
   have A:=i (Hz a.f.S d o s aa);have z:=i (H7 a.f.S d s);clear M X aa;obtain m|m|m|m:=m
   ·have p:=i (sQ a.f.p a.f.S d 0 s m);have q:=i (sR a.f.p a.f.S d 0 s m);have r:=i (show a.f.S[d].cX=false from by unfold B.cX;rw[m];rfl);rw[m] at Y;have ag:wr.cell? ⟨f.heap.size+1+1,0,F⟩=E (y K (af a.f.p (a.f.S.take d) 0)):=x 0;have tb:wr.cell? ⟨f.heap.size+1+1,4,F⟩=E (y K (aj a.f.p (a.f.S.take d) 0)):=x 4
    have ah:K.wrap (af a.f.p (a.f.S.take d) 0+1)=af a.f.p (a.f.S.take d) 0+1:=by have:=(w 0).1;exact ey _ (by omega) (by omega)
    have ai:K.wrap (aj a.f.p (a.f.S.take d) 0+1)=aj a.f.p (a.f.S.take d) 0+1:=by have:=(w 0).2.1;exact ey _ (by omega) (by omega)
    clear m x w;by_cases hf:a.f.S[d].row<=a.f.p.front
    ·have t:=i ((k j).put (j:=d+1) 0 (y K (af a.f.p (a.f.S.take d) 0+1)) (by rw[sM _ _ _ 0 (by omega),((k p) hf).1,((k p) hf).2,(k z) (k r)]));clear p q A z j r L I J;go_wp2;exact⟨⟨d+1,rfl,by omega,(k t).alloc _⟩,by simp[intOf];omega⟩
    ·have t:=i ((k j).put (j:=d+1) (4+0) (y K (aj a.f.p (a.f.S.take d) 0+1)) (by rw[sN _ _ _ 0 (by omega),((k q) hf).1,((k q) hf).2,(k z) (k r)]));clear p q A z j r L I J;go_wp2;exact⟨⟨d+1,rfl,by omega,(k t).alloc _⟩,by simp[intOf];omega⟩
   ·have p:=i (sQ a.f.p a.f.S d 1 s m);have q:=i (sR a.f.p a.f.S d 1 s m);have r:=i (show a.f.S[d].cX=true from by unfold B.cX;rw[m];rfl);rw[m] at Y;have ag:wr.cell? ⟨f.heap.size+1+1,1,F⟩=E (y K (af a.f.p (a.f.S.take d) 1)):=x 1;have tb:wr.cell? ⟨f.heap.size+1+1,5,F⟩=E (y K (aj a.f.p (a.f.S.take d) 1)):=x 5
    have ah:K.wrap (af a.f.p (a.f.S.take d) 1+1)=af a.f.p (a.f.S.take d) 1+1:=by have:=(w 1).1;exact ey _ (by omega) (by omega)
    have ai:K.wrap (aj a.f.p (a.f.S.take d) 1+1)=aj a.f.p (a.f.S.take d) 1+1:=by have:=(w 1).2.1;exact ey _ (by omega) (by omega)
    clear m x w;by_cases hf:a.f.S[d].row<=a.f.p.front
    ·have t:=i ((k j).py (j:=d+1) 1 (8+o) (y K (af a.f.p (a.f.S.take d) 1+1)) (y K (c (a.f.S.take d) o+1)) (by rw[sM _ _ _ 1 (by omega),sO _ _ _ o S,((k p) hf).1,((k p) hf).2,(k A) (k r)]));clear p q A z j r L I J;go_wp2;exact⟨⟨d+1,rfl,by omega,(k t).alloc _⟩,by simp[intOf];omega⟩
    ·have t:=i ((k j).py (j:=d+1) (4+1) (8+o) (y K (aj a.f.p (a.f.S.take d) 1+1)) (y K (c (a.f.S.take d) o+1)) (by rw[sN _ _ _ 1 (by omega),sO _ _ _ o S,((k q) hf).1,((k q) hf).2,(k A) (k r)]));clear p q A z j r L I J;go_wp2;exact⟨⟨d+1,rfl,by omega,(k t).alloc _⟩,by simp[intOf];omega⟩
   ·have p:=i (sQ a.f.p a.f.S d 2 s m);have q:=i (sR a.f.p a.f.S d 2 s m);have r:=i (show a.f.S[d].cX=true from by unfold B.cX;rw[m];rfl);rw[m] at Y;have ag:wr.cell? ⟨f.heap.size+1+1,2,F⟩=E (y K (af a.f.p (a.f.S.take d) 2)):=x 2;have tb:wr.cell? ⟨f.heap.size+1+1,6,F⟩=E (y K (aj a.f.p (a.f.S.take d) 2)):=x 6
    have ah:K.wrap (af a.f.p (a.f.S.take d) 2+1)=af a.f.p (a.f.S.take d) 2+1:=by have:=(w 2).1;exact ey _ (by omega) (by omega)
    have ai:K.wrap (aj a.f.p (a.f.S.take d) 2+1)=aj a.f.p (a.f.S.take d) 2+1:=by have:=(w 2).2.1;exact ey _ (by omega) (by omega)
    clear m x w;by_cases hf:a.f.S[d].row<=a.f.p.front
    ·have t:=i ((k j).py (j:=d+1) 2 (8+o) (y K (af a.f.p (a.f.S.take d) 2+1)) (y K (c (a.f.S.take d) o+1)) (by rw[sM _ _ _ 2 (by omega),sO _ _ _ o S,((k p) hf).1,((k p) hf).2,(k A) (k r)]));clear p q A z j r L I J;go_wp2;exact⟨⟨d+1,rfl,by omega,(k t).alloc _⟩,by simp[intOf];omega⟩
    ·have t:=i ((k j).py (j:=d+1) (4+2) (8+o) (y K (aj a.f.p (a.f.S.take d) 2+1)) (y K (c (a.f.S.take d) o+1)) (by rw[sN _ _ _ 2 (by omega),sO _ _ _ o S,((k q) hf).1,((k q) hf).2,(k A) (k r)]));clear p q A z j r L I J;go_wp2;exact⟨⟨d+1,rfl,by omega,(k t).alloc _⟩,by simp[intOf];omega⟩
   ·have p:=i (sQ a.f.p a.f.S d 3 s m);have q:=i (sR a.f.p a.f.S d 3 s m);have r:=i (show a.f.S[d].cX=false from by unfold B.cX;rw[m];rfl);rw[m] at Y;have ag:wr.cell? ⟨f.heap.size+1+1,3,F⟩=E (y K (af a.f.p (a.f.S.take d) 3)):=x 3;have tb:wr.cell? ⟨f.heap.size+1+1,7,F⟩=E (y K (aj a.f.p (a.f.S.take d) 3)):=x 7
    have ah:K.wrap (af a.f.p (a.f.S.take d) 3+1)=af a.f.p (a.f.S.take d) 3+1:=by have:=(w 3).1;exact ey _ (by omega) (by omega)
    have ai:K.wrap (aj a.f.p (a.f.S.take d) 3+1)=aj a.f.p (a.f.S.take d) 3+1:=by have:=(w 3).2.1;exact ey _ (by omega) (by omega)
    clear m x w;by_cases hf:a.f.S[d].row<=a.f.p.front
    ·have t:=i ((k j).put (j:=d+1) 3 (y K (af a.f.p (a.f.S.take d) 3+1)) (by rw[sM _ _ _ 3 (by omega),((k p) hf).1,((k p) hf).2,(k z) (k r)]));clear p q A z j r L I J;go_wp2;exact⟨⟨d+1,rfl,by omega,(k t).alloc _⟩,by simp[intOf];omega⟩
    ·have t:=i ((k j).put (j:=d+1) (4+3) (y K (aj a.f.p (a.f.S.take d) 3+1)) (by rw[sN _ _ _ 3 (by omega),((k q) hf).1,((k q) hf).2,(k z) (k r)]));clear p q A z j r L I J;go_wp2;exact⟨⟨d+1,rfl,by omega,(k t).alloc _⟩,by simp[intOf];omega⟩
  ·have aS:¬(d:Int)<(a.f.S.length:Int):=by omega
   have N:d=a.f.S.length:=by omega
   subst N;have ab:=(k j).ou;rw[eA] at ab;have am:=(k j).res;have au:=i (k j).mod;clear I J;go_upto_region 15 with fail;clear aw ax;refine wp_region_list ?_;refine(oT rfl 91 _ rfl (f.heap.size+1+1) 0 rfl (cw (af a.f.p a.f.S) (aj a.f.p a.f.S) (c a.f.S)) 91 ab (cw (af a.f.p a.f.S) (aj a.f.p a.f.S) (c a.f.S)) (λP bb R=>by rw[bg];simpa using R) Ib zH ?_)
   refine(tV rfl 91 _ _ rfl (f.heap.size) (cw (af a.f.p a.f.S) (aj a.f.p a.f.S) (c a.f.S)) rfl rfl cn 91 am rfl zH (by simp[cw,Value.oneCell']) ?_);intro D u ao;have d0:D.cell? ⟨f.heap.size,0,F⟩=E (y K (af a.f.p a.f.S 0)):=u.cell 0;have d1:D.cell? ⟨f.heap.size,1,F⟩=E (y K (af a.f.p a.f.S 1)):=u.cell 1;have d2:D.cell? ⟨f.heap.size,2,F⟩=E (y K (af a.f.p a.f.S 2)):=u.cell 2
   have d3:D.cell? ⟨f.heap.size,3,F⟩=E (y K (af a.f.p a.f.S 3)):=u.cell 3;have d4:D.cell? ⟨f.heap.size,4,F⟩=E (y K (aj a.f.p a.f.S 0)):=u.cell 4;have d5:D.cell? ⟨f.heap.size,5,F⟩=E (y K (aj a.f.p a.f.S 1)):=u.cell 5;have d6:D.cell? ⟨f.heap.size,6,F⟩=E (y K (aj a.f.p a.f.S 2)):=u.cell 6;have d7:D.cell? ⟨f.heap.size,7,F⟩=E (y K (aj a.f.p a.f.S 3)):=u.cell 7
   have d8:D.cell? ⟨f.heap.size,8,F⟩=E (y K (c a.f.S 0)):=u.cell 8;have d9:D.cell? ⟨f.heap.size,9,F⟩=E (y K (c a.f.S 1)):=u.cell 9;have d10:D.cell? ⟨f.heap.size,10,F⟩=E (y K (c a.f.S 2)):=u.cell 10;have d11:D.cell? ⟨f.heap.size,11,F⟩=E (y K (c a.f.S 3)):=u.cell 11;have av:=i ((k au).trans' (S:=No) ao (λn N hl=>by subst N;omega));have a7:=u.lt;clear ao u am ab j;go_wp2
   refine bodyPost_ret (by simp[results,results36,go_sem,d0,d1,d2,d3,d4,d5,d6,d7,d8,d9,d10,d11];try rfl) rfl ?_;exact⟨rfl,k av⟩
end Go.Proofs.YthhibagcpjeihaaGreat
