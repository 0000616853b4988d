import Derived.Test.YthhibagcpjeihaaGreatMChangeToPass2
import Derived.BigQuiet
import Derived.Deep.DeepCutAuto
import Derived.Test.YthhibagcpjeihaaGreatMWd
import Derived.Handy
import Derived.Deep.QuietTactic
import Derived.Test.YthhibagcpjeihaaGreatMBaseToPut2
import Derived.Test.YthhibagcpjeihaaGreatMCellsToEnc
import Derived.Deep.MidRow
open Go.Proofs.Tryz
open Go.Value renaming int->y,pointer->b,slice->C,bool->W,agg->l,tuple->h,ownBlock->az
open Go.IntKind renaming i64->K
open Option renaming none->F,some->E
open Go renaming World->U,Value->V
open Go.Proofs.Tryz renaming prog->T,underlying162->ld
open Go.Ending renaming returned->g
open Go.Obj renaming cells->v
open List renaming length_append->aJ,getElem?_eq_getElem->cK,length_take->dj,getElem_mem->dD,append_nil->dR,take_length->eA,length_set->iU,getD_eq_getElem?_getD->nT,flatMap_append->lG,take_add_one->lq,foldl_cons->kE,length_filter_le->oZ,countP_append->nL,mem_cons_self->nG,getElem_set->mi,mem_cons_of_mem->oM
open Go.World renaming size_alloc->bj,ownsRow_nil->cJ
open Go.Act renaming eval->Z
open Array renaming getElem?_toList->dE
open Nat renaming zero_add->bg,le_trans->bF,le_refl->bK
open Go.Addr renaming add_mid->dx
open Go.Instr renaming lookup->iO
open Int renaming tmod_eq_emod_of_nonneg->qi,tdiv_eq_ediv_of_nonneg->rK
open Bool renaming and_eq_true->kY
namespace Go.Proofs.YthhibagcpjeihaaGreat
open Go.RowKit
open Go.ChangeMaps (setBlock)
open M
set_option linter.unusedVariables false
set_option linter.unusedSimpArgs false
set_option maxRecDepth 100000
def Q(a:N):Array V:=
 #[y K a.kind,y K a.m,y K a.j,y K a.ac,y K a.bN,y K a.bO,y K a.aI,y K a.cls,y K a.time,
  y K a.p.rows,y K a.p.w,y K a.p.front,y K a.p.I,y K a.p.R,y K a.p.n,y K a.p.f]
attribute [local go_sem] pR pS pT pU
def bP(a:N):Int:=if a.cls<0\/a.cls>=4 then 6 else if a.aI<1\/a.aI>1000 then 7 else 0
theorem DM(a:N) (e:U):Calls T 119 #[l (Q a)] e λf w'=>f=g (y K (bP a))/\G No e w':=by
 unfold Q;by_cases c:a.cls<0
 ·go_enter func119,ntmps119;go_wp2;go_ret;refine⟨by simp[bP,c],(G.refl _ _).alloc _⟩
 ·by_cases d:a.cls>=4
  ·go_enter func119,ntmps119;go_wp2;go_ret;refine⟨by simp[bP,d],(G.refl _ _).alloc _⟩
  ·by_cases i:a.aI<1
   ·go_enter func119,ntmps119;go_wp2;go_ret;refine⟨by simp[bP,c,d,i],(G.refl _ _).alloc _⟩
   ·by_cases j:a.aI>1000
    ·go_enter func119,ntmps119;go_wp2;go_ret;refine⟨by simp[bP,c,d,j],(G.refl _ _).alloc _⟩
    ·go_enter func119,ntmps119;go_wp2;go_ret;have hb:bP a=0:=by
      unfold bP;rw[if_neg (by omega),if_neg (by omega)]
     rw[hb];exact⟨rfl,(G.refl _ _).alloc _⟩
def eb(p:O):V:=l #[y K p.rows,y K p.w,y K p.front,y K p.I,y K p.R,y K p.n,y K p.f]
theorem xA(p:O) (a:U):Calls T 96 #[eb p] a λc w'=>c=g (W p.sized)/\G No a w':=by
 unfold eb O.sized;by_cases d:p.rows>=1
 ·by_cases e:p.rows<=20
  ·by_cases f:p.w>=1
   ·by_cases i:p.w<=6
    ·by_cases j:p.front>=0
     ·by_cases k:p.front<=p.rows
      all_goals (go_enter func96,ntmps96;go_wp2;go_ret;exact⟨by simp;omega,(G.refl _ _).alloc _⟩)
     ·go_enter func96,ntmps96;go_wp2;go_ret;exact⟨by simp;omega,(G.refl _ _).alloc _⟩
    ·go_enter func96,ntmps96;go_wp2;go_ret;exact⟨by simp;omega,(G.refl _ _).alloc _⟩
   ·go_enter func96,ntmps96;go_wp2;go_ret;exact⟨by simp;omega,(G.refl _ _).alloc _⟩
  ·go_enter func96,ntmps96;go_wp2;go_ret;exact⟨by simp;omega,(G.refl _ _).alloc _⟩
 ·go_enter func96,ntmps96;go_wp2;go_ret;exact⟨by simp;omega,(G.refl _ _).alloc _⟩
theorem DN(a c d e:Int) (p:U):Calls T 97 #[l #[y K a,y K c,y K d,y K e]] p λq w'=>q=g (W (decide (0<=a/\a<=200/\0<=c/\c<=a/\0<=d/\d<=c/\0<=e/\e<=d)))/\G No p w':=by
 go_enter func97,ntmps97;go_wp2
 go_loopw [3,7] (λm j wr=>((j=y K 0/\m=y K 200)\/(j=y K 1/\m=y K a/\Hid (0<=a/\a<=200))\/(j=y K 2/\m=y K c/\Hid (0<=a/\a<=200/\0<=c/\c<=a))\/
  (j=y K 3/\m=y K d/\Hid (0<=a/\a<=200/\0<=c/\c<=a/\0<=d/\d<=c))\/(j=y K 4/\m=y K e/\Hid (0<=a/\a<=200/\0<=c/\c<=a/\0<=d/\d<=c/\0<=e/\e<=d)))/\
  wr=p.alloc (v #[y K a,y K c,y K d,y K e] 37)) (λ_ j _=>4 - (intOf j).toNat)
 case atStart=>exact⟨.inl ⟨rfl,rfl⟩,rfl⟩
 case round=>
  obtain⟨s,r⟩:=hrel;subst r;obtain⟨rfl,rfl⟩|⟨rfl,rfl,f⟩|⟨rfl,rfl,f⟩|⟨rfl,rfl,f⟩|⟨rfl,rfl,f⟩:=s
  ·by_cases n:a<0
   ·go_wp2;go_ret;exact⟨by simp;omega,(G.refl _ _).alloc _⟩
   by_cases o:a>200
   ·go_wp2;go_ret;exact⟨by simp;omega,(G.refl _ _).alloc _⟩
   ·go_wp2;go_roundw
    ·exact⟨.inr (.inl ⟨rfl,rfl,i (by omega)⟩),trivial⟩
    ·simp[intOf]
  ·by_cases n:c<0
   ·go_wp2;go_ret;exact⟨by simp;omega,(G.refl _ _).alloc _⟩
   by_cases o:c>a
   ·go_wp2;go_ret;exact⟨by simp;omega,(G.refl _ _).alloc _⟩
   ·go_wp2;go_roundw
    ·have:=k f;exact⟨.inr (.inr (.inl ⟨rfl,rfl,i (by omega)⟩)),trivial⟩
    ·simp[intOf]
  ·by_cases n:d<0
   ·go_wp2;go_ret;exact⟨by simp;omega,(G.refl _ _).alloc _⟩
   by_cases o:d>c
   ·go_wp2;go_ret;exact⟨by simp;omega,(G.refl _ _).alloc _⟩
   ·go_wp2;go_roundw
    ·have:=k f;exact⟨.inr (.inr (.inr (.inl ⟨rfl,rfl,i (by omega)⟩))),trivial⟩
    ·simp[intOf]
  ·by_cases n:e<0
   ·go_wp2;go_ret;exact⟨by simp;omega,(G.refl _ _).alloc _⟩
   by_cases o:e>d
   ·go_wp2;go_ret;exact⟨by simp;omega,(G.refl _ _).alloc _⟩
   ·go_wp2;go_roundw
    ·have:=k f;exact⟨.inr (.inr (.inr (.inr ⟨rfl,rfl,i (by omega)⟩))),trivial⟩
    ·simp[intOf]
  ·go_wp2;go_ret;have:=k f;exact⟨by simp;omega,(G.refl _ _).alloc _⟩
def kB(k:U) (e:Nat) (i c st f d j:Int):Prop:=
 ∀a,G No k a->(iO 162 (.map (E e)) (l #[y K i,y K c]) false).run T a=.ok (l #[y K st,y K f,y K d,y K j]) a
theorem bo.sees{k:U} {n:Nat} {p:O} {a:List B} {f:Nat} {es:List t} {i:Nat} (d:bo k n p a f es i) (j:L p a) (c:Nat) (hi:c<a.length):kB k f a[c].row a[c].P a[c].st a[c].pa a[c].cl a[c].un:=by
 intro m o;have q:=aM.wf.jd j hi;have hb:=aM.wf.bounds j;have e:=q.1;simp only[O.has,decide_eq_true_eq] at e;have:=rj m f es i (o.map d.map (λr=>r)) d.ok a[c].row a[c].P (by simp only at hb e;omega) (by simp only at hb e;omega);rw[d.rel.cQ c hi] at this;exact this
theorem rL(c d e f:V) (a:U):(Instr.field 199 (l #[c,d,e,f]) 0).run T a=.ok c a:=by kernel_rfl
attribute [local go_sem] rL
def dF(st a:Int):Int:=if st≠0 then 9 else if a=0 then 11 else 0
theorem DO(s z f:Nat) (ab:f<4) (cs:Array V) (o:N) (hc:o.cls=(f:Int)) (st R J S e:Int) (c:U) (p:X c s cs 164) (w:cs[7]? =E (.map (E z))) (x:cs[20+f]? =E (y K e)) (hs:kB c z o.j o.ac st R J S):Calls T 120 #[b (E ⟨s,0,F⟩),l (Q o)] c λL w'=>L=g (y K (dF st e))/\G No c w':=by
 obtain⟨kind,u,r,ac,D,B,A,Y,time,a⟩:=o;simp only at hc;subst hc;simp only at hs;unfold Q;simp only;have ae:=p.lt;have I:=p.cell 7;rw[w] at I;have H:=p.cell (20+f);rw[x] at H
 generalize M:(#[y K kind,y K u,y K r,y K ac,y K D,y K B,y K A,y K (f:Int),y K time,
  y K a.rows,y K a.w,y K a.front,y K a.I,y K a.R,y K a.n,y K a.f]:Array V)=t at *
 have aa:=λm=>hs ((c.alloc (v t 41)).drewN m) (((G.refl No c).alloc (v t 41)).drewN m);clear hs p w x;subst M;have ad:(f:Int)<4:=by omega
 have mw:∀m,G No c ((c.alloc (v #[y K kind,y K u,y K r,y K ac,y K D,y K B,y K A,y K (f:Int),y K time,
  y K a.rows,y K a.w,y K a.front,y K a.I,y K a.R,y K a.n,y K a.f] 41)).drewN m):=λm=>((G.refl No c).alloc _).drewN m
 have q:=i mw;clear mw;by_cases d:st=0
 ·have O:(st !=0)=false:=by simp[d]
  by_cases j:e=0
  ·have P:(e==0)=true:=by simp[j]
   have hS:dF st e=11:=by simp[dF,d,j]
   have n:=i hS;clear j d hS;go_enter func120,ntmps120;go_wp2_with fail;go_quiet (fail);go_wp2_with fail;go_quiet (fail);go_wp2;go_ret;exact⟨by rw[k n];rfl,((k q) _).drewN _⟩
  ·have P:(e==0)=false:=by simp[j]
   have hS:dF st e=0:=by simp[dF,d,j]
   have n:=i hS;clear j d hS;go_enter func120,ntmps120;go_wp2_with fail;go_quiet (fail);go_wp2_with fail;go_quiet (fail);go_wp2;go_ret;exact⟨by rw[k n];rfl,((k q) _).drewN _⟩
 ·have O:(st !=0)=true:=by simp[d]
  have hS:dF st e=9:=by simp[dF,d]
  have n:=i hS;clear d hS;go_enter func120,ntmps120;go_wp2_with fail;go_quiet (fail);go_wp2;go_ret;exact⟨by rw[k n];rfl,(k q) _⟩
def cC(st a c:Int):Int:=if ¬(st=1\/st=2) then 10 else if a≠c then 7 else 0
theorem DP(z L a:Nat) (cs:Array V) (c:N) (e q r:Int) (d:U) (t:X d z cs 164) (H:cs[7]? =E (.map (E L))) (hs:kB d L c.j c.ac a e q r):Calls T 121 #[b (E ⟨z,0,F⟩),l (Q c)] d λD w'=>D=g (y K (cC a e c.aI))/\G No d w':=by
 have ae:=t.lt;have A:=t.cell 7;rw[H] at A;have P:=hs (d.alloc (v (Q c) 41)).drew ((G.refl _ _).alloc _).drew;have R:=λx=>hs ((d.alloc (v (Q c) 41)).alloc x).drew (((G.refl No d).alloc _).alloc x).drew;unfold Q at *;clear hs t H;go_enter func121,ntmps121;go_wp2_with fail
 go_cut [5] (λab w=>ab=b (E ⟨d.heap.size+1,0,F⟩)/\Hid (G No d w)/\Hid (X w d.heap.size (Q c) 41)/\Hid (X w (d.heap.size+1) #[y K a,y K e,y K q,y K r] 199))
 case first=>
  go_region
  all_goals go_wp2
  all_goals go_meet
  all_goals (refine⟨rfl,(((G.refl No d).alloc _).alloc _).drew,((X.new d _ _).alloc _).drew,?_⟩;have:=X.new (d.alloc (v (Q c) 41)) #[y K a,y K e,y K q,y K r] 199;rw[bj] at this;exact this)
 case rest=>
  obtain⟨rfl,I,u,n⟩:=hcut;have M:=(k n).cell;have aa:=(k n).lt;have B:=(k u).cell;unfold Q at B;clear P R A;go_wp2_with fail;refine(tO a e q r _).mono ?_;rintro D w3 ⟨rfl,o⟩;have ad:=(o.has (k n) (λp=>p)).cell;have O:=(o.has (k u) (λp=>p)).cell;have af:=(o.has (k n) (λp=>p)).lt;unfold Q at O;have s:=i ((k I).trans o);clear o M B aa I u n;by_cases m:a=1\/a=2
  ·have S:decide (a=1\/a=2)=true:=by simp[m]
   have J:(a:Int)=1\/(a:Int)=2:=by omega
   by_cases f:e=c.aI
   ·have Y:(e !=c.aI)=false:=by simp[f]
    have j:=i (show cC a e c.aI=0 by unfold cC;rw[if_neg (by omega),if_neg (by simpa using f)]);clear m f J;go_wp2;go_ret;exact⟨by rw[k j];rfl,k s⟩
   ·have Y:(e !=c.aI)=true:=by simp[f]
    have j:=i (show cC a e c.aI=7 by unfold cC;rw[if_neg (by omega),if_pos f]);clear m f J;go_wp2;go_ret;exact⟨by rw[k j];rfl,k s⟩
  ·have S:decide (a=1\/a=2)=false:=by simp[m]
   have j:=i (show cC a e c.aI=10 by unfold cC;rw[if_pos (by omega)]);clear m;go_wp2;go_ret;exact⟨by rw[k j];rfl,k s⟩
def refuse(a:Int):V:=h #[.nilIface,y K a]
def cZ(a:V):V:=h #[a,y K 0]
def eM(e a st d c f:Int):V:=.iface 202 (l #[y K e,y K a,y K st,y K d,y K c,y K f])
def lE(c a:Int):V:=.iface 214 (l #[y K c,y K a])
def nQ(c a d c':Int):V:=.iface 216 (l #[y K c,y K a,y K d,y K c'])
def jf(p:O):V:=.iface 189 (eb p)
def my(a:Int):V:=.iface 159 (l #[y K a])
attribute [local go_sem] rL
theorem oY(p:Nat) (a c rows e:Int) (cs:Array V) (m:U) (j:X m p cs 164) (q:cs[0]? =E (y K rows)) (r:cs[1]? =E (y K e)):Calls T 99 #[b (E ⟨p,0,F⟩),l #[y K a,y K c]] m λx w'=>x=g (W (decide (1<=a/\a<=rows/\1<=c/\c<=e)))/\G No m w':=by
 have A:=j.lt;have u:=j.cell 0;rw[q] at u;have w:=j.cell 1;rw[r] at w;have f:=i (λz=>((G.refl No m).alloc (v #[y K a,y K c] 36)).drewN z);clear j q r;by_cases n:a>=1
 ·have d1:decide (a>=1)=true:=decide_eq_true n;by_cases s:a<=rows
  ·by_cases o:c>=1
   ·by_cases t:c<=e
    ·have d:=i (show decide (1<=a/\a<=rows/\1<=c/\c<=e)=true by simp;omega);go_enter func99,ntmps99;go_wp2_with fail;go_quiet (fail);go_wp2;go_ret;exact⟨by rw[k d];rfl,(k f) _⟩
    ·have d4:decide (c<=e)=false:=decide_eq_false t;have d:=i (show decide (1<=a/\a<=rows/\1<=c/\c<=e)=false by simp;omega);go_enter func99,ntmps99;go_wp2_with fail;go_quiet (fail);go_wp2;go_ret;exact⟨by rw[k d];rfl,(k f) _⟩
   ·have d4:decide (c>=1)=false:=decide_eq_false o;have d5:decide (1<=c)=false:=decide_eq_false o;have d:=i (show decide (1<=a/\a<=rows/\1<=c/\c<=e)=false by simp;omega);go_enter func99,ntmps99;go_wp2_with fail;go_quiet (fail);go_wp2;go_ret;exact⟨by rw[k d];rfl,(k f) _⟩
  ·have d4:decide (a<=rows)=false:=decide_eq_false s;have d:=i (show decide (1<=a/\a<=rows/\1<=c/\c<=e)=false by simp;omega);go_enter func99,ntmps99;go_wp2_with fail;go_quiet (fail);go_wp2;go_ret;exact⟨by rw[k d];rfl,(k f) _⟩
 ·have d4:decide (a>=1)=false:=decide_eq_false n;have d5:decide (1<=a)=false:=decide_eq_false n;have d:=i (show decide (1<=a/\a<=rows/\1<=c/\c<=e)=false by simp;omega);go_enter func99,ntmps99;go_wp2_with fail;go_quiet (fail);go_wp2;go_ret;exact⟨by rw[k d];rfl,(k f) _⟩
def iT(a:N) (now c sl:Int):V:=
 if c≠0 then refuse c else if a.time<=now\/a.time>now+100 then refuse 8 else if sl≠0 then refuse sl else cZ (eM a.j a.ac 1 a.aI a.cls a.time)
theorem DQ(H:Nat) (a:N) (now d sl:Int) (P:0<=now/\now<=4611686018427387000) (r:U) (I:∀o,G No r o->Calls T 119 #[l (Q a)] o λe w'=>e=g (y K d)/\G No o w') (hS:d=0->∀o,G No r o->Calls T 120 #[b (E ⟨H,0,F⟩),l (Q a)] o λe w'=>e=g (y K sl)/\G No o w'):Calls T 100 #[b (E ⟨H,0,F⟩),l (Q a),y K now] r λe w'=>e=g (iT a now d sl)/\G No r w':=by
 have R:K.wrap (now+100)=now+100:=aB _ (by omega) (by omega);have t:=i I;have B:=i hS;have f:=i ((G.refl No r).alloc (v (Q a) 41));have s:=i (X.new r (Q a) 41);unfold Q at t B f s ⊢;clear I hS;by_cases p:d=0
 ·have d1:(d !=0)=false:=by simp[p]
  have u:=i p;clear p;by_cases L:a.time<=now
  ·have m:=i (show iT a now d sl=refuse 8 by unfold iT;rw[if_neg (by simpa using k u),if_pos (.inl L)]);go_enter func100,ntmps100;go_wp2_with fail;refine((k t) _ (k f)).mono ?_;rintro e A ⟨rfl,c⟩;have x:=(c.has (k s) (λj=>j)).cell;have n:=i ((k f).trans c);clear c;go_wp2;go_ret2;exact⟨by rw[k m];rfl,k n⟩
  ·by_cases M:a.time>now+100
   ·have m:=i (show iT a now d sl=refuse 8 by unfold iT;rw[if_neg (by simpa using k u),if_pos (.inr M)]);go_enter func100,ntmps100;go_wp2_with fail;refine((k t) _ (k f)).mono ?_;rintro e A ⟨rfl,c⟩;have x:=(c.has (k s) (λj=>j)).cell;have n:=i ((k f).trans c);clear c;go_wp2;go_ret2;exact⟨by rw[k m];rfl,k n⟩
   ·have m:=i (show iT a now d sl=if sl≠0 then refuse sl else cZ (eM a.j a.ac 1 a.aI a.cls a.time) by unfold iT;rw[if_neg (by simpa using k u),if_neg (by omega)]);go_enter func100,ntmps100;go_wp2_with fail;refine((k t) _ (k f)).mono ?_;rintro e A ⟨rfl,c⟩;have x:=(c.has (k s) (λj=>j)).cell;have n:=i ((k f).trans c);have J:=i (c.has (k s) (λj=>j));clear c;go_wp2_with fail
    refine((k B) (k u) _ (k n)).mono ?_;rintro e S ⟨rfl,z⟩;have O:=(z.has (k J) (λj=>j)).cell;have D:=i ((k n).trans z);clear z x;by_cases q:sl=0
    ·have d4:(sl !=0)=false:=by simp[q]
     have w:=i (show iT a now d sl=cZ (eM a.j a.ac 1 a.aI a.cls a.time) by rw[k m,if_neg (by simpa using q)]);clear q;go_wp2;go_ret2;exact⟨by rw[k w];rfl,k D⟩
    ·have d4:(sl !=0)=true:=by simp[q]
     have w:=i (show iT a now d sl=refuse sl by rw[k m,if_pos q]);clear q;go_wp2;go_ret2;exact⟨by rw[k w];rfl,k D⟩
 ·have d1:(d !=0)=true:=by simp[p]
  have m:=i (show iT a now d sl=refuse d by unfold iT;rw[if_pos p]);clear p;go_enter func100,ntmps100;go_wp2_with fail;refine((k t) _ (k f)).mono ?_;rintro e A ⟨rfl,c⟩;have n:=i ((k f).trans c);clear c;go_wp2;go_ret2;exact⟨by rw[k m];rfl,k n⟩
attribute [local go_sem] rL
theorem kB.on{j w':U} {d:Nat} {f a st e c i:Int} (m:kB j d f a st e c i) (o:G No j w'):kB w' d f a st e c i:=λk n=>m k (o.trans n)
def mD(a:N) (c:Int):V:=if c≠0 then refuse c else cZ (lE a.j a.ac)
theorem DR(s:Nat) (a:N) (c:Int) (m:U) (t:∀q,G No m q->Calls T 121 #[b (E ⟨s,0,F⟩),l (Q a)] q λj w'=>j=g (y K c)/\G No q w'):Calls T 102 #[b (E ⟨s,0,F⟩),l (Q a)] m λj w'=>j=g (mD a c)/\G No m w':=by
 have n:=i t;have f:=i ((G.refl No m).alloc (v (Q a) 41));have r:=i (X.new m (Q a) 41);unfold Q at n f r ⊢;clear t;by_cases d:c=0
 ·have d1:(c !=0)=false:=by simp[d]
  have o:=i (show mD a c=cZ (lE a.j a.ac) by unfold mD;rw[if_neg (by simpa using d)]);clear d;go_enter func102,ntmps102;go_wp2_with fail;refine((k n) _ (k f)).mono ?_;rintro j u ⟨rfl,e⟩;have x:=(e.has (k r) (λw=>w)).cell;have p:=i ((k f).trans e);clear e;go_wp2;go_ret2;exact⟨by rw[k o];rfl,k p⟩
 ·have d1:(c !=0)=true:=by simp[d]
  have o:=i (show mD a c=refuse c by unfold mD;rw[if_pos d]);clear d;go_enter func102,ntmps102;go_wp2_with fail;refine((k n) _ (k f)).mono ?_;rintro j u ⟨rfl,e⟩;have p:=i ((k f).trans e);clear e;go_wp2;go_ret2;exact⟨by rw[k o];rfl,k p⟩
def kC(a:N) (c st:Int):V:=if c≠0 then refuse c else if st≠0 then refuse 9 else cZ (nQ a.j a.ac a.bN a.bO)
theorem DS(u D:Nat) (cs:Array V) (a:N) (c st P M R:Int) (j:U) (A:X j u cs 164) (O:cs[7]? =E (.map (E D))) (hs:c=0->kB j D a.bN a.bO st P M R) (B:∀t,G No j t->Calls T 121 #[b (E ⟨u,0,F⟩),l (Q a)] t λn w'=>n=g (y K c)/\G No t w'):Calls T 103 #[b (E ⟨u,0,F⟩),l (Q a)] j λn w'=>n=g (kC a c st)/\G No j w':=by
 have r:=i B;have J:=i A;have q:=i hs;have e:=i ((G.refl No j).alloc (v (Q a) 41));have z:=i (X.new j (Q a) 41);unfold Q at r e z ⊢;clear B A hs;by_cases f:c=0
 ·have d1:(c !=0)=false:=by simp[f]
  have hs:=k q f;have q:=i hs;have o:=i (show kC a c st=if st≠0 then refuse 9 else cZ (nQ a.j a.ac a.bN a.bO) by unfold kC;rw[if_neg (by simpa using f)]);clear f hs;go_enter func103,ntmps103;go_wp2_with fail;refine((k r) _ (k e)).mono ?_;rintro n I ⟨rfl,d⟩;have S:=(d.has (k z) (λx=>x)).cell;have w:=((k e).trans d).has (k J) (λx=>x);have aa:=w.lt;have L:=w.cell 7;rw[O] at L
  have Y:=λH=>(k q) (I.drewN H) (((k e).trans d).drewN H);have p:=i ((k e).trans d);clear d w;by_cases m:st=0
  ·have d2:(st !=0)=false:=by simp[m]
   have s:=i (show kC a c st=cZ (nQ a.j a.ac a.bN a.bO) by rw[k o,if_neg (by simpa using m)]);clear m;go_wp2_with fail;go_quiet (fail);go_wp2;go_ret2;exact⟨by rw[k s];rfl,(k p).drewN _⟩
  ·have d2:(st !=0)=true:=by simp[m]
   have s:=i (show kC a c st=refuse 9 by rw[k o,if_pos m]);clear m;go_wp2_with fail;go_quiet (fail);go_wp2;go_ret2;exact⟨by rw[k s];rfl,(k p).drewN _⟩
 ·have d1:(c !=0)=true:=by simp[f]
  have o:=i (show kC a c st=refuse c by unfold kC;rw[if_pos f]);clear f;go_enter func103,ntmps103;go_wp2_with fail;refine((k r) _ (k e)).mono ?_;rintro n I ⟨rfl,d⟩;have p:=i ((k e).trans d);clear d;go_wp2;go_ret2;exact⟨by rw[k o];rfl,k p⟩
def mE(a:N) (st:Int):V:=if st≠0 then refuse 9 else cZ (eM a.j a.ac 3 0 0 0)
def mF(a:N) (st:Int):V:=if st≠3 then refuse 10 else cZ (lE a.j a.ac)
theorem DT(m o:Nat) (cs:Array V) (a:N) (st u r w:Int) (c:U) (j:X c m cs 164) (n:cs[7]? =E (.map (E o))) (hs:kB c o a.j a.ac st u r w):Calls T 104 #[b (E ⟨m,0,F⟩),l (Q a)] c λs w'=>s=g (mE a st)/\G No c w':=by
 have x:=j.lt;have q:=j.cell 7;rw[n] at q;have t:=λp=>hs ((c.alloc (v (Q a) 41)).drewN p) (((G.refl No c).alloc _).drewN p);have f:=i ((G.refl No c).alloc (v (Q a) 41));unfold Q at t f ⊢;clear j hs n;by_cases d:st=0
 ·have d2:(st !=0)=false:=by simp[d]
  have e:=i (show mE a st=cZ (eM a.j a.ac 3 0 0 0) by unfold mE;rw[if_neg (by simpa using d)]);clear d;go_enter func104,ntmps104;go_wp2_with fail;go_quiet (fail);go_wp2;go_ret2;exact⟨by rw[k e];rfl,(k f).drewN _⟩
 ·have d2:(st !=0)=true:=by simp[d]
  have e:=i (show mE a st=refuse 9 by unfold mE;rw[if_pos d]);clear d;go_enter func104,ntmps104;go_wp2_with fail;go_quiet (fail);go_wp2;go_ret2;exact⟨by rw[k e];rfl,(k f).drewN _⟩
theorem DU(m o:Nat) (cs:Array V) (a:N) (st u r w:Int) (c:U) (j:X c m cs 164) (n:cs[7]? =E (.map (E o))) (hs:kB c o a.j a.ac st u r w):Calls T 105 #[b (E ⟨m,0,F⟩),l (Q a)] c λs w'=>s=g (mF a st)/\G No c w':=by
 have x:=j.lt;have q:=j.cell 7;rw[n] at q;have t:=λp=>hs ((c.alloc (v (Q a) 41)).drewN p) (((G.refl No c).alloc _).drewN p);have f:=i ((G.refl No c).alloc (v (Q a) 41));unfold Q at t f ⊢;clear j hs n;by_cases d:st=3
 ·have d2:(st !=3)=false:=by simp[d]
  have e:=i (show mF a st=cZ (lE a.j a.ac) by unfold mF;rw[if_neg (by simpa using d)]);clear d;go_enter func105,ntmps105;go_wp2_with fail;go_quiet (fail);go_wp2;go_ret2;exact⟨by rw[k e];rfl,(k f).drewN _⟩
 ·have d2:(st !=3)=true:=by simp[d]
  have e:=i (show mF a st=refuse 10 by unfold mF;rw[if_pos d]);clear d;go_enter func105,ntmps105;go_wp2_with fail;go_quiet (fail);go_wp2;go_ret2;exact⟨by rw[k e];rfl,(k f).drewN _⟩
set_option maxHeartbeats 2000000
def gB(a:N) (c st e d sl:Int):V:=
 if c≠0 then refuse c else if st=1/\e=a.aI/\d=a.cls then cZ (eM a.j a.ac 2 a.aI a.cls 0) else if sl≠0 then refuse sl else cZ (eM a.j a.ac 2 a.aI a.cls 0)
theorem DV(aa ak:Nat) (cs:Array V) (a:N) (d sl st f e am:Int) (p:U) (x:X p aa cs 164) (aw:cs[7]? =E (.map (E ak))) (hs:kB p ak a.j a.ac st f e am) (ai:∀z,G No p z->Calls T 119 #[l (Q a)] z λo w'=>o=g (y K d)/\G No z w') (hS:d=0->∀z,G No p z->Calls T 120 #[b (E ⟨aa,0,F⟩),l (Q a)] z λo w'=>o=g (y K sl)/\G No z w'):
  Calls T 101 #[b (E ⟨aa,0,F⟩),l (Q a)] p λo w'=>o=g (gB a d st f e sl)/\G No p w':=by
 have R:=i ai;have M:=i hS;have aq:=i x;have af:=i hs;have t:=i ((G.refl No p).alloc (v (Q a) 41));have ae:=i (X.new p (Q a) 41);unfold Q at R M t ae ⊢;clear ai hS x hs;by_cases B:d=0
 ·have d1:(d !=0)=false:=by simp[B]
  have S:=i B;have H:=i (show gB a d st f e sl=if st=1/\f=a.aI/\e=a.cls then cZ (eM a.j a.ac 2 a.aI a.cls 0) else if sl≠0 then refuse sl else cZ (eM a.j a.ac 2 a.aI a.cls 0) by unfold gB;rw[if_neg (by simpa using B)]);clear B;go_enter func101,ntmps101;go_wp2_with fail;refine((k R) _ (k t)).mono ?_;rintro o J ⟨rfl,r⟩;have q:=r.has (k ae) (λs=>s);have O:=q.cell;have aA:=q.lt
  have ab:=((k t).trans r).has (k aq) (λs=>s);have aC:=ab.lt;have ah:=ab.cell 7;rw[aw] at ah;have ax:=(k af) J.drew ((k t).trans r).drew;have ay:=λag=>(k af) (J.alloc ag).drew (((k t).trans r).alloc ag).drew;have Y:=i ((k t).trans r);have ap:=i q;clear r ab q;go_wp2_with fail
  go_cut [7] (λaB ad=>aB=b (E ⟨J.heap.size,0,F⟩)/\Hid (G No p ad)/\Hid (X ad p.heap.size (Q a) 41)/\Hid (X ad J.heap.size #[y K st,y K f,y K e,y K am] 199))
  case first=>
   go_region
   all_goals go_wp2
   all_goals go_meet
   all_goals exact⟨rfl,((k Y).alloc _).drew,((k ap).alloc _).drew,(X.new J _ _).drew⟩
  case rest=>
   obtain⟨rfl,D,q,aj⟩:=hcut;have O:=(k aj).cell;have aA:=(k aj).lt;have P:=(k q).cell;unfold Q at P;clear ax ay ah;by_cases w:st=1
   ·have ar:(st==1)=true:=by simp[w]
    by_cases A:f=a.aI
    ·have au:(f==a.aI)=true:=by simp[A]
     by_cases I:e=a.cls
     ·have av:(e==a.cls)=true:=by simp[I]
      have n:=i (show gB a d st f e sl=cZ (eM a.j a.ac 2 a.aI a.cls 0) by rw[k H,if_pos ⟨w,A,I⟩]);clear w A I;go_wp2;go_ret2;exact⟨by rw[k n];rfl,k D⟩
     ·have av:(e==a.cls)=false:=by simp[I]
      have n:=i (show gB a d st f e sl=if sl≠0 then refuse sl else cZ (eM a.j a.ac 2 a.aI a.cls 0) by rw[k H,if_neg (λx=>I x.2.2)]);clear w A I;go_wp2_with fail;refine((k M) (k S) _ (k D)).mono ?_;rintro o ao ⟨rfl,m⟩;have L:=(m.has (k q) (λs=>s)).cell;have u:=i ((k D).trans m);clear m P O;unfold Q at L;by_cases c:sl=0
      ·have d4:(sl !=0)=false:=by simp[c]
       have j:=i (show gB a d st f e sl=cZ (eM a.j a.ac 2 a.aI a.cls 0) by rw[k n,if_neg (by simpa using c)]);clear c;go_wp2;go_ret2;exact⟨by rw[k j];rfl,k u⟩
      ·have d4:(sl !=0)=true:=by simp[c]
       have j:=i (show gB a d st f e sl=refuse sl by rw[k n,if_pos c]);clear c;go_wp2;go_ret2;exact⟨by rw[k j];rfl,k u⟩
    ·have au:(f==a.aI)=false:=by simp[A]
     have n:=i (show gB a d st f e sl=if sl≠0 then refuse sl else cZ (eM a.j a.ac 2 a.aI a.cls 0) by rw[k H,if_neg (λx=>A x.2.1)]);clear w A;go_wp2_with fail;refine((k M) (k S) _ (k D)).mono ?_;rintro o ao ⟨rfl,m⟩;have L:=(m.has (k q) (λs=>s)).cell;have u:=i ((k D).trans m);clear m P O;unfold Q at L;by_cases c:sl=0
     ·have d4:(sl !=0)=false:=by simp[c]
      have j:=i (show gB a d st f e sl=cZ (eM a.j a.ac 2 a.aI a.cls 0) by rw[k n,if_neg (by simpa using c)]);clear c;go_wp2;go_ret2;exact⟨by rw[k j];rfl,k u⟩
     ·have d4:(sl !=0)=true:=by simp[c]
      have j:=i (show gB a d st f e sl=refuse sl by rw[k n,if_pos c]);clear c;go_wp2;go_ret2;exact⟨by rw[k j];rfl,k u⟩
   ·have ar:(st==1)=false:=by simp[w]
    have n:=i (show gB a d st f e sl=if sl≠0 then refuse sl else cZ (eM a.j a.ac 2 a.aI a.cls 0) by rw[k H,if_neg (λx=>w x.1)]);clear w;go_wp2_with fail;refine((k M) (k S) _ (k D)).mono ?_;rintro o ao ⟨rfl,m⟩;have L:=(m.has (k q) (λs=>s)).cell;have u:=i ((k D).trans m);clear m P O;unfold Q at L;by_cases c:sl=0
    ·have d4:(sl !=0)=false:=by simp[c]
     have j:=i (show gB a d st f e sl=cZ (eM a.j a.ac 2 a.aI a.cls 0) by rw[k n,if_neg (by simpa using c)]);clear c;go_wp2;go_ret2;exact⟨by rw[k j];rfl,k u⟩
    ·have d4:(sl !=0)=true:=by simp[c]
     have j:=i (show gB a d st f e sl=refuse sl by rw[k n,if_pos c]);clear c;go_wp2;go_ret2;exact⟨by rw[k j];rfl,k u⟩
 ·have d1:(d !=0)=true:=by simp[B]
  have H:=i (show gB a d st f e sl=refuse d by unfold gB;rw[if_pos B]);clear B;go_enter func101,ntmps101;go_wp2_with fail;refine((k R) _ (k t)).mono ?_;rintro o J ⟨rfl,r⟩;have Y:=i ((k t).trans r);clear r;go_wp2;go_ret2;exact⟨by rw[k H];rfl,k Y⟩
def rM(p:O):V:=if p.sized=true/\p.limited=true then cZ (jf p) else refuse 4
theorem xB(p:O) (m:U):Calls T 76 #[eb p] m λj w'=>j=g (rM p)/\G No m w':=by
 have f:=i λr=>xA p r;have n:=i λr=>DN p.I p.R p.n p.f r;have hl:p.limited=decide (0<=p.I/\p.I<=200/\0<=p.R/\p.R<=p.I/\0<=p.n/\p.n<=p.R/\0<=p.f/\p.f<=p.n):=rfl;rw[<-hl] at n;clear hl;have w:=i (show ∀c a,p.sized=c->p.limited=a->rM p=if c=true/\a=true then cZ (jf p) else refuse 4 by rintro c a rfl rfl;rfl);unfold eb at f ⊢;obtain⟨c,hs⟩:∃c,p.sized=c:=⟨_,rfl⟩;obtain⟨a,s⟩:∃a,p.limited=a:=⟨_,rfl⟩
 rw[hs] at f;rw[s] at n;have x:=i ((G.refl No m).alloc (v #[y K p.rows,y K p.w,y K p.front,y K p.I,y K p.R,y K p.n,y K p.f] 39));have u:=i (X.new m #[y K p.rows,y K p.w,y K p.front,y K p.I,y K p.R,y K p.n,y K p.f] 39);have o:=i ((k w) c a hs s);clear hs s w
 cases c with
 |false=>
  go_enter func76,ntmps76;go_wp2_with fail;refine((k f) _).mono ?_;rintro j D ⟨rfl,d⟩;have q:=i ((k x).trans d);clear d;go_wp2;go_ret2;exact⟨by rw[k o,if_neg (by simp)];rfl,k q⟩
 |true=>
  go_enter func76,ntmps76;go_wp2_with fail;refine((k f) _).mono ?_;rintro j D ⟨rfl,d⟩;have B:=(d.has (k u) (λe=>e)).cell;have q:=i ((k x).trans d);have A:=i (d.has (k u) (λe=>e));clear d;go_wp2_with fail;refine((k n) _).mono ?_;rintro j I ⟨rfl,t⟩;have H:=(t.has (k A) (λe=>e)).cell;have z:=i ((k q).trans t);clear t B
  cases a with
  |true=>
   go_wp2;go_ret2;exact⟨by rw[k o,if_pos (by simp)];rfl,k z⟩
  |false=>
   go_wp2;go_ret2;exact⟨by rw[k o,if_neg (by simp)];rfl,k z⟩
def ba(a:List B):Nat:=a.countP λc=>c.st !=0
def jU(d:O) (c:List B) (a:B):List B:=if a.st≠0/\d.has a.row a.P=true then c.set (d.idx a.row a.P) a else c
def stay(a:O) (c:List B):List B:=c.foldl (jU a) (q a)
def aQ(d:O) (c:List B):List B:=c.filter λa=>a.st !=0&& !d.has a.row a.P
def firstFree(a:List B):Nat:=a.findIdx λc=>c.st==0
def B.at(a c:B):B:=⟨c.row,c.P,a.st,a.pa,a.cl,a.un⟩
def bQ(a:List B) (c:B):List B:=a.set (firstFree a) (B.at c (a.getD (firstFree a) jc))
def eY(c:O) (a:List B):List B:=(aQ c a).foldl bQ (stay c a)
def eN(p a:O):O:=⟨a.rows,a.w,a.front,p.I,p.R,p.n,p.f,fI p.ep⟩
theorem xC{c d:B} (a:c.wf):(B.at c d).wf:=⟨a.kW,a.s1,a.kX,a.c1,a.bare,a.pa,a.un,a.qZ⟩
structure lF (q:O) (l acc:List B) (i:Nat):Prop where
 wf:L q acc
 from_:∀j (h:j<acc.length),acc[j].st≠0->∃k,∃hk:k<l.length,k<i/\l[k].row=acc[j].row/\l[k].P=acc[j].P
 count:ba acc+(aQ q (l.take i)).length=ba (l.take i)
theorem lF.start{p a:O} (e:List B) (c:a.sized=true) (d:a.limited=true):lF a e (q a) 0:=by
 refine⟨ly c d,λj f hs=>?_,?_⟩
 ·simp[q] at hs
 ·have:ba (q a)=0:=by
   unfold ba;rw[List.countP_eq_zero];intro k hs;simp only[q,List.mem_map] at hs;obtain⟨i,_,rfl⟩:=hs;simp
  rw[this];rfl
theorem take_succ{e:Type} (c:List e) (a:Nat) (d:a<c.length):c.take (a+1)=c.take a++[c[a]]:=by
 rw[lq,cK d];rfl
theorem xD{a:List B} {j:Nat} (d:j<a.length) (c:B) (e:a[j].st=0) (hs:c.st≠0):ba (a.set j c)=ba a+1:=by
 have:=countP_set (λc:B=>c.st !=0) a j d c;simp[e,hs] at this;unfold ba;omega
theorem lF.free{p d:O} {a e:List B} {c:Nat} (f:lF d a e c) (r:L p a) (hi:c<a.length) (m:d.has a[c].row a[c].P=true):∃i:d.idx a[c].row a[c].P<e.length,e[d.idx a[c].row a[c].P].st=0/\e[d.idx a[c].row a[c].P].row=a[c].row/\e[d.idx a[c].row a[c].P].P=a[c].P:=by
 have i:d.idx a[c].row a[c].P<e.length:=aM.wf.gV f.wf m;have j:=aM.wf.nF f.wf m;refine⟨i,?_,j⟩;by_cases k:e[d.idx a[c].row a[c].P].st=0
 ·exact k
 ·obtain⟨t,q,s,n,o⟩:=f.from_ _ i k;have:=r.tM q hi (by rw[n];exact j.1) (by rw[o];exact j.2);omega
theorem lF.step{p e:O} {c m:List B} {a:Nat} (f:lF e c m a) (x:L p c) (hi:a<c.length):lF e c (jU e m c[a]) (a+1):=by
 have hs:=x.cQ _ (dD hi);have I:=f.count;have w:ba (c.take (a+1))=ba (c.take a)+(if c[a].st≠0 then 1 else 0):=by
  rw[take_succ c a hi];unfold ba;rw[nL];by_cases d:c[a].st=0<;>simp[d]
 have u:(aQ e (c.take (a+1))).length=(aQ e (c.take a)).length+(if c[a].st≠0/\¬e.has c[a].row c[a].P=true then 1 else 0):=by
  rw[take_succ c a hi];unfold aQ;rw[List.filter_append,aJ];congr 1;by_cases d:c[a].st=0
  ·simp[d]
  ·cases hb:e.has c[a].row c[a].P<;>simp[d,hb]
 unfold jU;by_cases hc:c[a].st≠0/\e.has c[a].row c[a].P=true
 ·rw[if_pos hc];obtain⟨k,f0,A,z⟩:=f.free x hi hc.2;refine⟨f.wf.set k hs A.symm z.symm,λj D i=>?_,?_⟩
  ·have G:j<m.length:=by simpa using D
   simp only[mi] at i ⊢;by_cases t:e.idx c[a].row c[a].P=j
   ·rw[if_pos t];exact⟨a,hi,by omega,rfl,rfl⟩
   ·rw[if_neg t] at i ⊢;obtain⟨r,q,H,n,o⟩:=f.from_ j G i;exact⟨r,q,by omega,n,o⟩
  ·rw[xD k c[a] f0 hc.1,w,u,if_pos hc.1,if_neg (λs=>s.2 hc.2)];omega
 ·rw[if_neg hc];refine⟨f.wf,λj k i=>?_,?_⟩
  ·obtain⟨r,q,H,n,o⟩:=f.from_ j k i;exact⟨r,q,by omega,n,o⟩
  ·rw[w,u];by_cases d:c[a].st=0
   ·rw[if_neg (by simp[d]),if_neg (by simp[d])];omega
   ·have:¬e.has c[a].row c[a].P=true:=λs=>hc ⟨d,s⟩;rw[if_pos d,if_pos ⟨d,this⟩];omega
theorem mG(d:O) (c:List B) (a:Nat) (hi:a<c.length):stay d (c.take (a+1))=jU d (stay d (c.take a)) c[a]:=by
 rw[take_succ c a hi];unfold stay;rw[List.foldl_append];rfl
theorem kD(d:O) (c:List B) (a:Nat) (hi:a<c.length):aQ d (c.take (a+1))=aQ d (c.take a)++(if c[a].st≠0/\¬d.has c[a].row c[a].P=true then[c[a]] else[]):=by
 rw[take_succ c a hi];unfold aQ;rw[List.filter_append];congr 1;by_cases e:c[a].st=0
 ·simp[e]
 ·cases hb:d.has c[a].row c[a].P<;>simp[e,hb]
theorem qj{p d:O} {c:List B} (i:L p c) (e:d.sized=true) (f:d.limited=true):∀a,a<=c.length->lF d c (stay d (c.take a)) a
 |0,_=>lF.start (p:=p) c e f
 |a+1,j=>by
  rw[mG d c a (by omega)];exact(qj i e f a (by omega)).step i (by omega)
structure gY (q:O) (acc:List B) (n:Nat):Prop where
 wf:L q acc
 room:ba acc+n<=acc.length
theorem rN{j:O} {a:List B} {n:Nat} (f:gY j a (n+1)):firstFree a<a.length:=by
 unfold firstFree;rw[List.findIdx_lt_length];by_cases d:∃c∈a,(c.st==0)=true
 ·exact d
 ·exfalso;have:ba a=a.length:=by
   unfold ba;rw[List.countP_eq_length];intro c i;have:¬(c.st==0)=true:=λe=>d ⟨c,i,e⟩;simpa using this
  have:=f.room;omega
theorem rO{a:List B} (c:firstFree a<a.length):a[firstFree a].st=0:=by
 have:=List.findIdx_getElem (p:=λd:B=>d.st==0) (w:=c);simp only[beq_iff_eq] at this;exact this
theorem DW{a:List B} {j:Nat} (c:j<firstFree a) (hl:j<a.length):a[j].st≠0:=by
 have:=List.not_of_lt_findIdx (p:=λd:B=>d.st==0) (xs:=a) (i:=j) c;simpa using this
theorem gY.step{f:O} {a:List B} {e:Nat} (c:gY f a (e+1)) {d:B} (hs:d.wf) (j:d.st≠0):gY f (bQ a d) e:=by
 have hl:=rN c;have i:a.getD (firstFree a) jc=a[firstFree a]:=by
  rw[nT,cK hl];rfl
 unfold bQ;rw[i];refine⟨c.wf.set hl (xC hs) rfl rfl,?_⟩;rw[xD hl _ (rO hl) (by exact j),iU];have:=c.room;omega
theorem qk{p q:O} {c:List B} (d:L p c):∀a∈aQ q c,a.wf/\a.st≠0:=by
 intro a hs;unfold aQ at hs;rw[List.mem_filter] at hs;refine⟨d.cQ a hs.1,?_⟩;have:=hs.2;simp only[kY] at this;simpa using this.1
theorem rP{p a:O} {c:List B} (i:L p c) (e:a.sized=true) (f:a.limited=true) (j:¬a.rows* a.w<(ba c:Int)):gY a (stay a c) (aQ a c).length:=by
 have d:=qj i e f c.length (bK _);rw[eA] at d;refine⟨d.wf,?_⟩;have hc:=d.count;rw[eA] at hc;have hl:=d.wf.len;simp only at hl;omega
theorem xE{f:O}:∀(hs:List B) (c:List B),(∀a∈hs,a.wf/\a.st≠0)->gY f c hs.length->L f (hs.foldl bQ c)
 |[],c,_,d=>d.wf
 |a::hs,c,e,d=>by
  rw[kE];exact xE hs _ (λj i=>e j (oM _ i)) (gY.step d (e a (nG)).1 (e a (nG)).2)
theorem uq{p q:O} {a:List B} (c:L p a) (d:q.sized=true) (e:q.limited=true) (f:¬q.rows* q.w<(ba a:Int)):L q (eY q a):=
 xE _ _ (qk c) (rP c d e f)
def mH(a:O):V:=.iface 212 (l #[y K a.rows,y K a.w,y K a.front])
def qm(a:O) (c:Nat):V:=if a.sized=true/\¬(a.rows* a.w<(c:Int)) then cZ (mH a) else refuse 4
theorem DX(a:U) (d e:Nat) (c:List t) (f:a.heap[d]? =E (bH c e)) (ty:TypeId):(Builtin.len_ #[162] ty #[.map (E d)]).run T a=.ok (y K (c.length:Nat)) a:=by
 unfold bH at f;have i:(getObj d).run T a=.ok (.map (c.map t.obj).toArray e) a:=by simp[getObj,Sem.run,f]
 simp[Builtin.len_,run_underlying ld,i,goInt]
theorem DY(t q:Nat) (cs:Array V) (a:O) (j:Nat) (c:U) (u:X c t cs 164) (w:cs[7]? =E (.map (E q))) (hlen:∀o,G No c o->∀ty,(Builtin.len_ #[162] ty #[.map (E q)]).run T o=.ok (y K (j:Nat)) o) (p:a.sized=true->K.wrap (a.rows* a.w)=a.rows* a.w):Calls T 98 #[b (E ⟨t,0,F⟩),eb a] c λH w'=>H=g (qm a j)/\G No c w':=by
 have m:=i λo=>xA a o;have z:=i (show ∀f,a.sized=f->qm a j=if f=true/\¬(a.rows* a.w<(j:Int)) then cZ (mH a) else refuse 4 by rintro f rfl;rfl);unfold eb at m ⊢;obtain⟨f,hs⟩:∃f,a.sized=f:=⟨_,rfl⟩;rw[hs] at m p;have s:=i ((k z) f hs);have B:=i u;have n:=i ((G.refl No c).alloc (v #[y K a.rows,y K a.w,y K a.front,y K a.I,y K a.R,y K a.n,y K a.f] 39))
 have x:=i (X.new c #[y K a.rows,y K a.w,y K a.front,y K a.I,y K a.R,y K a.n,y K a.f] 39);have D:=i hlen;have M:=u.lt;clear hs z hlen u;have hb:∀(d:ft (c.alloc (v #[y K a.rows,y K a.w,y K a.front,y K a.I,y K a.R,y K a.n,y K a.f] 39))) (J:Nat),d.W.cell? ⟨c.heap.size,J,F⟩=_:=(k x).wd
 have w:∀d:ft (c.alloc (v #[y K a.rows,y K a.w,y K a.front,y K a.I,y K a.R,y K a.n,y K a.f] 39)),d.W.cell? ⟨t,7,F⟩=E (.map (E q)):=λd=>by
  rw[((k n).has (k B) (λd=>d)).wd d 7,w]
 have I:∀(d:ft (c.alloc (v #[y K a.rows,y K a.w,y K a.front,y K a.I,y K a.R,y K a.n,y K a.f] 39))) ty,(Builtin.len_ #[162] ty #[.map (E q)]).run T d.W=.ok (y K (j:Nat)) d.W:=λd ty=>(k D) _ ((k n).trans d.h) ty;have N:=rF (c.alloc (v #[y K a.rows,y K a.w,y K a.front,y K a.I,y K a.R,y K a.n,y K a.f] 39))
 cases f with
 |false=>
  clear p w I;go_enter func98,ntmps98;go_wp2_with fail;refine nO (w0:=(c.alloc (v #[y K a.rows,y K a.w,y K a.front,y K a.I,y K a.R,y K a.n,y K a.f] 39))) (by kernel_rfl) (by kernel_rfl) (G.refl _ _) ?_
  repeat (go_big_quiet_step ((go_at_call 96;exact Calls.wd _ ((k m) _))))
  refine wpQuiet_nil ?_;rintro w3 ⟨⟨_,e⟩,rfl⟩;go_wp2;go_ret2;exact⟨by rw[k s,if_neg (by simp)];rfl,(k n).trans e⟩
 |true=>
  have p:=p rfl;by_cases hd:a.rows* a.w<(j:Int)
  ·have r:=i hd;go_enter func98,ntmps98;go_wp2_with fail;refine nO (w0:=(c.alloc (v #[y K a.rows,y K a.w,y K a.front,y K a.I,y K a.R,y K a.n,y K a.f] 39))) (by kernel_rfl) (by kernel_rfl) (G.refl _ _) ?_
   repeat (go_big_quiet_step ((go_at_call 96;exact Calls.wd _ ((k m) _))))
   refine wpQuiet_nil ?_;rintro w3 ⟨⟨_,e⟩,rfl⟩;go_wp2;go_ret2;exact⟨by rw[k s,if_neg (by have:=k r;omega)];rfl,(k n).trans e⟩
  ·have r:=i hd;have A:=i λ(w3:U) (e:G No (c.alloc (v #[y K a.rows,y K a.w,y K a.front,y K a.I,y K a.R,y K a.n,y K a.f] 39)) w3)=>(e.has (k x) (λd=>d));go_enter func98,ntmps98;go_wp2_with fail;refine nO (w0:=(c.alloc (v #[y K a.rows,y K a.w,y K a.front,y K a.I,y K a.R,y K a.n,y K a.f] 39))) (by kernel_rfl) (by kernel_rfl) (G.refl _ _) ?_
   repeat (go_big_quiet_step ((go_at_call 96;exact Calls.wd _ ((k m) _))))
   refine wpQuiet_nil ?_;rintro w3 ⟨⟨_,e⟩,rfl⟩;have L:=((k A) w3 e).cell;go_wp2;go_ret2;exact⟨by rw[k s,if_pos (by have:=k r;simp;omega)];rfl,(k n).trans e⟩
theorem DZ(m:Nat) (c:N) (now:Int) (p q:V) (n:c.kind=9) (e:U) (hS:∀f,G No e f->Calls T 98 #[b (E ⟨m,0,F⟩),eb c.p] f λd w'=>d=g (h #[p,q])/\G No f w'):Calls T 77 #[b (E ⟨m,0,F⟩),l (Q c),y K now] e λd w'=>d=g (h #[p,q])/\G No e w':=by
 have j:=i hS;have a:=i ((G.refl No e).alloc (v (Q c) 41));unfold Q at a ⊢;unfold eb at j;rw[n] at a ⊢;clear n hS;go_enter func77,ntmps77;go_wp2_with fail;refine((k j) _ (k a)).mono ?_;rintro d s ⟨rfl,o⟩;have r:=i ((k a).trans o);clear o;go_wp2;go_ret2;exact⟨rfl,k r⟩
theorem xF(d:Nat) (cs:Array V) (i:TypeId) (R C:Int) (c:U) (a:X c d cs i) (e:cs[0]? =E (y K R)) (f:cs[1]? =E (y K C)) (o:K.wrap (R* C)=R* C):Calls T 112 #[b (E ⟨d,0,F⟩)] c λm w'=>m=g (y K (R* C))/\G No c w':=by
 have j:=a.cell 0;have k:=a.cell 1;rw[e] at j;rw[f] at k;have n:=a.lt;clear a e f;go_enter func112,ntmps112;go_wp2;go_quiet (fail);go_wp2;go_ret;exact⟨rfl,(G.refl _ _).drewN _⟩
theorem rQ(e:Nat) (cs:Array V) (i:TypeId) (C a:Nat) (d:U) (c:X d e cs i) (f:cs[1]? =E (y K (C:Int))) (q:1<=C/\C<=6) (r:a<=1000):Calls T 113 #[b (E ⟨e,0,F⟩),y K (a:Int)] d λk w'=>k=g (l #[y K ((a:Int) / C+1),y K ((a:Int) % C+1)])/\G No d w':=by
 have j:=c.cell 1;rw[f] at j;have s:=c.lt;have d0:(C:Int)≠0:=by omega
 have t1:Int.tdiv (a:Int) C=(a:Int) / C:=rK (by omega);have t2:Int.tmod (a:Int) C=(a:Int) % C:=qi (by omega);have m:0<=(a:Int) / C:=Int.ediv_nonneg (by omega) (by omega);have n:(a:Int) / C<=a:=Int.ediv_le_self _ (by omega);have o:0<=(a:Int) % C:=Int.emod_nonneg _ d0;have p:(a:Int) % C<C:=Int.emod_lt_of_pos _ (by omega);have t:K.wrap ((a:Int) / C)=(a:Int) / C:=aB _ (by omega) (by omega)
 have u:K.wrap ((a:Int) % C)=(a:Int) % C:=aB _ (by omega) (by omega);have w3:K.wrap ((a:Int) / C+1)=(a:Int) / C+1:=aB _ (by omega) (by omega);have w:K.wrap ((a:Int) % C+1)=(a:Int) % C+1:=aB _ (by omega) (by omega);clear c f;go_enter func113,ntmps113;go_wp2;go_region
 all_goals go_wp2
 all_goals go_returns
 all_goals exact⟨rfl,((G.refl _ _).alloc _).drew⟩
open Go.RowKit Go.WideMaps
set_option maxHeartbeats 4000000
theorem D3(e:U) (i:Nat) (d:List t) (j:Nat) (k:e.heap[i]? =E (bH d j)) (hl:ez d j) (c a:Int) (q:0<=c/\c<=1000) (hc:0<=a/\a<=1000):(iO 162 (.map (E i)) (iN c a) true).run T e=.ok (h #[cH (dC d c a).1 (dC d c a).2.1 (dC d c a).2.2.1 (dC d c a).2.2.2,W (d.findIdx? (t.is c a)).isSome]) e:=by
 obtain⟨w,s⟩:=oO c a q hc;have n:=λr=>oN.check e r s;have f:=rh e d j hl c a q hc;unfold bH at k;have o:(getObj i).run T e=.ok (.map (d.map t.obj).toArray j) e:=by simp[getObj,Sem.run,k]
 have hs:∀m,(setObj i m).run T e=.ok () (setBlock e i m):=λm=>by simp[setObj,Sem.run,k,setBlock]
 rw[dC,pP]
 cases hf:d.findIdx? (t.is c a) with
 |none=>
  rw[hf] at f;simp[iO,run_underlying ld,o,n,f,ri,cH]
 |some u=>
  have p:=(List.findIdx?_eq_some_iff_getElem.1 hf).1;rw[hf] at f;simp[p] at f;simp[iO,run_underlying ld,o,n,f,ri,p]
def D4(k:U) (e:Nat) (i c st f d j:Int):Prop:=
 ∀a,G No k a->(iO 162 (.map (E e)) (l #[y K i,y K c]) true).run T a=.ok (h #[l #[y K st,y K f,y K d,y K j],W (st !=0)]) a
theorem xG{i:U} {e d:Nat} {p:O} {a:List B} {es:List t} (r:i.heap[e]? =E (bH es d)) (s:ez es d) (hrel:jy es p a) (f:L p a) (c:Nat) (hi:c<a.length):D4 i e a[c].row a[c].P a[c].st a[c].pa a[c].cl a[c].un:=λo q=>by
 have u:=(f.jd hi).1;simp only[O.has,decide_eq_true_eq] at u;obtain⟨j,k,m,n,_⟩:=f.bounds;simp only at j k m n;have:=D3 o e es d (q.map r (λw=>w)) s a[c].row a[c].P (by omega) (by omega);rw[hrel.cQ c hi,wZ hrel hi] at this;exact this
def nU(a:B):List V:=[y K a.st,y K a.pa,y K a.cl,y K a.un]
theorem D5(a:B):(nU a).length=4:=rfl
theorem D6:(T.info? 199).map (λa=>(a.zero,a.size,a.bytes))=E (E (l #[y K 0,y K 0,y K 0,y K 0]),4,32):=by kernel_rfl
structure gj (w wr:U) (b m m' clock:Nat) (p Q:O) (l:List B) (es:List t) (v:V) (i:Nat):Prop where
 fl:∃es' clock',bo wr b Q (stay Q (l.take i)) m' es' clock'
 aU:wr.heap[m]? =E (bH es clock)
 box:X wr w.heap.size (dO p (.map (E m)) l) 164
 row:wr.ownsRow 0 199 4 v (aQ Q (l.take i)).length ((aQ Q (l.take i)).flatMap nU)
 new:∀k,v.ownBlock=E k->w.heap.size<k
 mod:G (λk=>k=b\/k=m') w wr
theorem gj.still{o wr w2:U} {f m m' i:Nat} {p e:O} {k:List B} {es:List t} {n:V} {j:Nat} (c:gj o wr f m m' i p e k es n j) (d:G No wr w2):gj o w2 f m m' i p e k es n j:=by
 obtain⟨r,q,hf⟩:=c.fl;exact⟨⟨r,q,d.has hf.has (λa=>a),d.map hf.map (λa=>a),hf.ok,hf.rel⟩,d.map c.aU (λa=>a),d.has c.box (λa=>a),d.owns c.row (λ_ _ a=>a),c.new,c.mod.trans (d.mono (λ_ _ a=>a.elim))⟩
theorem gj.free{n wr:U} {f k m' i:Nat} {p d:O} {c:List B} {es:List t} {m:V} {a:Nat} (e:gj n wr f k m' i p d c es m a) (hi:a<c.length) (j:c[a].st=0):gj n wr f k m' i p d c es m (a+1):=by
 have o:stay d (c.take (a+1))=stay d (c.take a):=by rw[mG d c a hi];unfold jU;rw[if_neg (by simp[j])]
 have q:aQ d (c.take (a+1))=aQ d (c.take a):=by rw[kD d c a hi,if_neg (by simp[j]),dR]
 exact⟨by rw[o];exact e.fl,e.aU,e.box,by rw[q];exact e.row,e.new,e.mod⟩
theorem D7(o n m' u a6:Nat) (p d:O) (c:List B) (es a7:List t) (e:U) (Q:bo e o d (q d) m' a7 a6) (aD:e.heap[n]? =E (bH es u)) (bf:ez es u) (hrel:jy es p c) (M:L p c) (s:d.sized=true) (a8:d.limited=true) (bV:n≠m'):Calls T 164 #[b (E ⟨o,0,F⟩),l (dO p (.map (E n)) c)] e λm w'=>
   ∃r,m=g r/\gj e w' o n m' u p d c es r c.length:=by
 have bO:=Q.has.mh aD;have cc:=Q.has.lt;have ca:=(Array.getElem?_eq_some_iff.1 aD).1;have cb:=(Array.getElem?_eq_some_iff.1 Q.map).1;have a9:=M.bounds;simp only at a9;have hlen:=M.len;simp only at hlen;have ba:c.length<=120:=aM.wf.gU M;have bh:K.wrap (p.rows* p.w)=p.rows* p.w:=aB _ (by omega) (by omega)
 have aw:=i λj (A:X j e.heap.size (dO p (.map (E n)) c) 164)=>xF e.heap.size _ _ p.rows p.w j A rfl rfl bh;rw[<-hlen] at aw;obtain⟨aI,aS⟩:∃aI:Nat,p.w=(aI:Int):=⟨p.w.toNat,by omega⟩
 have a2:=i λj (A:X j e.heap.size (dO p (.map (E n)) c) 164) (a:Nat) (hi:a<c.length)=>(show Calls T 113 #[b (E ⟨e.heap.size,0,F⟩),y K (a:Int)] j λm w'=>m=g (l #[y K c[a].row,y K c[a].P])/\G No j w' from by
  have:=rQ e.heap.size _ _ aI a j A (by rw[<-aS];rfl) (by omega) (by omega)
  have aX:=M.place a hi
  simp only at aX
  rw[aX.1,aX.2,aS]
  exact this)
 have ah:gj e (e.alloc (v (dO p (.map (E n)) c) 164)) o n m' u p d c es (C F 0 0) 0:=by
  have P:G No e (e.alloc (v (dO p (.map (E n)) c) 164)):=(G.refl _ e).alloc _;refine⟨⟨a7,a6,P.has Q.has (λf=>f),P.map Q.map (λf=>f),Q.ok,Q.rel⟩,P.map aD (λf=>f),X.new e _ _,?_,λN ab=>by simp[az] at ab,P.mono (λ_ _ f=>f.elim)⟩;simpa [aQ] using cJ _ _ _ _
 have ah:=i ah;have bz:=i λ(wr:U) (r:V) (a:Nat) (hS:gj e wr o n m' u p d c es r a) (hi:a<c.length)=>xG hS.aU bf hrel M a hi
 have bt:=i λ(wr:U) (r:V) (a:Nat) (hS:gj e wr o n m' u p d c es r a) (D z:Int) (j:U) (A:G No wr j)=>(show Calls T 99 #[b (E ⟨o,0,F⟩),l #[y K D,y K z]] j λm w'=>m=g (W (d.has D z))/\G No j w' from by
  obtain⟨aO,aN,hf⟩:=hS.fl
  exact oY o D z d.rows d.w _ j (A.has hf.has (λf=>f)) rfl rfl)
 have bw:=i λ(wr:U) (r:V) (a:Nat) (hS:gj e wr o n m' u p d c es r a) (hi:a<c.length) (w:c[a].st≠0) (aj:d.has c[a].row c[a].P=true)=>(show Calls T 118 #[b (E ⟨o,0,F⟩),l #[y K c[a].row,y K c[a].P],l #[y K c[a].st,y K c[a].pa,y K c[a].cl,y K c[a].un]] wr λm w'=>m=g (h #[])/\gj e w' o n m' u p d c es r (a+1)/\(aQ d (c.take (a+1))).length=(aQ d (c.take a)).length from by
  obtain⟨aO,aN,hf⟩:=hS.fl
  have aF:=qj M s a8 a (by omega)
  obtain⟨bT,f0,bM,bL⟩:=aF.free M hi aj
  refine(rv hf aF.wf _ bT c[a] (M.cQ _ (dD hi)) bM.symm bL.symm).mono ?_
  rintro m w' ⟨rfl,bP,aE⟩
  have ay:stay d (c.take (a+1))=(stay d (c.take a)).set (d.idx c[a].row c[a].P) c[a]:=by rw[mG d c a hi];unfold jU;rw[if_pos ⟨w,aj⟩]
  have ak:aQ d (c.take (a+1))=aQ d (c.take a):=by rw[kD d c a hi,if_neg (by simp[aj]),dR]
  have bc:=(Array.getElem?_eq_some_iff.1 hS.aU).1
  refine⟨rfl,⟨⟨_,_,by rw[ay];exact bP⟩,aE.map hS.aU (by rintro(m|m);exact bO m;exact bV m),aE.has hS.box (by rintro(m|m)<;>omega),?_,hS.new,hS.mod.trans aE⟩,by rw[ak]⟩
  rw[ak]
  exact aE.owns hS.row (λN ab=>by have:=hS.new N ab;rintro(m|m)<;>omega))
 have bs:=i λ(wr w3:U) (r v':V) (a:Nat) (hS:gj e wr o n m' u p d c es r a) (ar:Obj) (hi:a<c.length) (w:c[a].st≠0) (aj:¬d.has c[a].row c[a].P=true)
   (bY:w3.ownsRow 0 199 4 v' ((aQ d (c.take a)).length+1) (((aQ d (c.take a)).flatMap nU)++[y K c[a].st,y K c[a].pa,y K c[a].cl,y K c[a].un])) (bQ:(wr.alloc ar).grownBy w3 r.ownBlock) (aF:dY (wr.alloc ar) r v')=>
  (show gj e w3 o n m' u p d c es v' (a+1)/\(aQ d (c.take (a+1))).length=(aQ d (c.take a)).length+1 from by
   obtain⟨aO,aN,hf⟩:=hS.fl
   have ay:stay d (c.take (a+1))=stay d (c.take a):=by rw[mG d c a hi];unfold jU;rw[if_neg (λf=>aj f.2)]
   have ak:aQ d (c.take (a+1))=aQ d (c.take a)++[c[a]]:=by rw[kD d c a hi,if_pos ⟨w,aj⟩]
   have am:G (λN=>e.heap.size<N) wr w3:=((G.refl _ wr).alloc ar).grown bQ (λN ab=>.inl (hS.new N ab))
   refine⟨⟨⟨aO,aN,am.has (by rw[ay];exact hf.has) (by omega),am.map hf.map (by omega),hf.ok,by rw[ay];exact hf.rel⟩,am.map hS.aU (by omega),am.has hS.box (by omega),?_,λN ab=>?_,hS.mod.trans' am (λa hi hl=>by omega)⟩,by rw[ak];simp⟩
   ·rw[ak,aJ,lG]
    simpa [nU] using bY
   ·obtain s|s:=aF N ab
    ·exact hS.new N s
    ·have:=hS.box.lt
     simp at s
     omega)
 have a1:=i λ(wr:U) (r:V) (a:Nat) (hS:gj e wr o n m' u p d c es r a) (hi:a<c.length) (w:c[a].st=0)=>(show gj e wr o n m' u p d c es r (a+1)/\(aQ d (c.take (a+1))).length=(aQ d (c.take a)).length from⟨hS.free hi w,by rw[kD d c a hi,if_neg (by simp[w]),dR]⟩);clear Q aD bf hrel M a9 aS s a8 bh hlen;obtain⟨b2,b3,b4,b5,b6⟩:=info_parts D6;unfold dO dw db at ah aw a2 ⊢;go_enter func164,ntmps164
 go_wp2_with fail;refine((k aw) _ (k ah).box).mono ?_;rintro m aH ⟨rfl,ap⟩;have a4:=i ((k ah).still ap);clear ah ap aw;go_wp2_with fail;have bu:=i ba;go_loopw [5,11] (λb7 aZ wr=>∃(a:Nat) (Y:Option Addr) (aa:Nat),aZ=y K (a:Int)/\a<=c.length/\b7=C Y (aQ d (c.take a)).length aa/\Hid (gj e wr o n m' u p d c es (C Y (aQ d (c.take a)).length aa) a)) (λ_ aZ _=>c.length - (intOf aZ).toNat)
 case atStart=>exact⟨0,F,0,rfl,by omega,by simp[aQ],by simpa [aQ] using a4⟩
 case round=>
  obtain⟨a,Y,aa,rfl,hi,rfl,x⟩:=hrel;clear a4;by_cases s:a<c.length
  ·have bN:(a:Int)<(c.length:Int):=by omega
   have cd:K.wrap ((a:Int)+1)=((a+1:Nat):Int):=by rw[aB _ (by omega) (by omega)];rfl
   have aU:=(k a2) _ (k x).box a s;have aW:=(k bz) _ _ a (k x) s;have aT:=(k bt) _ _ a (k x);have aV:=λj (A:G No wr j)=>(k bw) j _ a ((k x).still A) s;have aA:=(k a1);have aR:=λj (A:G No wr j) (w3:U) v' ar=>(k bs) j w3 _ v' a ((k x).still A) ar s;have bc:(aQ d (c.take a)).length<=120:=by
    have:(aQ d (c.take a)).length<=(c.take a).length:=oZ _ _;rw[dj] at this;omega
   have aA:=λj (A:G No wr j)=>(k a1) j _ a ((k x).still A) s;generalize hs:c[a]=au at *;obtain⟨D,z,st,I,H,J⟩:=au;simp only at aU aW aT aV aR aA;have bn:=i aU;have bp:=i aW;have av:=i (aT D z);have bq:=i aV;have bl:=i aR;have bm:=i aA;have b9:=i hi;have ag:=i s;clear aU aW aT aV aR aA hs s hi ba;have bD:=(k x).box.lt;go_wp2_with fail;refine(k bn).mono ?_;rintro m aH ⟨rfl,ap⟩;have bA:=i ap
   clear ap;have P:=i (((k bA).alloc (v #[y K D,y K z] 36)));have bE:=((k P).has (k x).box (λf=>f)).cell 7;rw[show(dO p (.map (E n)) c)[7]? =E (.map (E n)) from rfl] at bE;have bD:=((k P).has (k x).box (λf=>f)).lt;have bU:=(k bp) _ (k P);have aY:=X.new aH #[y K D,y K z] 36;have bB:=i aY;have af:=aY.cell;clear aY;have aq:=i (((k P).alloc (v #[y K st,y K I,y K H,y K J] 199)));by_cases w:st=0
   ·have aL:=i w;subst w;go_wp2_with fail;obtain⟨ai,R⟩:=(k bm) _ (k aq) (by trivial);exact⟨⟨a+1,Y,aa,by trivial,by have:=k ag;omega,by rw[R],by rw[R];exact ai⟩,by simp[intOf];have:=k ag;omega⟩
   ·have aL:=i w;have bW:(st !=0)=true:=by simp[w]
    rw[bW] at bU;clear w;by_cases ao:d.has D z=true
    ·rw[ao] at av;have aK:=i ao;go_wp2_with fail;refine((k av) _ (k aq)).mono ?_;rintro m ae ⟨rfl,S⟩;have bJ:=(S.has ((k bB).alloc (v #[y K st,y K I,y K H,y K J] 199)) (λf=>f)).cell;have ad:=X.new (aH.alloc (v #[y K D,y K z] 36)) #[y K st,y K I,y K H,y K J] 199;rw[bj] at ad;have a5:=(S.has ad (λf=>f)).cell;have ax:=i ((k aq).trans S);clear S ad af;go_wp2_with fail
     refine((k bq) _ (k ax) (k aL) (k aK)).mono ?_;rintro m w3 ⟨rfl,ai,R⟩;have bi:=i ai;have a3:=i R;clear ai R bJ a5;go_wp2;exact⟨⟨a+1,Y,aa,by trivial,by have:=k ag;omega,by rw[k a3],by rw[k a3];exact k bi⟩,by simp[intOf];have:=k ag;omega⟩
    ·have aK:=i ao;have bZ:d.has D z=false:=by simpa using ao
     rw[bZ] at av;clear ao;go_wp2_with fail;refine((k av) _ (k aq)).mono ?_;rintro m ae ⟨rfl,S⟩;have ad:=X.new (aH.alloc (v #[y K D,y K z] 36)) #[y K st,y K I,y K H,y K J] 199;rw[bj] at ad;have a5:=(S.has ad (λf=>f)).cell;have ax:=i ((k aq).trans S);clear S ad af;have bb:=oZ (λau:B=>au.st !=0&& !d.has au.row au.P) (c.take a);have a0:=(k x).still (k ax)
     have bv:=i (((G.refl No ae).alloc (v #[y K st,y K I,y K H,y K J] 199)).owns a0.row (λ_ _ f=>f))
     have bx:=i (show Reads (ae.alloc (v #[y K st,y K I,y K H,y K J] 199)) (C (E ⟨ae.heap.size,0,F⟩) 1 1) 1 [y K st,y K I,y K H,y K J] from
      .inr ⟨⟨ae.heap.size,0,F⟩,1,rfl,λce b8 hu=>by
       rw[dx,bg,(X.new ae #[y K st,y K I,y K H,y K J] 199).cell,<-dE]
       exact hu⟩)
     have bk:=i λw3 v'=>(k bl) _ (k ax) w3 v' (v #[y K st,y K I,y K H,y K J] 199) (k aL) (k aK);have bc:(aQ d (c.take a)).length<=120:=bF bb (by rw[dj];have:=k bu;omega);clear bb a0
     go_wp2_with (first|(at_builtin;refine eI rfl (.tmp 36) (.tmp 38) 254 rfl 199 b2 _ 4 32 underlying254 b3 b4 b5 b6 rfl (by decide) (C Y (aQ d (c.take a)).length aa) (aQ d (c.take a)).length _ (by simp[Z]) (by exact k bv) (C (E ⟨ae.heap.size,0,F⟩) 1 1) 1 [y K st,y K I,y K H,y K J] (by simp[Z]) (by exact k bx) rfl (by intro b8 hu;simp at hu;obtain rfl|rfl|rfl|rfl:=hu<;>rfl) (by unfold maxLen;omega) (by omega) ?_;intro v' w3 bd bR b1;obtain⟨bC,bG,rfl⟩:=aC bd))
     obtain⟨ai,R⟩:=(k bk) _ _ bd bR b1;exact⟨⟨a+1,bC,bG,by trivial,by have:=k ag;omega,by rw[R],by rw[R];exact ai⟩,by simp[intOf];have:=k ag;omega⟩
  ·have bS:a=c.length:=by omega
   subst bS;have bN:¬((c.length:Nat):Int)<(c.length:Int):=by omega
   go_wp2;go_ret;exact⟨C Y (aQ d c).length aa,rfl,by simpa only[eA] using k x⟩
end Go.Proofs.YthhibagcpjeihaaGreat
