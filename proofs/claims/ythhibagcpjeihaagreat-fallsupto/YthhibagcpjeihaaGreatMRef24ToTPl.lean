import Derived.Test.YthhibagcpjeihaaGreatMRef14ToRef18
import Derived.Test.YthhibagcpjeihaaGreatMKeep3ToKeep8
import Derived.Test.YthhibagcpjeihaaGreatMSto1ToRp3
open Go.Proofs.Tryz
open Go.Value renaming int->y,pointer->b,slice->C,bool->W,agg->l
open Go.IntKind renaming i64->K,wrap_i64->jB
open Option renaming none->F,some->E
open Go renaming World->U,Value->V
open Go.Proofs.Tryz renaming prog->T
open Go.Ending renaming returned->g
open Go.Obj renaming cells->v
open Nat renaming le_trans->bF,not_lt_zero->dZ
open List renaming length_take->dj,getElem_mem->dD,length_cons->dP,getElem_of_mem->iP,length_set->iU,getElem_set_self->lH,findIdx?_eq_none_iff->oR,length_drop->lX,find?_cons->kZ,getElem_set->mi,getElem_take->oy
namespace Go.Proofs.YthhibagcpjeihaaGreat
open Go.RowKit
open M
set_option linter.unusedVariables false
set_option linter.unusedSimpArgs false
set_option maxRecDepth 100000
set_option maxHeartbeats 8000000
theorem Jr(j:Nat) (a:N) (c:U) (e:a.kind<1\/a.kind>9):Calls T 27 #[b (E ⟨j,0,F⟩),l (Q a)] c λf w'=>f=g (y K 1)/\G No c w':=by
 have d:=i ((G.refl No c).alloc (v (Q a) 41));unfold Q at *;by_cases m:a.kind<1
 ·clear e;go_enter func27,ntmps27;go_wp2;go_ret;exact⟨rfl,k d⟩
 ·have n:a.kind>9:=by omega
  clear e;go_enter func27,ntmps27;go_wp2;go_ret;exact⟨rfl,k d⟩
theorem vD(u:Nat) (p m ac t s r n time:Int) (a:O) (e:U) (o:Int) (f:U->Prop) (d:∀j,G No e j->Calls T 51 #[b (E ⟨u,0,F⟩),y K time] j λc w'=>c=g (y K o)/\f w'):Calls T 27 #[b (E ⟨u,0,F⟩),l #[y K 8,y K p,y K m,y K ac,y K t,y K s,y K r,y K n,y K time,y K a.rows,y K a.w,y K a.front,y K a.I,y K a.R,y K a.n,y K a.f]] e λc w'=>c=g (y K o)/\f w':=by
 have x:=i ((G.refl No e).alloc (v #[y K 8,y K p,y K m,y K ac,y K t,y K s,y K r,y K n,y K time,y K a.rows,y K a.w,y K a.front,y K a.I,y K a.R,y K a.n,y K a.f] 41));have d:=i d;go_enter func27,ntmps27;go_wp2_with fail;refine((k d) _ (k x)).mono ?_;rintro c z ⟨rfl,q⟩;have w:=i q;clear q;go_wp2;go_ret;exact⟨rfl,k w⟩
theorem Ai(s:Nat) (c n ac r q p o time:Int) (a:O) (j:U) (kind:Int) (t:1<=kind/\kind<=9/\kind≠8) (u:Int) (hf:¬(1<=c/\c<=20)) (e:∀m,G No j m->Calls T 52 #[b (E ⟨s,0,F⟩),y K c] m λd w'=>d=g (y K u)/\w'=m):Calls T 27 #[b (E ⟨s,0,F⟩),l #[y K kind,y K c,y K n,y K ac,y K r,y K q,y K p,y K o,y K time,y K a.rows,y K a.w,y K a.front,y K a.I,y K a.R,y K a.n,y K a.f]] j λd w'=>d=g (y K 2)/\G No j w':=by
 have f:=i ((G.refl No j).alloc (v #[y K kind,y K c,y K n,y K ac,y K r,y K q,y K p,y K o,y K time,y K a.rows,y K a.w,y K a.front,y K a.I,y K a.R,y K a.n,y K a.f] 41));have e:=i e;have z:¬kind<1:=by omega
 have A:¬kind>9:=by omega
 have B:(kind==8)=false:=by simp;omega
 obtain⟨_,_,x⟩:=t;by_cases f1:c<1
 ·clear hf;go_enter func27,ntmps27;go_wp2_with fail;refine((k e) _ (k f)).mono ?_;rintro d w ⟨rfl,rfl⟩;go_wp2;go_ret;exact⟨rfl,k f⟩
 ·have f2:c>20:=by omega
  clear hf;go_enter func27,ntmps27;go_wp2_with fail;refine((k e) _ (k f)).mono ?_;rintro d w ⟨rfl,rfl⟩;go_wp2;go_ret;exact⟨rfl,k f⟩
theorem Aj(u:Nat) (c n ac t s r o time:Int) (a:O) (e:U) (kind:Int) (w:1<=kind/\kind<=9/\kind≠8) (q:Int) (hf:1<=c/\c<=20) (hi:q<0) (p:kind≠1) (f:∀j,G No e j->Calls T 52 #[b (E ⟨u,0,F⟩),y K c] j λd w'=>d=g (y K q)/\w'=j):Calls T 27 #[b (E ⟨u,0,F⟩),l #[y K kind,y K c,y K n,y K ac,y K t,y K s,y K r,y K o,y K time,y K a.rows,y K a.w,y K a.front,y K a.I,y K a.R,y K a.n,y K a.f]] e λd w'=>d=g (y K 2)/\G No e w':=by
 have m:=i ((G.refl No e).alloc (v #[y K kind,y K c,y K n,y K ac,y K t,y K s,y K r,y K o,y K time,y K a.rows,y K a.w,y K a.front,y K a.I,y K a.R,y K a.n,y K a.f] 41));have f:=i f;have z:¬kind<1:=by omega
 have A:¬kind>9:=by omega
 have B:(kind==8)=false:=by simp;omega
 obtain⟨_,_,x⟩:=w;have f1:¬c<1:=by omega
 have f2:¬c>20:=by omega
 have D:(kind !=1)=true:=by simpa using p
 clear hf p
 ·skip
  go_enter func27,ntmps27;go_wp2_with fail;refine((k f) _ (k m)).mono ?_;rintro d H ⟨rfl,rfl⟩;go_wp2;go_ret;exact⟨rfl,k m⟩
theorem vE(s:Nat) (c n ac r q p o time:Int) (a:O) (f:U) (z w:Int) (u:U->Prop) (hf:1<=c/\c<=20) (m:∀e,G No f e->Calls T 52 #[b (E ⟨s,0,F⟩),y K c] e λd w'=>d=g (y K z)/\w'=e) (j:∀e,G No f e->Calls T 53 #[b (E ⟨s,0,F⟩),l #[y K 1,y K c,y K n,y K ac,y K r,y K q,y K p,y K o,y K time,y K a.rows,y K a.w,y K a.front,y K a.I,y K a.R,y K a.n,y K a.f]] e λd w'=>d=g (y K w)/\u w'):
  Calls T 27 #[b (E ⟨s,0,F⟩),l #[y K 1,y K c,y K n,y K ac,y K r,y K q,y K p,y K o,y K time,y K a.rows,y K a.w,y K a.front,y K a.I,y K a.R,y K a.n,y K a.f]] f λd w'=>d=g (y K w)/\u w':=by
 have t:=i ((G.refl No f).alloc (v #[y K 1,y K c,y K n,y K ac,y K r,y K q,y K p,y K o,y K time,y K a.rows,y K a.w,y K a.front,y K a.I,y K a.R,y K a.n,y K a.f] 41));have m:=i m;have j:=i j;have f1:¬c<1:=by omega
 have f2:¬c>20:=by omega
 clear hf;by_cases hi:z<0
 all_goals
  go_enter func27,ntmps27;go_wp2_with fail;refine((k m) _ (k t)).mono ?_;rintro d B ⟨rfl,rfl⟩;go_wp2_with fail;refine((k j) _ (k t)).mono ?_;rintro d D ⟨rfl,x⟩;have A:=i x;clear x;go_wp2;go_ret;exact⟨rfl,k A⟩
def kO(c:N) (now:Int) (a:e):e:=
 ⟨⟨a.f.num,a.f.p,cN a.f.p a.f.S c now,if aH a.f.p a.f.S c now=0 then K.wrap (a.f.ep+1) else a.f.ep⟩,a.g,a.cap⟩
theorem Js(p:O) (c:List B) (a:N) (d:a.kind≠9) (now:Int):(cN p c a now).length=c.length:=by
 unfold cN dg;rw[if_neg d]
 repeat' split
 all_goals simp
theorem Jt{p:O} {d:List B} (c:L p d) (a:N) (f:a.kind≠9) (now:Int) (i:0<=now/\now<=4611686018427387000):L p (cN p d a now):=by
 unfold cN;split
 ·rename_i e;exact uP c i e f
 ·exact c
theorem Ju{s:U} {u:Nat->Nat} {z gf cap:Nat} {xs:List e} {now:Int} (x:aF s u z (C (E ⟨gf,0,F⟩) xs.length cap) xs now) (kind d f ac o n m j time:Int) (c:O) (ai:2<=kind/\kind<=7) (hf:1<=d/\d<=20) (aI: -9223372036854775808<=time/\time<=9223372036854775807) (aj:0<=now/\now<=4611686018427387000) (a:Nat) (hi:a<xs.length) (ah:cT xs d=a):
  Calls T 27 #[b (E ⟨z,0,F⟩),l #[y K kind,y K d,y K f,y K ac,y K o,y K n,y K m,y K j,y K time,y K c.rows,y K c.w,y K c.front,y K c.I,y K c.R,y K c.n,y K c.f]] s λq w'=>q=g (y K (aH xs[a].f.p xs[a].f.S ⟨kind,d,f,ac,o,n,m,j,time,c⟩ now))/\aF w' u z (C (E ⟨gf,0,F⟩) xs.length cap) (xs.set a (kO ⟨kind,d,f,ac,o,n,m,j,time,c⟩ now xs[a])) now/\G (λr=>u r≠0) s w':=by
 have av:=i λp (t:G No s p)=>(show Calls T 52 #[b (E ⟨z,0,F⟩),y K d] p λq w'=>q=g (y K (a:Nat))/\w'=p from by
  have:=(x.mod t (λ_ _ w=>w)).find d
  rw[ah] at this
  exact this)
 obtain⟨Y,aa⟩:=x.parts rfl (by omega);obtain⟨aN,os,wf⟩:=x.S a hi
 have aw:=i λp (t:G No s p)=>(show Calls T 55 #[b (E ⟨z,0,F⟩),b (E ⟨gf,a* 10,F⟩),l #[y K kind,y K d,y K f,y K ac,y K o,y K n,y K m,y K j,y K time,y K c.rows,y K c.w,y K c.front,y K c.I,y K c.R,y K c.n,y K c.f]] p λq w'=>
   q=g (y K (aH xs[a].f.p xs[a].f.S ⟨kind,d,f,ac,o,n,m,j,time,c⟩ now))/\aY p w' gf (a* 10) xs[a].g xs[a].cap xs[a].f.p xs[a].f.S (cN xs[a].f.p xs[a].f.S ⟨kind,d,f,ac,o,n,m,j,time,c⟩ now) from
  G4 ((x.mod t (λ_ _ w=>w)).fl a hi) wf ⟨kind,d,f,ac,o,n,m,j,time,c⟩ ai aI now aj ((x.mod t (λ_ _ w=>w)).has.cell 1))
 have aB:=i (Js xs[a].f.p xs[a].f.S ⟨kind,d,f,ac,o,n,m,j,time,c⟩ (by simp only;omega) now);have aC:=i (Jt wf ⟨kind,d,f,ac,o,n,m,j,time,c⟩ (by simp only;omega) now aj)
 have ak:kO ⟨kind,d,f,ac,o,n,m,j,time,c⟩ now xs[a]=⟨⟨xs[a].f.num,xs[a].f.p,cN xs[a].f.p xs[a].f.S ⟨kind,d,f,ac,o,n,m,j,time,c⟩ now,if aH xs[a].f.p xs[a].f.S ⟨kind,d,f,ac,o,n,m,j,time,c⟩ now=0 then K.wrap (xs[a].f.ep+1) else xs[a].f.ep⟩,xs[a].g,xs[a].cap⟩:=rfl;generalize aE:kO ⟨kind,d,f,ac,o,n,m,j,time,c⟩ now xs[a]=ap at *;generalize aH xs[a].f.p xs[a].f.S ⟨kind,d,f,ac,o,n,m,j,time,c⟩ now=af at *
 generalize cN xs[a].f.p xs[a].f.S ⟨kind,d,f,ac,o,n,m,j,time,c⟩ now=S at *;have ad:=i ak;have au:=i x;have P:¬gf=xs[a].g:=λq=>by rw[q,os] at Y;omega
 have ae:s.cell? ⟨gf,a* 10+9,F⟩=E (y K xs[a].f.ep):=aa.cell a hi 9 (by omega);have aq:=i λp (t:G (λr=>r=xs[a].g) s p)=>eo t ae P;have ar:=i λp (t:G (λr=>r=xs[a].g) s p)=>(aa.mod t P);have ay:=i Y;have aA:=i os;have aD:=i λp (t:G No s p)=>(show p.cell? ⟨z,0,F⟩=E (C (E ⟨gf,0,F⟩) xs.length cap) from eo t (x.has.cell 0) (λw=>w))
 have H:=i ((G.refl No s).alloc (v #[y K kind,y K d,y K f,y K ac,y K o,y K n,y K m,y K j,y K time,y K c.rows,y K c.w,y K c.front,y K c.I,y K c.R,y K c.n,y K c.f] 41));have ab:=i (X.new s #[y K kind,y K d,y K f,y K ac,y K o,y K n,y K m,y K j,y K time,y K c.rows,y K c.w,y K c.front,y K c.I,y K c.R,y K c.n,y K c.f] 41);have aW:¬kind<1:=by omega
 have aX:¬kind>9:=by omega
 have aZ:(kind==8)=false:=by simp;omega
 have a0:(kind==1)=false:=by simp;omega
 have a1:(kind==9)=false:=by simp;omega
 have f1:¬d<1:=by omega
 have f2:¬d>20:=by omega
 have aT:¬(a:Int)<0:=by omega
 have aU:(a:Int)<(xs.length:Int):=by omega
 have aV:(0:Int)<=a:=by omega
 have a2:¬kind=8:=by omega
 have a3:¬kind=1:=by omega
 have a4:¬kind=9:=by omega
 clear x ak aE ah aa aN os wf Y ae P hf ai;go_enter func27,ntmps27;go_wp2_with fail;refine((k av) _ (k H)).mono ?_;rintro q a6 ⟨rfl,rfl⟩;have aO:=(k aD) _ (k H);have hb:=(k ab).cell;have a5:=(k ab).lt;go_wp2_with fail;refine((k aw) _ (k H)).mono ?_;rintro q A ⟨rfl,ao,am⟩;have D:G (λr=>r=xs[a].g) s A:=((k H).mono (λ_ _ w=>w.elim)).trans am;have aR:=(k aq) _ D
 have aS:∀aK,A.frozen? ⟨gf,aK,F⟩=false:=by
  obtain⟨aQ,aM,_⟩:=((k ar) _ D).cur;exact aM.frozen
 have I:=i ((k au).zn a hi S (k aB) (k aC) ao D);have L:=i (show G (λr=>u r≠0) s A from D.mono (λr _ (q:r=xs[a].g)=>by show u r≠0;rw[q,k aA];omega));clear ao am D hb aO;by_cases B:af=0
 ·have R:(xs.set a ⟨⟨xs[a].f.num,xs[a].f.p,S,xs[a].f.ep⟩,xs[a].g,xs[a].cap⟩).length=xs.length:=by rw[iU]
  have M:aF (A.setCell ⟨gf,a* 10+9,F⟩ (y K (K.wrap (xs[a].f.ep+1)))) u z (C (E ⟨gf,0,F⟩) xs.length cap) (xs.set a ap) now:=by
   have ag:=k I;have q:(C (E ⟨gf,0,F⟩) xs.length cap)=C (E ⟨gf,0,F⟩) (xs.set a ⟨⟨xs[a].f.num,xs[a].f.p,S,xs[a].f.ep⟩,xs[a].g,xs[a].cap⟩).length cap:=by rw[R]
   rw[q] at ag;have Q:=ag.uX a (by rw[R];exact hi) (K.wrap (xs[a].f.ep+1));rw[<-q] at Q;simp only[lH,List.set_set] at Q;rw[k ad,if_pos B];exact Q
  have aL:u gf≠0:=by rw[k ay];omega
  have J:G (λr=>u r≠0) s (A.setCell ⟨gf,a* 10+9,F⟩ (y K (K.wrap (xs[a].f.ep+1)))):=(k L).setCell (p:=⟨gf,a* 10+9,F⟩) (.inl aL) _;rw[show K.wrap (xs[a].f.ep+1)=wrap64 (xs[a].f.ep+1) from(by unfold wrap64;exact jB _)] at M J;have N:=i M;have ax:=i J;clear M J I L R;subst B;go_wp2;go_ret;exact⟨rfl,k N,k ax⟩
 ·have hd:(af==0)=false:=by simpa using B
  have N:=i (show aF A u z (C (E ⟨gf,0,F⟩) xs.length cap) (xs.set a ap) now from by rw[k ad,if_neg B];exact k I);clear I B;go_wp2;go_ret;exact⟨rfl,k N,k L⟩
def dW(xs:List e):Nat->Option (O×List B):=λc=>(xs.find? (λa=>a.f.num==(c:Int))).map λa=>(a.f.p.at a.f.ep,a.f.S)
theorem Jv(c:Int) (a:e):((fW c a).f.p.at (fW c a).f.ep,(fW c a).f.S)=gZ c (a.f.p.at a.f.ep,a.f.S):=by
 unfold gZ fW ky lB;simp only
 cases a.f.S.any (due c)<;>rfl
theorem Jw(xs:List e) (c:Int) (a:Nat):dW (xs.map (fW c)) a=(dW xs a).map (gZ c):=by
 unfold dW
 induction xs with
 |nil=>rfl
 |cons d xs i=>
  simp only[List.map_cons,kZ];have f:(fW c d).f.num=d.f.num:=rfl;rw[f]
  cases j:(d.f.num==(a:Int)) with
  |true=>
   simp only[Option.map_some];rw[Jv]
  |false=>exact i
theorem vF(xs:List e) (c:Int):cT xs c= -1\/∃a,∃hi:a<xs.length,cT xs c=a/\xs[a].f.num=c:=by
 unfold cT
 cases d:xs.findIdx? (λi=>i.f.num==c) with
 |none=>exact .inl rfl
 |some a=>
  obtain⟨hi,f,_⟩:=List.findIdx?_eq_some_iff_getElem.1 d;exact .inr ⟨a,hi,rfl,by simpa using f⟩
theorem Jx(xs:List e) (d:Nat) (a:cT xs d= -1):dW xs d=F:=by
 unfold cT at a
 cases c:xs.findIdx? (λf=>f.f.num==(d:Int)) with
 |none=>
  rw[oR] at c;unfold dW;rw[List.find?_eq_none.2 (λf i=>by have:=c f i;simpa using this)];rfl
 |some j=>rw[c] at a;simp only at a;omega
theorem Jy(xs:List e) (d a:Nat) (hi:a<xs.length) (c:cT xs d=a):dW xs d=E (xs[a].f.p.at xs[a].f.ep,xs[a].f.S):=by
 unfold cT at c
 cases f:xs.findIdx? (λj=>j.f.num==(d:Int)) with
 |none=>rw[f] at c;simp only at c;omega
 |some i=>
  rw[f] at c;have k:i=a:=by simp only at c;omega
  subst k;obtain⟨_,m,n⟩:=List.findIdx?_eq_some_iff_getElem.1 f;unfold dW;have hf:xs.find? (λj=>j.f.num==(d:Int))=E xs[i]:=List.find?_eq_some_iff_getElem.2 ⟨m,i,hi,rfl,λp o=>by simpa using n p o⟩;rw[hf];rfl
theorem Jz(xs:List e) (d i:Nat) (hi:i<xs.length) (n:cT xs d=i) (c:e) (B:c.f.num=xs[i].f.num) (j:Nat):dW (xs.set i c) j=if j=d then E (c.f.p.at c.f.ep,c.f.S) else dW xs j:=by
 have u:xs[i].f.num=(d:Int):=by
  obtain o|⟨a,p,o,f⟩:=vF xs d
  ·omega
  ·have:a=i:=by omega
   subst this;exact f
 have G:∀(ys:List e) (a:Nat) (p:a<ys.length),ys[a].f.num=(d:Int)->(∀k,∀t:k<ys.length,k<a->ys[k].f.num≠(d:Int))->c.f.num=(d:Int)->dW (ys.set a c) j=if j=d then E (c.f.p.at c.f.ep,c.f.S) else dW ys j:=by
  intro ys
  induction ys with
  |nil=>intro a p;exact absurd p (dZ _)
  |cons x ys D=>
   intro a p o f s
   cases a with
   |zero=>
    simp only[List.getElem_cons_zero] at o;unfold dW;simp only[List.set_cons_zero,kZ];by_cases m:j=d
    ·subst m;simp[s]
    ·have z:(c.f.num==(j:Int))=false:=by rw[s];simp;omega
     have r:(x.f.num==(j:Int))=false:=by rw[o];simp;omega
     rw[z,r,if_neg m]
   |succ a=>
    have q:=f 0 (by simp) (by omega);simp only[List.getElem_cons_zero] at q;have w:=D a (by simpa using p) (by simpa using o) (λk t H=>by have:=f (k+1) (by simpa using t) (by omega);simpa using this) s;unfold dW at w ⊢;simp only[List.set_cons_succ,kZ]
    cases hy:(x.f.num==(j:Int)) with
    |true=>
     have:j≠d:=λm=>by subst m;exact q (by simpa using hy)
     simp[this]
    |false=>exact w
 refine G xs i hi u (λk t A m=>?_) (by rw[B];exact u);unfold cT at n
 cases f:xs.findIdx? (λc=>c.f.num==(d:Int)) with
 |none=>rw[f] at n;simp only at n;omega
 |some a=>
  rw[f] at n;have r:a=i:=by simp only at n;omega
  subst r;obtain⟨_,_,q⟩:=List.findIdx?_eq_some_iff_getElem.1 f;have:=q k A;simp[m] at this
structure dt (xs:List e) (fl:Nat->Option (O×List B)):Prop where
 sort:xs.Pairwise (λx y=>x.f.num<y.f.num)
 gP:∀x∈xs,1<=x.f.num/\x.f.num<=20
 eq:∀n,n<21->fl n=dW xs n
theorem Ak:∀(xs:List e) (c:Int),xs.Pairwise (λa f=>a.f.num<f.f.num)->(∀a∈xs,c<a.f.num/\a.f.num<=20)->c<=20->(xs.length:Int)<=20 - c
 |[],c,_,_,j=>by simp;omega
 |a::xs,c,d,i,j=>by
  have d:=List.pairwise_cons.1 d;have k:=i a (by simp);have:=Ak xs a.f.num d.2 (λf hy=>⟨d.1 f hy,(i f (by simp[hy])).2⟩) k.2;simp only[dP];omega
theorem dt.find{xs:List e} {f:Nat->Option (O×List B)} (i:dt xs f) (a:Int) (hc:1<=a/\a<=20):(cT xs a= -1/\f a.toNat=F)\/∃c,∃hi:c<xs.length,cT xs a=c/\xs[c].f.num=a/\f a.toNat=E (xs[c].f.p.at xs[c].f.ep,xs[c].f.S):=by
 have j:((a.toNat:Nat):Int)=a:=by omega
 obtain d|⟨c,hi,d,k⟩:=vF xs a
 ·refine .inl ⟨d,?_⟩;rw[i.eq _ (by omega)];exact Jx xs _ (by rw[j];exact d)
 ·refine .inr ⟨c,hi,d,k,?_⟩;rw[i.eq _ (by omega)];exact Jy xs _ c hi (by rw[j];exact d)
theorem dt.tick{xs:List e} {f:Nat->Option (O×List B)} (a:dt xs f) (d:Int):dt (xs.map (fW d)) (λc=>(f c).map (gZ d)):=by
 refine⟨List.pairwise_map.2 a.sort,λm j=>?_,λc i=>?_⟩
 ·obtain⟨k,hy,rfl⟩:=List.mem_map.1 j;exact a.gP k hy
 ·rw[Jw];exact congrArg (Option.map (gZ d)) (a.eq c i)
theorem dt.set{xs:List e} {q:Nat->Option (O×List B)} (k:dt xs q) (a:Int) (hc:1<=a/\a<=20) (d:Nat) (hi:d<xs.length) (hf:cT xs a=d) (c:e) (m:c.f.num=xs[d].f.num) (r:O×List B) (hy:(c.f.p.at c.f.ep,c.f.S)=r):dt (xs.set d c) (λj=>if j=a.toNat then E r else q j):=by
 have x:((a.toNat:Nat):Int)=a:=by omega
 refine⟨?_,λD A=>?_,λo z=>?_⟩
 ·rw[List.pairwise_iff_getElem];intro f p n hb u;have ha':f<xs.length:=by simpa using n
  have w:p<xs.length:=by simpa using hb
  have:=(List.pairwise_iff_getElem.1 k.sort) f p ha' w u;rw[mi,mi];split
  ·rename_i s;subst s;rw[if_neg (by omega),m];exact this
  ·split
   ·rename_i t;subst t;rw[m];exact this
   ·exact this
 ·obtain⟨f,n,rfl⟩:=iP A;have ha':f<xs.length:=by simpa using n
  rw[mi];split
  ·rw[m];exact k.gP _ (dD hi)
  ·exact k.gP _ (dD ha')
 ·rw[Jz xs a.toNat d hi (by rw[x];exact hf) c m o,hy];by_cases i:o=a.toNat
  ·rw[if_pos i,if_pos i]
  ·rw[if_neg i,if_neg i,k.eq o z]
theorem JA(xs:List e) (c:e) (d:Nat) (f:Nat) (k:c.f.num=(f:Int)) (o:∀a∈xs,a.f.num≠(f:Int)) (j:Nat):dW (xs.take d++c::xs.drop d) j=if j=f then E (c.f.p.at c.f.ep,c.f.S) else dW xs j:=by
 unfold dW;rw[List.find?_append,kZ];by_cases i:j=f
 ·subst i;rw[if_pos rfl];have n:(xs.take d).find? (λa=>a.f.num==(j:Int))=F:=List.find?_eq_none.2 (λa hy=>by have:=o a (List.mem_of_mem_take hy);simpa using this);rw[n];simp[k]
 ·rw[if_neg i];have m:(c.f.num==(j:Int))=false:=by rw[k];simp;omega
  rw[m];have:xs.find? (λa=>a.f.num==(j:Int))=((xs.take d).find? (λa=>a.f.num==(j:Int))).or ((xs.drop d).find? (λa=>a.f.num==(j:Int))):=by
   rw[<-List.find?_append,List.take_append_drop]
  rw[this]
theorem JB{xs:List e} {a:Int} (c:cT xs a= -1):∀f∈xs,f.f.num≠a:=by
 intro f hy i;unfold cT at c
 cases d:xs.findIdx? (λj=>j.f.num==a) with
 |none=>
  rw[oR] at d;have:=d f hy;simp[i] at this
 |some k=>rw[d] at c;simp only at c;omega
theorem dt.insert{xs:List e} {w:Nat->Option (O×List B)} (o:dt xs w) (c:Int) (hc:1<=c/\c<=20) (hf:cT xs c= -1) (a:Nat) (L:a<=xs.length) (H:∀j (m:j<xs.length),j<a->xs[j].f.num<c) (G:∀m:a<xs.length,¬xs[a].f.num<c) (f:e) (s:f.f.num=c) (t:O×List B) (hy:(f.f.p.at f.f.ep,f.f.S)=t):
  dt (xs.take a++f::xs.drop a) (λj=>if j=c.toNat then E t else w j)/\xs.length<20:=by
 have A:=JB hf;have x:((c.toNat:Nat):Int)=c:=by omega
 have hs:(xs.take a++f::xs.drop a).Pairwise (λf t=>f.f.num<t.f.num):=by
  have D:∀p∈xs.take a,p.f.num<c:=λp q=>by
   obtain⟨j,m,rfl⟩:=iP q;have r:j<a/\j<xs.length:=by rw[dj] at m;omega
   rw[oy];exact H j r.2 r.1
  have z:∀n∈xs.drop a,c<n.f.num:=λn hb=>by
   obtain⟨j,m,rfl⟩:=iP hb;have r:a+j<xs.length:=by rw[lX] at m;omega
   rw[List.getElem_drop];have I:=G (by omega);have J:=A _ (dD (show a<xs.length by omega));obtain k|k:=Nat.eq_zero_or_pos j
   ·subst k;simp only[Nat.add_zero];omega
   ·have:=(List.pairwise_iff_getElem.1 o.sort) a (a+j) (by omega) r (by omega);omega
  refine List.pairwise_append.2 ⟨o.sort.sublist (List.take_sublist a xs),List.pairwise_cons.2 ⟨λn hb=>by rw[s];exact z n hb,o.sort.sublist (List.drop_sublist a xs)⟩,λp q n hb=>?_⟩;obtain rfl|hb:=List.mem_cons.1 hb
  ·rw[s];exact D p q
  ·have:=D p q;have:=z n hb;omega
 have u:∀i∈xs.take a++f::xs.drop a,1<=i.f.num/\i.f.num<=20:=λi d=>by
  obtain d|d:=List.mem_append.1 d
  ·exact o.gP i (List.mem_of_mem_take d)
  ·obtain rfl|d:=List.mem_cons.1 d
   ·rw[s];exact hc
   ·exact o.gP i (List.mem_of_mem_drop d)
 refine⟨⟨hs,u,λj m=>?_⟩,?_⟩
 ·rw[JA xs f a c.toNat (by rw[x];exact s) (by rw[x];exact A) j,hy];by_cases k:j=c.toNat
  ·rw[if_pos k,if_pos k]
  ·rw[if_neg k,if_neg k,o.eq j m]
 ·have:=Ak _ 0 hs (λi d=>⟨by have:=u i d;omega,(u i d).2⟩) (by omega);simp at this;omega
set_option maxHeartbeats 4000000
def bD(a:u) (f:Nat) (e:List Int):Int×u:=
 if a.room<(a.used:Int)+e.length then(15,a)
 else
  let d:=if e=[] then(true,a) else dS a (1 - f) e
  if d.1=false then(16,d.2)
  else
   let c:=dQ d.2 f
   if c.1=false then(16,c.2) else(0,c.2)
def vG(a:Int) (c:Nat) (cs:Array V):Array V:=if a=16 then cs.setIfInBounds 30 (b F) else if a=0 then(cs.setIfInBounds 31 (y K ((1 - c:Nat):Int))).setIfInBounds 32 (W false) else cs
structure oC (w w':U) (S:Nat->Prop) (kb tb i:Nat) (cs:Array V) (R:Int×u):Prop where
 tape:ae w' (λk=>S k\/w.heap.size<=k) tb R.2
 has:X w' kb (vG R.1 i cs) 121
 mod:G (λk=>S k\/k=kb) w w'
theorem tf{d w2 w3:U} {S:Nat->Prop} {c tb i:Nat} {C:Bool×u} {cs:Array V} (w:d.heap.size<=w2.heap.size) (q:X w2 c cs 121) (m:¬S c) (t:c<d.heap.size) (o:S tb) (s:G (λa=>S a\/a=c) d w2) (t3:ae w3 (λa=>S a\/d.heap.size<=a) tb C.2) (p:G (· =tb) w2 w3):X w3 c cs 121/\G (λa=>S a\/a=c) d w3/\
  (C.1=false->oC d (w3.setCell ⟨c,30,F⟩ (b F)) S c tb i cs (16,C.2))/\(C.1=true->oC d ((w3.setCell ⟨c,31,F⟩ (y K ((1 - i:Nat):Int))).setCell ⟨c,32,F⟩ (W false)) S c tb i cs (0,C.2)):=by
 have r:¬c=tb:=λe=>m (by rw[e];exact o);have j:=p.has q r;have k:G (λa=>S a\/a=c) d w3:=s.trans (p.mono (λa _ (e:a=tb)=>.inl (by rw[e];exact o)));have n:∀a,S a\/d.heap.size<=a->¬a=c:=λa f e=>by
  subst e;obtain f|f:=f
  ·exact m f
  ·omega
 refine⟨j,k,λ_=>?_,λ_=>?_⟩
 ·exact⟨t3.mod (S':=λa=>a=c) ((G.refl _ w3).at 30 _) n,j.set 30 _,k.setCell (p:=⟨c,30,F⟩) (.inl (.inr rfl)) _⟩
 ·exact⟨t3.mod (S':=λa=>a=c) (((G.refl _ w3).at 31 _).at 32 _) n,(j.set 31 _).set 32 _,(k.setCell (p:=⟨c,31,F⟩) (.inl (.inr rfl)) _).setCell (p:=⟨c,32,F⟩) (.inl (.inr rfl)) _⟩
theorem Al{D:U} {S:Nat->Prop} {A tb:Nat} {B:u} {cs:Array V} (R:X D A cs 121) (I:cs[30]? =E (b (E ⟨tb,0,F⟩))) (ax:¬S A) (ag:ae D S tb B) (j:Nat) (hi:j<2) (J:cs[31]? =E (y K j)) (tn:Bool) (aF:cs[32]? =E (W tn)) (am:Option Addr) (ah:Nat) (o:List Int) (aI:Reads D (C am o.length ah) o.length (cg o)) (aK:(C am o.length ah).ownBlock≠E tb) (aH:∀a∈o,0<=a/\a<256) (hl:(B.b (1 - j)).length+o.length<=17592186044416):
  Calls T 79 #[b (E ⟨A,30,F⟩),C am o.length ah] D λe w'=>e=g (y K (bD B j o).1)/\oC D w' S A tb j cs (bD B j o):=by
 have w:=i (ya R I ag o.length (by omega));have H:=i λQ (ai:G No D Q)=>(yd (ai.has R (λa=>a)) I ax (ag.aD ai) (1 - j) (by omega) am ah o (aI.mod ai (λ_ _ a=>a)) aK aH hl).mono λe w' ⟨aU,aV,aW⟩=>(⟨aU,aV.wide (λf m=>m.imp id (λm=>bF ai.size m)),aW⟩:e=_/\ae w' (λf=>S f\/D.heap.size<=f) tb (dS B (1 - j) o).2/\G S Q w');have P:=i R;have ap:=i ag;have lt:=R.lt;have aa:=i R.lt;have M:=i ax
 have ak:=i ag.cd;have aY:K.wrap (1 - (j:Int))=((1 - j:Nat):Int):=by rw[jB];omega
 clear R ag aI aK hl aH ax;unfold bD;unfold rV at w;by_cases af:B.room<(B.used:Int)+o.length
 ·rw[if_pos af] at w ⊢;have aO:=i af;generalize o.length=aT at *;clear af aO H;go_enter func79,ntmps79;go_wp2_with fail;refine(k w).mono ?_;rintro e aB ⟨rfl,q⟩;have z:=i q;clear q;go_wp2;go_ret;exact⟨rfl,((k ap).aD (k z)).wide (λ_ m=>.inl m),(k z).has (k P) (λa=>a),(k z).mono (λ_ _ a=>a.elim)⟩
 rw[if_neg af] at w ⊢;clear af;by_cases aj:o=[]
 ·subst aj;simp only[if_true];rw[if_neg (by simp)];have s:=i λQ (av:ae Q (λf=>S f\/D.heap.size<=f) tb B)=>rI av j (by omega);clear H;have hlen:([]:List Int).length=0:=rfl;rw[hlen] at w ⊢;generalize dQ B j=ao at *;obtain⟨ar,ab⟩:=ao;simp only at s ⊢
  cases ar with
  |false=>
   rw[if_pos rfl];go_enter func79,ntmps79;go_wp2_with fail;refine(k w).mono ?_;rintro e r ⟨rfl,c⟩;have d:=c.has (k P) (λa=>a);have s:=i ((k s) r.drew (((k ap).aD c.drew).wide (λ_ m=>.inl m)));have N:=i (λw3 t3 n=>tf (C:=(false,ab)) (w2:=r.drew) (w3:=w3) (i:=j) c.size d (k M) (k aa) (k ak) (c.drew.mono (λ_ _ a=>a.elim)) t3 n);clear c;have d0:=d.cell 30;rw[I] at d0;have d1:=d.cell 31;rw[J] at d1
   have au:=d.lt;clear d;go_wp2_with fail;go_region_with (go_at_call 71;refine(k s).mono ?_;rintro e w3 ⟨rfl,t3,n⟩;have x:=i ((k N) w3 t3 n);have p:=((k x)).1;have O:=i (rW p _ I);clear p t3 n)
   all_goals go_wp2_with fail
   all_goals refine(k O).mono ?_
   all_goals rintro e aX ⟨rfl,rfl⟩
   all_goals go_wp2
   all_goals go_ret
   all_goals exact⟨rfl,(k x).2.2.1 (by trivial)⟩
  |true=>
   rw[if_neg (by simp)];go_enter func79,ntmps79;go_wp2_with fail;refine(k w).mono ?_;rintro e r ⟨rfl,c⟩;have d:=c.has (k P) (λa=>a);have s:=i ((k s) r.drew (((k ap).aD c.drew).wide (λ_ m=>.inl m)));have N:=i (λw3 t3 n=>tf (C:=(true,ab)) (w2:=r.drew) (w3:=w3) (i:=j) c.size d (k M) (k aa) (k ak) (c.drew.mono (λ_ _ a=>a.elim)) t3 n);clear c;have d0:=d.cell 30;rw[I] at d0;have d1:=d.cell 31
   rw[J] at d1;have au:=d.lt;clear d;go_wp2_with fail;go_region_with (go_at_call 71;refine(k s).mono ?_;rintro e w3 ⟨rfl,t3,n⟩;have x:=i ((k N) w3 t3 n);have p:=((k x)).1;have ay:=p.cell 31;rw[J] at ay;have aA:=p.cell 32;rw[aF] at aA;have aS:=p.lt;have aR:=p.frozen;clear p t3 n)
   all_goals go_wp2_with fail
   all_goals go_ret
   all_goals exact⟨rfl,(k x).2.2.2 (by trivial)⟩
 ·rw[if_neg aj];have aZ:(o.length:Int)>0:=by have:=List.length_pos_iff.2 aj;omega
  generalize dS B (1 - j) o=aM at *;obtain⟨aQ,aq⟩:=aM;generalize o.length=aT at *;simp only at H ⊢;clear aj
  cases aQ with
  |false=>
   rw[if_pos rfl];go_enter func79,ntmps79;go_wp2_with fail;refine(k w).mono ?_;rintro e aB ⟨rfl,q⟩;have t:=q.has (k P) (λa=>a);have ad:=t.cell 31;rw[J] at ad;have aL:=t.lt;have L:=i ((k H) _ q);have Y:=i t;have z:=i q;clear t q w H;go_wp2_with fail;refine(k L).mono ?_;rintro e r ⟨rfl,t2,c⟩;have aw:=c.has (k Y) (k M);have O:=i (rW aw _ I);have aE:=i t2;have aC:=i aw
   have aD:=i (((k z).mono (S':=λf=>S f\/f=A) (λ_ _ a=>a.elim)).trans (c.mono (λ_ _ m=>.inl m)));clear t2 c aw L;go_wp2_with fail;refine(k O).mono ?_;rintro e w3 ⟨rfl,rfl⟩
   have aN:=i (show oC D (r.setCell ⟨A,30,F⟩ (b F)) S A tb j cs (16,aq) from
    ⟨(k aE).mod (S':=λf=>f=A) ((G.refl _ r).at 30 _) (λf m e=>by
      subst e
      obtain m|m:=m
      ·exact k M m
      ·have:=k aa;omega),(k aC).set 30 _,(k aD).setCell (p:=⟨A,30,F⟩) (.inl (.inr rfl)) _⟩)
   clear O aC aD aE;go_wp2;go_ret;exact⟨rfl,k aN⟩
  |true=>
   rw[if_neg (by simp)];have s:=i λQ (av:ae Q (λf=>S f\/D.heap.size<=f) tb aq)=>rI av j (by omega);generalize dQ aq j=ao at *;obtain⟨ar,ab⟩:=ao;simp only at s ⊢
   cases ar with
   |false=>
    rw[if_pos rfl];go_enter func79,ntmps79;go_wp2_with fail;refine(k w).mono ?_;rintro e aB ⟨rfl,q⟩;have t:=q.has (k P) (λa=>a);have ad:=t.cell 31;rw[J] at ad;have aL:=t.lt;have L:=i ((k H) _ q);have Y:=i t;have z:=i q;clear t q w H;go_wp2_with fail;refine(k L).mono ?_;rintro e r ⟨rfl,t2,c⟩;have d:=c.has (k Y) (k M);have s:=i ((k s) r.drew (t2.aD (G.refl No r).drew))
    have N:=i (λw3 t3 n=>tf (C:=(false,ab)) (w2:=r.drew) (w3:=w3) (i:=j) (bF (k z).size c.size) d (k M) (k aa) (k ak) ((((k z).mono (S':=λf=>S f\/f=A) (λ_ _ a=>a.elim)).trans (c.mono (λ_ _ m=>.inl m))).drew) t3 n);clear t2 c L;have d0:=d.cell 30;rw[I] at d0;have d1:=d.cell 31;rw[J] at d1;have au:=d.lt;clear d;go_wp2_with fail
    go_region_with (go_at_call 71;refine(k s).mono ?_;rintro e w3 ⟨rfl,t3,n⟩;have x:=i ((k N) w3 t3 n);have p:=((k x)).1;have O:=i (rW p _ I);clear p t3 n)
    all_goals go_wp2_with fail
    all_goals refine(k O).mono ?_
    all_goals rintro e aX ⟨rfl,rfl⟩
    all_goals go_wp2
    all_goals go_ret
    all_goals exact⟨rfl,(k x).2.2.1 (by trivial)⟩
   |true=>
    rw[if_neg (by simp)];go_enter func79,ntmps79;go_wp2_with fail;refine(k w).mono ?_;rintro e aB ⟨rfl,q⟩;have t:=q.has (k P) (λa=>a);have ad:=t.cell 31;rw[J] at ad;have aL:=t.lt;have L:=i ((k H) _ q);have Y:=i t;have z:=i q;clear t q w H;go_wp2_with fail;refine(k L).mono ?_;rintro e r ⟨rfl,t2,c⟩;have d:=c.has (k Y) (k M);have s:=i ((k s) r.drew (t2.aD (G.refl No r).drew))
    have N:=i (λw3 t3 n=>tf (C:=(true,ab)) (w2:=r.drew) (w3:=w3) (i:=j) (bF (k z).size c.size) d (k M) (k aa) (k ak) ((((k z).mono (S':=λf=>S f\/f=A) (λ_ _ a=>a.elim)).trans (c.mono (λ_ _ m=>.inl m))).drew) t3 n);clear t2 c L;have d0:=d.cell 30;rw[I] at d0;have d1:=d.cell 31;rw[J] at d1;have au:=d.lt;clear d;go_wp2_with fail
    go_region_with (go_at_call 71;refine(k s).mono ?_;rintro e w3 ⟨rfl,t3,n⟩;have x:=i ((k N) w3 t3 n);have p:=((k x)).1;have ay:=p.cell 31;rw[J] at ay;have aA:=p.cell 32;rw[aF] at aA;have aS:=p.lt;have aR:=p.frozen;clear p t3 n)
    all_goals go_wp2_with fail
    all_goals go_ret
    all_goals exact⟨rfl,(k x).2.2.2 (by trivial)⟩
structure gK (T T':u) (i:Nat) (xs:List Int) (l:Nat):Prop where
 b:∀j,T'.b j=if j=i then xs else T.b j
 last:∀j,T'.last j=if j=i then l else T.last j
 room:T'.room=T.room
theorem gK.put(a:u) (c:Nat) (xs:List Int) (d:Nat) (e:Int):gK a (a.put c xs d e) c xs d:=⟨λ_=>rfl,λ_=>rfl,rfl⟩
theorem gK.trans{e f i:u} {d:Nat} {xs ys:List Int} {m j:Nat} (a:gK e f d xs m) (c:gK f i d ys j):gK e i d ys j:=by
 refine⟨λk=>?_,λk=>?_,c.room.trans a.room⟩
 ·rw[c.b,a.b];split<;>rfl
 ·rw[c.last,a.last];split<;>rfl
theorem Am{a:u} {c:Nat} {d:List Int} (e:(dS a c d).1=true):gK a (dS a c d).2 c (a.b c++d) (a.b c++d).length/\(a.used:Int)+d.length<=a.room/\a.fuse≠0:=by
 unfold dS lC eX at *;by_cases i:a.room<(a.used:Int)+d.length\/a.fuse=0
 ·simp only[if_pos i] at e;simp at e
 ·simp only[if_neg i] at e ⊢;rw[if_pos (by simp)] at e ⊢;by_cases j:(a.put c (a.b c++d) (a.last c) (eK a.fuse)).fuse=0
  ·rw[if_pos j] at e;simp at e
  ·rw[if_neg j] at e ⊢;have k:¬a.room<(a.used:Int)+d.length:=λf=>i (.inl f);have f:(a.put c (a.b c++d) (a.last c) (eK a.fuse)).b c=a.b c++d:=if_pos rfl;refine⟨?_,by omega,λf=>i (.inr f)⟩;simp only;rw[f];exact(gK.put a c (a.b c++d) (a.last c) (eK a.fuse)).trans (gK.put _ c _ _ _)
theorem Ao{a:u} {c:Nat} {d:List Int} (e:(dS a c d).1=false) (k:(a.used:Int)+d.length<=a.room):(dS a c d).2.fuse=0/\((dS a c d).2=a\/gK a (dS a c d).2 c (a.b c++d) (a.last c)):=by
 unfold dS lC eX at *;by_cases f:a.room<(a.used:Int)+d.length\/a.fuse=0
 ·have hf:a.fuse=0:=by obtain j|j:=f;omega;exact j
  simp only[if_pos f] at e ⊢;rw[if_neg (by simp)];exact⟨hf,.inl rfl⟩
 ·simp only[if_neg f] at e ⊢;rw[if_pos (by simp)] at e ⊢;by_cases i:(a.put c (a.b c++d) (a.last c) (eK a.fuse)).fuse=0
  ·rw[if_pos i] at e ⊢;exact⟨i,.inr (gK.put _ _ _ _ _)⟩
  ·rw[if_neg i] at e;simp at e
theorem vH{a:u} {c:Nat} (d:(dQ a c).1=true):gK a (dQ a c).2 c [] 0:=by
 unfold dQ at *;by_cases e:a.fuse=0
 ·rw[if_pos e] at d;simp at d
 ·rw[if_neg e];exact gK.put _ _ _ _ _
theorem vI{a:u} {e:Nat} (d:(dQ a e).1=false):(dQ a e).2=a/\a.fuse=0:=by
 unfold dQ at *;by_cases c:a.fuse=0
 ·rw[if_pos c];exact⟨rfl,c⟩
 ·rw[if_neg c] at d;simp at d
theorem JC{a:u} {c:Nat} (d:(eX a c).1=true):gK a (eX a c).2 c (a.b c) (a.b c).length:=by
 unfold eX at *;by_cases e:a.fuse=0
 ·rw[if_pos e] at d;simp at d
 ·rw[if_neg e];exact gK.put _ _ _ _ _
theorem JD{a:u} {e:Nat} (d:(eX a e).1=false):(eX a e).2=a/\a.fuse=0:=by
 unfold eX at *;by_cases c:a.fuse=0
 ·rw[if_pos c];exact⟨rfl,c⟩
 ·rw[if_neg c] at d;simp at d
theorem JE(a:u) (c:Nat) (d:List Int):((fM a c d).1=0/\gK a (fM a c d).2 c (a.b c++d) (a.b c++d).length)\/((fM a c d).1=15/\(fM a c d).2=a/\a.room<(a.used:Int)+d.length)\/((fM a c d).1=16/\(fM a c d).2.fuse=0/\((fM a c d).2=a\/gK a (fM a c d).2 c (a.b c++d) (a.last c))):=by
 unfold fM;by_cases f:a.room<(a.used:Int)+d.length
 ·rw[if_pos f];exact .inr (.inl ⟨rfl,rfl,f⟩)
 ·rw[if_neg f];by_cases e:(dS a c d).1=true
  ·rw[if_pos e];exact .inl ⟨rfl,(Am e).1⟩
  ·rw[if_neg e];have e:(dS a c d).1=false:=by simpa using e
   exact .inr (.inr ⟨rfl,Ao e (by omega)⟩)
theorem Ap(a:u) {c:Nat} (hi:c<2) (d:List Int):((bD a c d).1=0/\(∀j,(bD a c d).2.b j=if j=c then[] else if j=1 - c then a.b (1 - c)++d else a.b j)/\(∀j,(bD a c d).2.last j=if j=c then 0 else if j=1 - c then(if d=[] then a.last (1 - c) else(a.b (1 - c)++d).length) else a.last j)/\(bD a c d).2.room=a.room)\/
  ((bD a c d).1=15/\(bD a c d).2=a/\a.room<(a.used:Int)+d.length)\/((bD a c d).1=16/\(bD a c d).2.fuse=0/\((bD a c d).2=a\/(d≠[]/\∃p,gK a (bD a c d).2 (1 - c) (a.b (1 - c)++d) p))):=by
 unfold bD;by_cases o:a.room<(a.used:Int)+d.length
 ·rw[if_pos o];exact .inr (.inl ⟨rfl,rfl,o⟩)
 rw[if_neg o];simp only;by_cases m:d=[]
 ·subst m;simp only[if_true];rw[if_neg (by simp)];by_cases i:(dQ a c).1=false
  ·rw[if_pos i];have:=vI i;exact .inr (.inr ⟨rfl,by simp only;rw[this.1];exact this.2,.inl this.1⟩)
  ·rw[if_neg i];have f:=vH (by simpa using i:(dQ a c).1=true);refine .inl ⟨rfl,λj=>?_,λj=>?_,f.room⟩
   ·simp only;rw[f.b];by_cases e:j=c
    ·rw[if_pos e,if_pos e]
    ·rw[if_neg e,if_neg e];split
     ·rename_i e;rw[e];simp
     ·rfl
   ·simp only;rw[f.last];by_cases e:j=c
    ·rw[if_pos e,if_pos e]
    ·rw[if_neg e,if_neg e];split
     ·rename_i e;rw[e]
     ·rfl
 ·rw[if_neg m];by_cases n:(dS a (1 - c) d).1=false
  ·rw[if_pos n];have f:=Ao n (by omega);exact .inr (.inr ⟨rfl,f.1,f.2.imp id (λq=>⟨m,_,q⟩)⟩)
  ·rw[if_neg n];have f:=(Am (by simpa using n:(dS a (1 - c) d).1=true)).1;by_cases i:(dQ (dS a (1 - c) d).2 c).1=false
   ·rw[if_pos i];have k:=vI i;refine .inr (.inr ⟨rfl,by simp only;rw[k.1];exact k.2,.inr ⟨m,(a.b (1 - c)++d).length,?_⟩⟩);simp only;rw[k.1];exact f
   ·rw[if_neg i];have k:=vH (by simpa using i:(dQ (dS a (1 - c) d).2 c).1=true);refine .inl ⟨rfl,λj=>?_,λj=>?_,k.room.trans f.room⟩
    ·simp only;rw[k.b,f.b]
    ·simp only;rw[k.last,f.last,if_neg m]
end Go.Proofs.YthhibagcpjeihaaGreat
