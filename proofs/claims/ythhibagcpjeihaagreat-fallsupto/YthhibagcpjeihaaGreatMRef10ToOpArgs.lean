import Derived.Test.YthhibagcpjeihaaGreatMRef4ToKeep1
import Derived.Test.YthhibagcpjeihaaGreatMCellsToEnc
import Derived.Deep.DeepCutAuto
import Derived.OpenShut
import Derived.Test.YthhibagcpjeihaaGreatMBaseToPut2
import Derived.Deep.MidRow
import Derived.Deep.Slices
import Derived.SizedLaws
open Go.Proofs.Tryz
open Go.Value renaming int->y,pointer->b,slice->C,agg->l,tuple->h,ownBlock->az
open Go.IntKind renaming i64->K
open Option renaming none->F,some->E
open Go renaming World->U,Value->V
open Go.Proofs.Tryz renaming prog->T
open Go.Ending renaming returned->g
open Go.Obj renaming cells->v
open Nat renaming lt_of_lt_of_le->aG,le_trans->bF,le_refl->bK,not_lt_zero->dZ
open Array renaming getElem?_eq_getElem->bX,getElem?_setIfInBounds_ne->jS,getElem?_setIfInBounds_self_of_lt->ry
open List renaming getElem?_eq_getElem->cK,length_take->dj,getElem_mem->dD,length_set->iU,getElem_set_self->lH,set_getElem_self->lI,getElem?_take->lj,getElem_set_ne->nX
open Option.some renaming inj->br
open Go.World renaming block_lt_of_cell?->jA
namespace Go.Proofs.YthhibagcpjeihaaGreat
open Go.RowKit
open M
set_option linter.unusedVariables false
set_option linter.unusedSimpArgs false
set_option maxRecDepth 100000
set_option maxHeartbeats 8000000
theorem sE{gf f m cap:Nat} {p:O} {j:List B} {w:U} (i:eg w gf f m cap p j) (c:L p j) (d a:Int) (e:p.has d a=true):Calls T 85 #[b (E ⟨gf,f,F⟩),l #[y K d,y K a]] w λk w'=>k=g (y K (p.idx d a:Nat))/\G No w w':=by
 refine(xg gf f m cap j d a w i.row i.len i.slice).mono ?_;rintro k w' ⟨s,⟨u,hi,n,o,rfl⟩|⟨t,rfl⟩⟩
 ·obtain⟨q,r⟩:=aM.wf.nF c e;have:u=p.idx d a:=aM.wf.tM c hi (aM.wf.gV c e) (by rw[q];exact n) (by rw[r];exact o);rw[this];exact⟨rfl,s⟩
 ·exact absurd (aM.wf.nF c e) (t _ (aM.wf.gV c e))
theorem sF{gf i m cap:Nat} {p:O} {a:List B} {w:U} (j:eg w gf i m cap p a) (s:L p a) (f c:Int) (q:p.has f c=false):Calls T 85 #[b (E ⟨gf,i,F⟩),l #[y K f,y K c]] w λd w'=>d=g (y K (-1))/\G No w w':=by
 refine(xg gf i m cap a f c w j.row j.len j.slice).mono ?_;rintro d w' ⟨r,⟨e,hi,n,o,rfl⟩|⟨t,rfl⟩⟩
 ·have:=(aM.wf.jd s hi).1;have d:p.has a[e].row a[e].P=p.has f c:=by rw[n,o]
  have k:p.has a[e].row a[e].P=true:=this;rw[d,q] at k
  cases k
 ·exact⟨rfl,r⟩
theorem GY(n gf j:Nat) (a:N) (w:U) (d:∀e,G No w e->Calls T 85 #[b (E ⟨gf,j,F⟩),l #[y K a.j,y K a.ac]] e λc w'=>c=g (y K (-1))/\G No e w'):Calls T 55 #[b (E ⟨n,0,F⟩),b (E ⟨gf,j,F⟩),l (Q a)] w λc w'=>c=g (y K 5)/\G No w w':=by
 have d:=i d;have f:=i ((G.refl No w).alloc (v (Q a) 41));unfold Q at *;go_enter func55,ntmps55;go_wp2_with fail;refine((k d) _ (k f)).mono ?_;rintro c o ⟨rfl,m⟩;go_wp2;go_ret;exact⟨rfl,(k f).trans m⟩
theorem zk(ad gf n d cap c:Nat) (p:O) (o:List B) (A t ac J I D z time:Int) (a:O) (w:U) (P:eg w gf n d cap p o) (q:B) (hi:c<o.length) (ab:o[c]=q) (M:∀j,G No w j->Calls T 85 #[b (E ⟨gf,n,F⟩),l #[y K t,y K ac]] j λm w'=>m=g (y K (c:Nat))/\G No j w') (S:Int) (Q:List B)
  (N:∀j,G No w j->Calls T 86 #[b (E ⟨ad,0,F⟩),b (E ⟨gf,n,F⟩),b (E ⟨d,c* 6,F⟩),l #[y K 2,y K A,y K t,y K ac,y K J,y K I,y K D,y K z,y K time,y K a.rows,y K a.w,y K a.front,y K a.I,y K a.R,y K a.n,y K a.f]] j λm w'=>m=g (y K S)/\aY j w' gf n d cap p o Q):Calls T 55 #[b (E ⟨ad,0,F⟩),b (E ⟨gf,n,F⟩),l #[y K 2,y K A,y K t,y K ac,y K J,y K I,y K D,y K z,y K time,y K a.rows,y K a.w,y K a.front,y K a.I,y K a.R,y K a.n,y K a.f]] w λm w'=>m=g (y K S)/\aY w w' gf n d cap p o Q:=by
 have N:=i N;have M:=i M;have af:=i λj (ao:G No w j)=>eo ao P.slice (λe=>e);have aw:(c:Int)<(o.length:Int):=by omega
 have av:(0:Int)<=c:=by omega
 have ax:¬(c:Int)<0:=by omega
 have H:=i P;have r:=i ab;have R:=i ((G.refl No w).alloc (v #[y K 2,y K A,y K t,y K ac,y K J,y K I,y K D,y K z,y K time,y K a.rows,y K a.w,y K a.front,y K a.I,y K a.R,y K a.n,y K a.f] 41));have L:=i (X.new w #[y K 2,y K A,y K t,y K ac,y K J,y K I,y K D,y K z,y K time,y K a.rows,y K a.w,y K a.front,y K a.I,y K a.R,y K a.n,y K a.f] 41);clear P ab;go_enter func55,ntmps55;go_wp2_with fail
 refine((k M) _ (k R)).mono ?_;rintro m s ⟨rfl,u⟩;have x:=i ((k R).trans u);have aA:=(k af) _ (k x);have hb:=(u.has (k L) (λe=>e)).cell;have ay:=(u.has (k L) (λe=>e)).lt;have aq:=i (u.has (k L) (λe=>e));have f:=(k H).row.mod (k x) (λe=>e);have ag:s.cell? ⟨d,c* 6,F⟩=E (y K q.row):=by have:=f.row c hi;rw[k r] at this;exact this
 have ah:s.cell? ⟨d,c* 6+1,F⟩=E (y K q.P):=by have:=f.P c hi;rw[k r] at this;exact this
 have ai:s.cell? ⟨d,c* 6+2,F⟩=E (y K q.st):=by have:=f.st c hi;rw[k r] at this;exact this
 have aj:s.cell? ⟨d,c* 6+3,F⟩=E (y K q.pa):=by have:=f.pa c hi;rw[k r] at this;exact this
 have ak:s.cell? ⟨d,c* 6+4,F⟩=E (y K q.cl):=by have:=f.cl c hi;rw[k r] at this;exact this
 have am:s.cell? ⟨d,c* 6+5,F⟩=E (y K q.un):=by have:=f.un c hi;rw[k r] at this;exact this
 have au:=f.gm;have ar:=i f;clear u f;clear ag ah ai aj ak am;go_wp2_with fail;refine((k N) _ (k x)).mono ?_;rintro m ap ⟨rfl,aa,Y⟩;have ae:=i (show aY w ap gf n d cap p o Q from⟨aa,((k x).mono (λ_ _ e=>e.elim)).trans Y⟩);clear aa Y hb;go_wp2;go_ret;exact⟨rfl,k ae⟩
theorem zm(ad gf n d cap c:Nat) (p:O) (o:List B) (A t ac J I D z time:Int) (a:O) (w:U) (P:eg w gf n d cap p o) (q:B) (hi:c<o.length) (ab:o[c]=q) (M:∀j,G No w j->Calls T 85 #[b (E ⟨gf,n,F⟩),l #[y K t,y K ac]] j λm w'=>m=g (y K (c:Nat))/\G No j w') (S:Int) (Q:List B)
  (N:∀j,G No w j->Calls T 86 #[b (E ⟨ad,0,F⟩),b (E ⟨gf,n,F⟩),b (E ⟨d,c* 6,F⟩),l #[y K 3,y K A,y K t,y K ac,y K J,y K I,y K D,y K z,y K time,y K a.rows,y K a.w,y K a.front,y K a.I,y K a.R,y K a.n,y K a.f]] j λm w'=>m=g (y K S)/\aY j w' gf n d cap p o Q):Calls T 55 #[b (E ⟨ad,0,F⟩),b (E ⟨gf,n,F⟩),l #[y K 3,y K A,y K t,y K ac,y K J,y K I,y K D,y K z,y K time,y K a.rows,y K a.w,y K a.front,y K a.I,y K a.R,y K a.n,y K a.f]] w λm w'=>m=g (y K S)/\aY w w' gf n d cap p o Q:=by
 have N:=i N;have M:=i M;have af:=i λj (ao:G No w j)=>eo ao P.slice (λe=>e);have aw:(c:Int)<(o.length:Int):=by omega
 have av:(0:Int)<=c:=by omega
 have ax:¬(c:Int)<0:=by omega
 have H:=i P;have r:=i ab;have R:=i ((G.refl No w).alloc (v #[y K 3,y K A,y K t,y K ac,y K J,y K I,y K D,y K z,y K time,y K a.rows,y K a.w,y K a.front,y K a.I,y K a.R,y K a.n,y K a.f] 41));have L:=i (X.new w #[y K 3,y K A,y K t,y K ac,y K J,y K I,y K D,y K z,y K time,y K a.rows,y K a.w,y K a.front,y K a.I,y K a.R,y K a.n,y K a.f] 41);clear P ab;go_enter func55,ntmps55;go_wp2_with fail
 refine((k M) _ (k R)).mono ?_;rintro m s ⟨rfl,u⟩;have x:=i ((k R).trans u);have aA:=(k af) _ (k x);have hb:=(u.has (k L) (λe=>e)).cell;have ay:=(u.has (k L) (λe=>e)).lt;have aq:=i (u.has (k L) (λe=>e));have f:=(k H).row.mod (k x) (λe=>e);have ag:s.cell? ⟨d,c* 6,F⟩=E (y K q.row):=by have:=f.row c hi;rw[k r] at this;exact this
 have ah:s.cell? ⟨d,c* 6+1,F⟩=E (y K q.P):=by have:=f.P c hi;rw[k r] at this;exact this
 have ai:s.cell? ⟨d,c* 6+2,F⟩=E (y K q.st):=by have:=f.st c hi;rw[k r] at this;exact this
 have aj:s.cell? ⟨d,c* 6+3,F⟩=E (y K q.pa):=by have:=f.pa c hi;rw[k r] at this;exact this
 have ak:s.cell? ⟨d,c* 6+4,F⟩=E (y K q.cl):=by have:=f.cl c hi;rw[k r] at this;exact this
 have am:s.cell? ⟨d,c* 6+5,F⟩=E (y K q.un):=by have:=f.un c hi;rw[k r] at this;exact this
 have au:=f.gm;have ar:=i f;clear u f;clear ag ah ai aj ak am;go_wp2_with fail;refine((k N) _ (k x)).mono ?_;rintro m ap ⟨rfl,aa,Y⟩;have ae:=i (show aY w ap gf n d cap p o Q from⟨aa,((k x).mono (λ_ _ e=>e.elim)).trans Y⟩);clear aa Y hb;go_wp2;go_ret;exact⟨rfl,k ae⟩
theorem GZ(aC gf u e cap a:Nat) (p:O) (o:List B) (Q z ac aa Y r N time:Int) (c:O) (w:U) (R:eg w gf u e cap p o) (d:B) (hi:a<o.length) (ao:o[a]=d) (I:∀q,G No w q->Calls T 85 #[b (E ⟨gf,u,F⟩),l #[y K z,y K ac]] q λt w'=>t=g (y K (a:Nat))/\G No q w'):Calls T 55 #[b (E ⟨aC,0,F⟩),b (E ⟨gf,u,F⟩),l #[y K 4,y K Q,y K z,y K ac,y K aa,y K Y,y K r,y K N,y K time,y K c.rows,y K c.w,y K c.front,y K c.I,y K c.R,y K c.n,y K c.f]] w λt w'=>t=g (y K (cC d.st d.pa r))/\aY w w' gf u e cap p o (gC (cC d.st d.pa r) o a d.aS):=by
 have J:=i λq=>uu d r q;unfold dc at J;generalize cC d.st d.pa r=P at *;have I:=i I;have aw:=i λq (ax:G No w q)=>eo ax R.slice (λf=>f);have aF:(a:Int)<(o.length:Int):=by omega
 have aE:(0:Int)<=a:=by omega
 have aI:¬(a:Int)<0:=by omega
 have H:=i R;have m:=i ao;have ad:=i ((G.refl No w).alloc (v #[y K 4,y K Q,y K z,y K ac,y K aa,y K Y,y K r,y K N,y K time,y K c.rows,y K c.w,y K c.front,y K c.I,y K c.R,y K c.n,y K c.f] 41));have D:=i (X.new w #[y K 4,y K Q,y K z,y K ac,y K aa,y K Y,y K r,y K N,y K time,y K c.rows,y K c.w,y K c.front,y K c.I,y K c.R,y K c.n,y K c.f] 41);clear R ao;go_enter func55,ntmps55;go_wp2_with fail
 refine((k I) _ (k ad)).mono ?_;rintro t s ⟨rfl,x⟩;have L:=i ((k ad).trans x);have aB:=(k aw) _ (k L);have hb:=(x.has (k D) (λf=>f)).cell;have ay:=(x.has (k D) (λf=>f)).lt;have aq:=i (x.has (k D) (λf=>f));have j:=(k H).row.mod (k L) (λf=>f);have ae:s.cell? ⟨e,a* 6,F⟩=E (y K d.row):=by have:=j.row a hi;rw[k m] at this;exact this
 have af:s.cell? ⟨e,a* 6+1,F⟩=E (y K d.P):=by have:=j.P a hi;rw[k m] at this;exact this
 have ag:s.cell? ⟨e,a* 6+2,F⟩=E (y K d.st):=by have:=j.st a hi;rw[k m] at this;exact this
 have ah:s.cell? ⟨e,a* 6+3,F⟩=E (y K d.pa):=by have:=j.pa a hi;rw[k m] at this;exact this
 have ai:s.cell? ⟨e,a* 6+4,F⟩=E (y K d.cl):=by have:=j.cl a hi;rw[k m] at this;exact this
 have aj:s.cell? ⟨e,a* 6+5,F⟩=E (y K d.un):=by have:=j.un a hi;rw[k m] at this;exact this
 have ak:=j.gm;have av:=i j;clear x j
 have ar:=i λ(ap:U) (am:G No w ap)=>(show aY w ((((((ap.setCell ⟨e,a* 6,F⟩ (y K d.row)).setCell ⟨e,a* 6+1,F⟩ (y K d.P)).setCell ⟨e,a* 6+2,F⟩ (y K 0)).setCell ⟨e,a* 6+3,F⟩ (y K 0)).setCell ⟨e,a* 6+4,F⟩ (y K 0)).setCell ⟨e,a* 6+5,F⟩ (y K 0)) gf u e cap p o (gC 0 o a d.aS) from
  ⟨((k H).row.mod am (λf=>f)).iW a hi d.aS,(am.mono (S':=λS=>S=e) (λ_ _ f=>f.elim)).iW (S:=λS=>S=e) rfl a _ _ _ _ _ _⟩)
 go_upto_region 10 with fail;go_cut [9] (λaA aD=>aA=y K P/\Hid (G No w aD))
 case first=>
  go_region_with (go_at_call 87;refine((k J) _).mono ?_;rintro t ab ⟨rfl,aH⟩)
  all_goals go_wp2
  all_goals go_meet
  all_goals exact⟨rfl,(k L).drew.trans (by assumption)⟩
 case rest=>
  obtain⟨rfl,M⟩:=hcut;generalize wc=ab at *;clear ae af ag ah ai aj ak hb ay aq av aB J;by_cases A:P=0
  ·subst A;have n:=(k H).row.mod (k M) (λf=>f);have ae:ab.cell? ⟨e,a* 6,F⟩=E (y K d.row):=by have:=n.row a hi;rw[k m] at this;exact this
   have af:ab.cell? ⟨e,a* 6+1,F⟩=E (y K d.P):=by have:=n.P a hi;rw[k m] at this;exact this
   have ag:=n.st a hi;have ah:=n.pa a hi;have ai:=n.cl a hi;have aj:=n.un a hi;have ak:=n.gm;clear n;go_wp2;go_ret;exact⟨rfl,(k ar) _ (k M)⟩
  ·have hd:(P==0)=false:=by simpa using A
   have au:=i A;clear A;go_wp2;go_ret;rw[jX (k au)];exact⟨rfl,aY.same (k H) (k M)⟩
theorem G0(av gf r f cap d:Nat) (p:O) (m:List B) (M x ac R Q P L time:Int) (c:O) (w:U) (N:eg w gf r f cap p m) (a:B) (hi:d<m.length) (am:m[d]=a) (J:∀q,G No w q->Calls T 85 #[b (E ⟨gf,r,F⟩),l #[y K x,y K ac]] q λz w'=>z=g (y K (d:Nat))/\G No q w') (ak:a.st=0->a.pa=0/\a.cl=0/\a.un=0):
  Calls T 55 #[b (E ⟨av,0,F⟩),b (E ⟨gf,r,F⟩),l #[y K 6,y K M,y K x,y K ac,y K R,y K Q,y K P,y K L,y K time,y K c.rows,y K c.w,y K c.front,y K c.I,y K c.R,y K c.n,y K c.f]] w λz w'=>z=g (y K (if a.st≠0 then 9 else 0))/\aY w w' gf r f cap p m (gC (if a.st≠0 then 9 else 0) m d ⟨a.row,a.P,3,0,0,0⟩):=by
 have D:=i ak;clear ak;generalize aj:(if a.st≠0 then(9:Int) else 0)=ai;have t:=i aj;clear aj;have J:=i J;have ar:=i λq (au:G No w q)=>eo au N.slice (λj=>j);have aC:(d:Int)<(m.length:Int):=by omega
 have aB:(0:Int)<=d:=by omega
 have aD:¬(d:Int)<0:=by omega
 have H:=i N;have n:=i am;have S:=i ((G.refl No w).alloc (v #[y K 6,y K M,y K x,y K ac,y K R,y K Q,y K P,y K L,y K time,y K c.rows,y K c.w,y K c.front,y K c.I,y K c.R,y K c.n,y K c.f] 41));have A:=i (X.new w #[y K 6,y K M,y K x,y K ac,y K R,y K Q,y K P,y K L,y K time,y K c.rows,y K c.w,y K c.front,y K c.I,y K c.R,y K c.n,y K c.f] 41);clear N am;go_enter func55,ntmps55;go_wp2_with fail
 refine((k J) _ (k S)).mono ?_;rintro z o ⟨rfl,s⟩;have u:=i ((k S).trans s);have aF:=(k ar) _ (k u);have hb:=(s.has (k A) (λj=>j)).cell;have aE:=(s.has (k A) (λj=>j)).lt;have aw:=i (s.has (k A) (λj=>j));have e:=(k H).row.mod (k u) (λj=>j);have ad:o.cell? ⟨f,d* 6,F⟩=E (y K a.row):=by have:=e.row d hi;rw[k n] at this;exact this
 have ae:o.cell? ⟨f,d* 6+1,F⟩=E (y K a.P):=by have:=e.P d hi;rw[k n] at this;exact this
 have ay:o.cell? ⟨f,d* 6+2,F⟩=E (y K a.st):=by have:=e.st d hi;rw[k n] at this;exact this
 have af:o.cell? ⟨f,d* 6+3,F⟩=E (y K a.pa):=by have:=e.pa d hi;rw[k n] at this;exact this
 have ag:o.cell? ⟨f,d* 6+4,F⟩=E (y K a.cl):=by have:=e.cl d hi;rw[k n] at this;exact this
 have ah:o.cell? ⟨f,d* 6+5,F⟩=E (y K a.un):=by have:=e.un d hi;rw[k n] at this;exact this
 have aA:=e.gm;have ax:=i e;clear s e;by_cases hs:a.st=0
 ·have hd:(a.st !=0)=false:=by simpa using hs
  have I:=i (show ai=0 from by rw[<-k t,if_neg (by simpa using hs)]);obtain⟨Y,aa,ab⟩:=(k D) hs;have ao:=i (show(⟨a.row,a.P,3,a.pa,a.cl,a.un⟩:B)=⟨a.row,a.P,3,0,0,0⟩ from by rw[Y,aa,ab]);have ap:=i (aY.same (k H) (k u));clear ad ae af ag ah Y aa ab t D hs;go_wp2;go_ret;rw[k I,qo,<-k ao];have aq:aY w o gf r f cap p m (m.set d a):=by rw[<-k n,lI];exact k ap
  exact⟨rfl,aq.put hi 2 (by omega) (y K 3) ⟨a.row,a.P,3,a.pa,a.cl,a.un⟩ rfl⟩
 ·have hd:(a.st !=0)=true:=by simpa using hs
  have I:=i (show ai=9 from by rw[<-k t,if_pos (by simpa using hs)]);clear ad ae af ag ah t D hs;go_wp2;go_ret;rw[k I,jX (by omega)];exact⟨rfl,aY.same (k H) (k u)⟩
theorem G3(av gf r f cap d:Nat) (p:O) (m:List B) (M x ac R Q P L time:Int) (c:O) (w:U) (N:eg w gf r f cap p m) (a:B) (hi:d<m.length) (am:m[d]=a) (J:∀q,G No w q->Calls T 85 #[b (E ⟨gf,r,F⟩),l #[y K x,y K ac]] q λz w'=>z=g (y K (d:Nat))/\G No q w') (ak:a.st=3->a.pa=0/\a.cl=0/\a.un=0):
  Calls T 55 #[b (E ⟨av,0,F⟩),b (E ⟨gf,r,F⟩),l #[y K 7,y K M,y K x,y K ac,y K R,y K Q,y K P,y K L,y K time,y K c.rows,y K c.w,y K c.front,y K c.I,y K c.R,y K c.n,y K c.f]] w λz w'=>z=g (y K (if a.st≠3 then 10 else 0))/\aY w w' gf r f cap p m (gC (if a.st≠3 then 10 else 0) m d ⟨a.row,a.P,0,0,0,0⟩):=by
 have D:=i ak;clear ak;generalize aj:(if a.st≠3 then(10:Int) else 0)=ai;have t:=i aj;clear aj;have J:=i J;have ar:=i λq (au:G No w q)=>eo au N.slice (λj=>j);have aC:(d:Int)<(m.length:Int):=by omega
 have aB:(0:Int)<=d:=by omega
 have aD:¬(d:Int)<0:=by omega
 have H:=i N;have n:=i am;have S:=i ((G.refl No w).alloc (v #[y K 7,y K M,y K x,y K ac,y K R,y K Q,y K P,y K L,y K time,y K c.rows,y K c.w,y K c.front,y K c.I,y K c.R,y K c.n,y K c.f] 41));have A:=i (X.new w #[y K 7,y K M,y K x,y K ac,y K R,y K Q,y K P,y K L,y K time,y K c.rows,y K c.w,y K c.front,y K c.I,y K c.R,y K c.n,y K c.f] 41);clear N am;go_enter func55,ntmps55;go_wp2_with fail
 refine((k J) _ (k S)).mono ?_;rintro z o ⟨rfl,s⟩;have u:=i ((k S).trans s);have aF:=(k ar) _ (k u);have hb:=(s.has (k A) (λj=>j)).cell;have aE:=(s.has (k A) (λj=>j)).lt;have aw:=i (s.has (k A) (λj=>j));have e:=(k H).row.mod (k u) (λj=>j);have ad:o.cell? ⟨f,d* 6,F⟩=E (y K a.row):=by have:=e.row d hi;rw[k n] at this;exact this
 have ae:o.cell? ⟨f,d* 6+1,F⟩=E (y K a.P):=by have:=e.P d hi;rw[k n] at this;exact this
 have ay:o.cell? ⟨f,d* 6+2,F⟩=E (y K a.st):=by have:=e.st d hi;rw[k n] at this;exact this
 have af:o.cell? ⟨f,d* 6+3,F⟩=E (y K a.pa):=by have:=e.pa d hi;rw[k n] at this;exact this
 have ag:o.cell? ⟨f,d* 6+4,F⟩=E (y K a.cl):=by have:=e.cl d hi;rw[k n] at this;exact this
 have ah:o.cell? ⟨f,d* 6+5,F⟩=E (y K a.un):=by have:=e.un d hi;rw[k n] at this;exact this
 have aA:=e.gm;have ax:=i e;clear s e;by_cases hs:a.st=3
 ·have hd:(a.st !=3)=false:=by simpa using hs
  have I:=i (show ai=0 from by rw[<-k t,if_neg (by simpa using hs)]);obtain⟨Y,aa,ab⟩:=(k D) hs;have ao:=i (show(⟨a.row,a.P,0,a.pa,a.cl,a.un⟩:B)=⟨a.row,a.P,0,0,0,0⟩ from by rw[Y,aa,ab]);have ap:=i (aY.same (k H) (k u));clear ad ae af ag ah Y aa ab t D hs;go_wp2;go_ret;rw[k I,qo,<-k ao];have aq:aY w o gf r f cap p m (m.set d a):=by rw[<-k n,lI];exact k ap
  exact⟨rfl,aq.put hi 2 (by omega) (y K 0) ⟨a.row,a.P,0,a.pa,a.cl,a.un⟩ rfl⟩
 ·have hd:(a.st !=3)=true:=by simpa using hs
  have I:=i (show ai=10 from by rw[<-k t,if_pos (by simpa using hs)]);clear ad ae af ag ah t D hs;go_wp2;go_ret;rw[k I,jX (by omega)];exact⟨rfl,aY.same (k H) (k u)⟩
theorem sG(aB gf n j cap c:Nat) (p:O) (q:List B) (Q x ac D A z N time:Int) (a:O) (w:U) (R:eg w gf n j cap p q) (r:B) (hi:c<q.length) (ad:q[c]=r) (J:∀d,G No w d->Calls T 85 #[b (E ⟨gf,n,F⟩),l #[y K x,y K ac]] d λf w'=>f=g (y K (c:Nat))/\G No d w') (ae P:Int) (S:List B)
  (M:∀d,G No w d->Calls T 85 #[b (E ⟨gf,n,F⟩),l #[y K D,y K A]] d λf w'=>f=g (y K ae)/\G No d w') (L:∀d,G No w d->Calls T 88 #[b (E ⟨gf,n,F⟩),y K c,y K ae,y K z] d λf w'=>f=g (y K P)/\aY d w' gf n j cap p q S):Calls T 55 #[b (E ⟨aB,0,F⟩),b (E ⟨gf,n,F⟩),l #[y K 5,y K Q,y K x,y K ac,y K D,y K A,y K z,y K N,y K time,y K a.rows,y K a.w,y K a.front,y K a.I,y K a.R,y K a.n,y K a.f]] w λf w'=>f=g (y K P)/\aY w w' gf n j cap p q S:=by
 have M:=i M;have L:=i L;have J:=i J;have ai:=i λd (au:G No w d)=>eo au R.slice (λe=>e);have aF:(c:Int)<(q.length:Int):=by omega
 have aE:(0:Int)<=c:=by omega
 have aI:¬(c:Int)<0:=by omega
 have H:=i R;have s:=i ad;have aa:=i ((G.refl No w).alloc (v #[y K 5,y K Q,y K x,y K ac,y K D,y K A,y K z,y K N,y K time,y K a.rows,y K a.w,y K a.front,y K a.I,y K a.R,y K a.n,y K a.f] 41));have I:=i (X.new w #[y K 5,y K Q,y K x,y K ac,y K D,y K A,y K z,y K N,y K time,y K a.rows,y K a.w,y K a.front,y K a.I,y K a.R,y K a.n,y K a.f] 41);clear R ad;go_enter func55,ntmps55;go_wp2_with fail
 refine((k J) _ (k aa)).mono ?_;rintro f o ⟨rfl,u⟩;have t:=i ((k aa).trans u);have aA:=(k ai) _ (k t);have hb:=(u.has (k I) (λe=>e)).cell;have ax:=(u.has (k I) (λe=>e)).lt;have Y:=i (u.has (k I) (λe=>e));have m:=(k H).row.mod (k t) (λe=>e);have aj:o.cell? ⟨j,c* 6,F⟩=E (y K r.row):=by have:=m.row c hi;rw[k s] at this;exact this
 have ak:o.cell? ⟨j,c* 6+1,F⟩=E (y K r.P):=by have:=m.P c hi;rw[k s] at this;exact this
 have am:o.cell? ⟨j,c* 6+2,F⟩=E (y K r.st):=by have:=m.st c hi;rw[k s] at this;exact this
 have ao:o.cell? ⟨j,c* 6+3,F⟩=E (y K r.pa):=by have:=m.pa c hi;rw[k s] at this;exact this
 have ap:o.cell? ⟨j,c* 6+4,F⟩=E (y K r.cl):=by have:=m.cl c hi;rw[k s] at this;exact this
 have aq:o.cell? ⟨j,c* 6+5,F⟩=E (y K r.un):=by have:=m.un c hi;rw[k s] at this;exact this
 have ar:=m.gm;have ah:=i m;clear u m;clear aj ak am ao ap aq ar ah;go_upto_region 15 with fail;go_cut [6] (λay aC=>ay=y K P/\Hid (aY w aC gf n j cap p q S))
 case first=>
  have ab:=λd (av:G No o d)=>(av.has (k Y) (λe=>e)).cell;have af:=i ab;clear ab
  go_region_with (first
   |(go_at_call 85;refine((k M) _ (k t).drew).mono ?_;rintro f aL ⟨rfl,aw⟩;have aD:=(k af) _ ((G.refl No o).drew.trans aw))
   |(go_at_call 88;refine((k L) _ ((k t).drew.trans (by assumption))).mono ?_;rintro f aM ⟨rfl,aK,aH⟩))
  all_goals go_wp2
  all_goals go_meet
  all_goals exact⟨rfl,(by assumption),(((k t).drew.trans (by assumption)).mono (λ_ _ e=>e.elim)).trans (by assumption)⟩
 case rest=>
  obtain⟨rfl,ag⟩:=hcut;generalize wc=aN at *;clear hb ax Y aA t;go_wp2;go_ret;exact⟨rfl,k ag⟩
set_option maxHeartbeats 4000000
def cN(p:O) (a:List B) (c:N) (now:Int):List B:=if aH p a c now=0 then dg p a c else a
theorem G4{x gf t u cap:Nat} {p:O} {a:List B} {w:U} (j:eg w gf t u cap p a) (P:L p a) (r:N) (aI:2<=r.kind/\r.kind<=7) (am: -9223372036854775808<=r.time/\r.time<=9223372036854775807) (now:Int) (aB:0<=now/\now<=4611686018427387000) (aM:w.cell? ⟨x,1,F⟩=E (y K now)):Calls T 55 #[b (E ⟨x,0,F⟩),b (E ⟨gf,t,F⟩),l (Q r)] w λI w'=>
   I=g (y K (aH p a r now))/\aY w w' gf t u cap p a (cN p a r now):=by
 by_cases D:p.has r.j r.ac=true
 case neg=>
  have D:p.has r.j r.ac=false:=by simpa using D
  have n:aH p a r now=5:=by unfold aH;rw[if_neg (by omega),if_pos (.inl D)]
  have hl:cN p a r now=a:=by unfold cN;rw[n,if_neg (by omega)]
  rw[n,hl];refine(GY x gf t r w (λq s=>sF (j.mod s) P _ _ D)).mono ?_;rintro I w' ⟨rfl,aL⟩;exact⟨rfl,aY.same j aL⟩
 obtain⟨hi,ad,ax,aw⟩:=kF P D;have hF:∀q,G No w q->Calls T 85 #[b (E ⟨gf,t,F⟩),l #[y K r.j,y K r.ac]] q λI w'=>I=g (y K (p.idx r.j r.ac:Nat))/\G No q w':=λq s=>sE (j.mod s) P _ _ D;have ag:(aq p a r.j r.ac).wf:=by rw[ad];exact P.cQ _ (dD hi)
 have ab:(aq p a r.j r.ac).row=r.j:=by rw[ad];exact ax
 have Y:(aq p a r.j r.ac).P=r.ac:=by rw[ad];exact aw
 have aA:p.limited=true:=P.limited;obtain⟨kind,m,i,ac,e,d,f,k,time,o⟩:=r;simp only at aI am D hi ad ax aw hF ag ab Y;have aa:∀au:Int,(au=5->p.has e d=true)->¬(p.has i ac=false\/(au=5/\p.has e d=false)):=λau aE j=>by
  obtain j|⟨j,av⟩:=j
  ·rw[D] at j;cases j
  ·rw[aE j] at av;cases av
 generalize hs:aq p a i ac=c at *;have z:a[p.idx i ac]=c:=ad.symm;have aK:kind=2\/kind=3\/kind=4\/kind=5\/kind=6\/kind=7:=by omega
 have aC:∀q,G No w q->q.cell? ⟨x,1,F⟩=E (y K now):=λq s=>eo s aM (λaS=>aS);obtain rfl|rfl|rfl|rfl|rfl|rfl:=aK
 ·
  have n:aH p a ⟨2,m,i,ac,e,d,f,k,time,o⟩ now=if bP ⟨2,m,i,ac,e,d,f,k,time,o⟩≠0 then bP ⟨2,m,i,ac,e,d,f,k,time,o⟩ else jW now time c.st (M.leftOf p a k.toNat):=by
   unfold aH jW;simp only;rw[if_neg (by omega),if_neg (aa 2 (λj=>absurd j (by decide))),if_pos trivial,hs]
  by_cases hb:bP ⟨2,m,i,ac,e,d,f,k,time,o⟩=0
  ·rw[if_neg (by simpa using hb)] at n;obtain⟨ap,ar,ae,af⟩:=jV hb;simp only at ap ar ae af;obtain⟨A,rfl⟩:∃A:Nat,k=(A:Int):=⟨k.toNat,by omega⟩;have hl:cN p a ⟨2,m,i,ac,e,d,f,A,time,o⟩ now=gC (jW now time c.st (M.leftOf p a A)) a (p.idx i ac) ⟨c.row,c.P,1,f,A,time⟩:=by
    unfold cN gC dg;rw[n,ab,Y];simp
   rw[n,hl];exact zk x gf t u cap _ p a m i ac e d f A time o w j c hi z hF _ _ (λq s=>En x gf t u cap _ p a m i ac e d f time now A o q (j.mod s) c ⟨hi,z⟩ aA (by omega) ⟨ae,af⟩ am aB (aC q s))
  ·rw[if_pos hb] at n;have hl:cN p a ⟨2,m,i,ac,e,d,f,k,time,o⟩ now=a:=by unfold cN;rw[n,if_neg hb]
   rw[hl,n];exact zk x gf t u cap _ p a m i ac e d f k time o w j c hi z hF _ _ (λq s=>xK x gf t u cap _ p a ⟨2,m,i,ac,e,d,f,k,time,o⟩ q (j.mod s) hb)
 ·
  have n:aH p a ⟨3,m,i,ac,e,d,f,k,time,o⟩ now=if bP ⟨3,m,i,ac,e,d,f,k,time,o⟩≠0 then bP ⟨3,m,i,ac,e,d,f,k,time,o⟩ else iV f k (M.leftOf p a k.toNat) c:=by
   unfold aH iV;simp only;rw[if_neg (by omega),if_neg (aa 3 (λj=>absurd j (by decide))),if_neg (by decide),if_pos trivial,hs]
  by_cases hb:bP ⟨3,m,i,ac,e,d,f,k,time,o⟩=0
  ·rw[if_neg (by simpa using hb)] at n;obtain⟨ap,ar,ae,af⟩:=jV hb;simp only at ap ar ae af;obtain⟨A,rfl⟩:∃A:Nat,k=(A:Int):=⟨k.toNat,by omega⟩;have hl:cN p a ⟨3,m,i,ac,e,d,f,A,time,o⟩ now=gC (iV f A (M.leftOf p a A) c) a (p.idx i ac) ⟨c.row,c.P,2,f,A,0⟩:=by
    unfold cN gC dg;rw[n,ab,Y];simp
   rw[n,hl];exact zm x gf t u cap _ p a m i ac e d f A time o w j c hi z hF _ _ (λq s=>Eo x gf t u cap _ p a m i ac e d f time now A o q (j.mod s) c ⟨hi,z⟩ aA (by omega) ⟨ae,af⟩ am aB (aC q s) (λX=>(ag.bare (.inl X)).2.2))
  ·rw[if_pos hb] at n;have hl:cN p a ⟨3,m,i,ac,e,d,f,k,time,o⟩ now=a:=by unfold cN;rw[n,if_neg hb]
   rw[hl,n];exact zm x gf t u cap _ p a m i ac e d f k time o w j c hi z hF _ _ (λq s=>xK x gf t u cap _ p a ⟨3,m,i,ac,e,d,f,k,time,o⟩ q (j.mod s) hb)
 ·
  have n:aH p a ⟨4,m,i,ac,e,d,f,k,time,o⟩ now=cC c.st c.pa f:=by
   unfold aH;simp only;rw[if_neg (by omega),if_neg (aa 4 (λj=>absurd j (by decide))),if_neg (by decide),if_neg (by decide),if_pos trivial,hs]
  have hl:cN p a ⟨4,m,i,ac,e,d,f,k,time,o⟩ now=gC (cC c.st c.pa f) a (p.idx i ac) c.aS:=by
   unfold cN gC dg;rw[n];simp[hs]
  rw[n,hl];exact GZ x gf t u cap _ p a m i ac e d f k time o w j c hi z hF
 ·
  by_cases S:p.has e d=true
  case neg=>
   have S:p.has e d=false:=by simpa using S
   have n:aH p a ⟨5,m,i,ac,e,d,f,k,time,o⟩ now=5:=by unfold aH;simp only;rw[if_neg (by omega),if_pos (.inr ⟨trivial,S⟩)]
   have hl:cN p a ⟨5,m,i,ac,e,d,f,k,time,o⟩ now=a:=by unfold cN;rw[n,if_neg (by omega)]
   rw[n,hl];exact sG x gf t u cap _ p a m i ac e d f k time o w j c hi z hF (-1) 5 a (λq s=>sF (j.mod s) P _ _ S) (λq s=>Ep gf t u cap _ p a f q (j.mod s))
  obtain⟨ak,ao,aQ,aN⟩:=kF P S;have n:aH p a ⟨5,m,i,ac,e,d,f,k,time,o⟩ now=if cC c.st c.pa f≠0 then cC c.st c.pa f else if (aq p a e d).st≠0 then 9 else 0:=by
   unfold aH;simp only;rw[if_neg (by omega),if_neg (show ¬(p.has i ac=false\/True/\p.has e d=false) from by rw[D,S];simp),if_neg (by decide),if_neg (by decide),if_neg (by decide),if_pos trivial,hs]
  have aR:(aq p a e d).row=e:=by rw[ao];exact aQ
  have aO:(aq p a e d).P=d:=by rw[ao];exact aN
  generalize aU:aq p a e d=R at *;have ah:a[p.idx e d]=R:=ao.symm;have aj:∀q,G No w q->Calls T 85 #[b (E ⟨gf,t,F⟩),l #[y K e,y K d]] q λI w'=>I=g (y K (p.idx e d:Nat))/\G No q w':=λq s=>sE (j.mod s) P _ _ S;by_cases J:cC c.st c.pa f=0
  case neg=>
   rw[if_pos J] at n;have hl:cN p a ⟨5,m,i,ac,e,d,f,k,time,o⟩ now=a:=by unfold cN;rw[n,if_neg J]
   rw[n,hl];exact sG x gf t u cap _ p a m i ac e d f k time o w j c hi z hF _ _ a aj (λq s=>xM gf t u cap _ _ p a f q (j.mod s) c R hi z ak ah _ J (.inl rfl))
  rw[if_neg (by simpa using J)] at n;by_cases ai:R.st=0
  case neg=>
   rw[if_pos ai] at n;have hl:cN p a ⟨5,m,i,ac,e,d,f,k,time,o⟩ now=a:=by unfold cN;rw[n,if_neg (by omega)]
   rw[n,hl];exact sG x gf t u cap _ p a m i ac e d f k time o w j c hi z hF _ 9 a aj (λq s=>xM gf t u cap _ _ p a f q (j.mod s) c R hi z ak ah _ (by omega) (.inr ⟨J,ai,rfl⟩))
  rw[if_neg (by simpa using ai)] at n;have ay:p.idx i ac≠p.idx e d:=by
   intro I;have:c.st=R.st:=by
    rw[<-z,<-ah];congr 1;exact getElem_congr_idx I
   unfold cC at J;split at J
   ·omega
   ·rename_i aF;have aT:c.st=1\/c.st=2:=by
     by_cases aD:c.st=1\/c.st=2
     ·exact aD
     ·exact absurd aD (by simpa using aF)
    omega
  have hl:cN p a ⟨5,m,i,ac,e,d,f,k,time,o⟩ now=(a.set (p.idx e d) ⟨R.row,R.P,c.st,c.pa,c.cl,c.un⟩).set (p.idx i ac) c.aS:=by
   unfold cN dg;rw[n,if_pos rfl,aR,aO];simp only[hs];rw[if_neg (by decide),if_neg (by decide),if_pos trivial];exact List.set_comm _ _ ay
  rw[n,hl];exact sG x gf t u cap _ p a m i ac e d f k time o w j c hi z hF _ 0 _ aj (λq s=>Er gf t u cap _ _ p a f q (j.mod s) c R hi z ak ah ay J ai)
 ·
  have n:aH p a ⟨6,m,i,ac,e,d,f,k,time,o⟩ now=if c.st≠0 then 9 else 0:=by
   unfold aH;simp only;rw[if_neg (by omega),if_neg (aa 6 (λj=>absurd j (by decide))),if_neg (by decide),if_neg (by decide),if_neg (by decide),if_neg (by decide),if_pos trivial,hs]
  have hl:cN p a ⟨6,m,i,ac,e,d,f,k,time,o⟩ now=gC (if c.st≠0 then 9 else 0) a (p.idx i ac) ⟨c.row,c.P,3,0,0,0⟩:=by
   unfold cN gC dg;rw[n,ab,Y];simp
  rw[n,hl];exact G0 x gf t u cap _ p a m i ac e d f k time o w j c hi z hF (λX=>ag.bare (.inl X))
 ·
  have n:aH p a ⟨7,m,i,ac,e,d,f,k,time,o⟩ now=if c.st≠3 then 10 else 0:=by
   unfold aH;simp only;rw[if_neg (by omega),if_neg (aa 7 (λj=>absurd j (by decide))),if_neg (by decide),if_neg (by decide),if_neg (by decide),if_neg (by decide),if_neg (by decide),hs]
  have hl:cN p a ⟨7,m,i,ac,e,d,f,k,time,o⟩ now=gC (if c.st≠3 then 10 else 0) a (p.idx i ac) ⟨c.row,c.P,0,0,0,0⟩:=by
   unfold cN gC dg;rw[n];simp[hs,B.aS,ab,Y]
  rw[n,hl];exact G3 x gf t u cap _ p a m i ac e d f k time o w j c hi z hF (λX=>ag.bare (.inr X))
theorem dn.set{w:U} {gf cap:Nat} {xs:List e} (c:dn w gf cap xs) (a:Nat) (hi:a<xs.length) (j:Nat) (x:j<10) (d:V) (p:e) (z:aV p=(aV xs[a]).setIfInBounds j d):dn (w.setCell ⟨gf,a* 10+j,F⟩ d) gf cap (xs.set a p):=by
 obtain⟨q,r,s,k⟩:=c.cur;refine⟨⟨_,r.set (a* 10+j) d,by simpa using s,λo u A n=>?_⟩,by simpa using c.le,c.max⟩;have m:o<xs.length:=by simpa using u
 have t:a* 10+j<q.size:=by
  have:=c.le;omega
 by_cases f:o=a
 ·subst f;simp only[lH];rw[z];by_cases i:j=A
  ·subst i;rw[ry t,ry (by simpa [aV] using x)]
  ·rw[jS (by omega),jS i];exact k _ m _ n
 ·rw[jS (by omega),nX (λc=>f c.symm)];exact k _ m _ n
theorem dn.same{w:U} {gf cap:Nat} {xs:List e} (a:dn w gf cap xs) (c:Nat) (hi:c<xs.length) (m:e) (r:aV m=aV xs[c]):dn w gf cap (xs.set c m):=by
 obtain⟨n,o,p,f⟩:=a.cur;refine⟨⟨n,o,p,λk q s j=>?_⟩,by simpa using a.le,a.max⟩;have i:k<xs.length:=by simpa using q
 by_cases d:k=c
 ·subst d;simp only[lH];rw[r];exact f _ i _ j
 ·rw[nX (λa=>d a.symm)];exact f _ i _ j
structure aF (w:U) (ow:Nat->Nat) (wb:Nat) (v:V) (xs:List e) (now:Int):Prop where
 has:X w wb #[v,y K now] 72
 jk:(xs=[]/\v=C F 0 0)\/∃gf cap,v=C (E ⟨gf,0,F⟩) xs.length cap/\dn w gf cap xs/\ow gf=2
 aW:ow wb=1
 aU:∀k,ow k≠0->k<w.heap.size
 S:∀i (h:i<xs.length),aE w xs[i].g xs[i].cap xs[i].f.S/\ow xs[i].g=i+3/\L xs[i].f.p xs[i].f.S
 dU:xs.length<=20
theorem aF.mod{w w':U} {k:Nat->Nat} {n:Nat} {m:V} {xs:List e} {now:Int} {S:Nat->Prop} (a:aF w k n m xs now) (i:G S w w') (hs:∀j,k j≠0->¬S j):aF w' k n m xs now:=by
 refine⟨i.has a.has (hs _ (by rw[a.aW];omega)),?_,a.aW,λj p=>aG (a.aU j p) i.size,λq hi=>?_,a.dU⟩
 ·obtain c|⟨o,cap,c,d,f⟩:=a.jk
  ·exact .inl c
  ·exact .inr ⟨o,cap,c,d.mod i (hs _ (by rw[f];omega)),f⟩
 ·obtain⟨c,d,f⟩:=a.S q hi;exact⟨c.mod i (hs _ (by rw[d];omega)),d,f⟩
theorem aF.zn{w w':U} {r:Nat->Nat} {u:Nat} {t:V} {xs:List e} {now:Int} (c:aF w r u t xs now) (a:Nat) (hi:a<xs.length) (n:List B) (hl:n.length=xs[a].f.S.length) (I:L xs[a].f.p n) (D:aE w' xs[a].g xs[a].cap n) (m:G (λd=>d=xs[a].g) w w'):aF w' r u t (xs.set a ⟨⟨xs[a].f.num,xs[a].f.p,n,xs[a].f.ep⟩,xs[a].g,xs[a].cap⟩) now:=by
 have s:=(c.S a hi).2.1;have q:∀d,r d≠a+3->¬(d=xs[a].g):=λd k f=>by rw[f] at k;exact k s
 refine⟨m.has c.has (q _ (by rw[c.aW];omega)),?_,c.aW,λd k=>aG (c.aU d k) m.size,λp z=>?_,by simpa using c.dU⟩
 ·obtain⟨rfl,_⟩|⟨x,cap,o,i,j⟩:=c.jk
  ·exact absurd hi (dZ _)
  ·refine .inr ⟨x,cap,by rw[iU];exact o,(i.mod m (q _ (by rw[j];omega))).same a hi _ ?_,j⟩;simp[aV,hl]
 ·have A:p<xs.length:=by simpa using z
  by_cases f:p=a
  ·subst f;simp only[lH];exact⟨D,s,I⟩
  ·rw[nX (λc=>f c.symm)];obtain⟨o,i,j⟩:=c.S p A;exact⟨o.mod m (q _ (by rw[i];omega)),i,j⟩
theorem aF.uX{w:U} {p:Nat->Nat} {u gf cap:Nat} {xs:List e} {now:Int} (c:aF w p u (C (E ⟨gf,0,F⟩) xs.length cap) xs now) (a:Nat) (hi:a<xs.length) (q:Int):aF (w.setCell ⟨gf,a* 10+9,F⟩ (y K q)) p u (C (E ⟨gf,0,F⟩) xs.length cap) (xs.set a ⟨⟨xs[a].f.num,xs[a].f.p,xs[a].f.S,q⟩,xs[a].g,xs[a].cap⟩) now:=by
 have r:p gf=2/\dn w gf cap xs:=by
  obtain⟨rfl,f⟩|⟨I,B,k,f,m⟩:=c.jk
  ·exact absurd hi (dZ _)
  ·injection k with i D x;injection i with i;injection i with i;subst i x;exact⟨m,f⟩
 have o:G (λd=>d=gf) w (w.setCell ⟨gf,a* 10+9,F⟩ (y K q)):=(G.refl (λd=>d=gf) w).setCell (p:=⟨gf,a* 10+9,F⟩) (.inl rfl) _;have t:∀d,p d≠2->¬(d=gf):=λd n j=>by rw[j] at n;exact n r.1
 refine⟨o.has c.has (t _ (by rw[c.aW];omega)),.inr ⟨gf,cap,by rw[iU],r.2.set a hi 9 (by omega) _ _ (by simp[aV]),r.1⟩,c.aW,λd n=>aG (c.aU d n) o.size,λs z=>?_,by simpa using c.dU⟩;have A:s<xs.length:=by simpa using z
 obtain⟨k,f,m⟩:=c.S s A;by_cases j:s=a
 ·subst j;simp only[lH];exact⟨k.mod o (t _ (by rw[f];omega)),f,m⟩
 ·rw[nX (λc=>j c.symm)];exact⟨k.mod o (t _ (by rw[f];omega)),f,m⟩
theorem aF.zo{w:U} {o:Nat->Nat} {c:Nat} {q:V} {xs:List e} {now:Int} (d:aF w o c q xs now) (n:Int):aF (w.setCell ⟨c,1,F⟩ (y K n)) o c q xs n:=by
 have m:G (λa=>a=c) w (w.setCell ⟨c,1,F⟩ (y K n)):=(G.refl (λa=>a=c) w).setCell (p:=⟨c,1,F⟩) (.inl rfl) _;have p:∀a,o a≠1->¬(a=c):=λa k r=>by rw[r] at k;exact k d.aW
 refine⟨d.has.set 1 _,?_,d.aW,λa k=>aG (d.aU a k) m.size,λt hi=>?_,d.dU⟩
 ·obtain f|⟨s,cap,f,i,j⟩:=d.jk
  ·exact .inl f
  ·exact .inr ⟨s,cap,f,i.mod m (p _ (by rw[j];omega)),j⟩
 ·obtain⟨f,i,j⟩:=d.S t hi;exact⟨f.mod m (p _ (by rw[i];omega)),i,j⟩
theorem gF{p:O} {a:List B} (c:L p a):a.length<=120:=aM.wf.gU c
theorem aF.fl{w:U} {n:Nat->Nat} {q gf cap:Nat} {xs:List e} {now:Int} (m:aF w n q (C (E ⟨gf,0,F⟩) xs.length cap) xs now) (a:Nat) (hi:a<xs.length):eg w gf (a* 10) xs[a].g xs[a].cap xs[a].f.p xs[a].f.S:=by
 have k:n gf=2/\dn w gf cap xs:=by
  obtain⟨rfl,f⟩|⟨t,r,i,f,j⟩:=m.jk
  ·exact absurd hi (dZ _)
  ·injection i with c s p;injection c with c;injection c with c;subst c p;exact⟨j,f⟩
 obtain⟨i,f,j⟩:=m.S a hi;refine⟨i,bF (gF j) (by show 120<=1000;omega),λo=>by rw[o,f] at k;omega,k.2.cell a hi 8 (by omega),λd u=>?_⟩;have:=k.2.cell a hi (4+d) (by omega);rw[<-Nat.add_assoc] at this;rw[this];have:d=0\/d=1\/d=2\/d=3:=by omega
 obtain rfl|rfl|rfl|rfl:=this<;>rfl
def gq(d:List Int) (c:Nat) (a:bU):Nat:=if c<d.length then(min (max (d.getD c 0) 0) ((a.xs.length:Int) - a.last)).toNat else 0
theorem G5(d:List Int) (c:Nat) (a:bU) (e:a.last<=a.xs.length):a.last+gq d c a<=a.xs.length:=by
 unfold gq;split
 ·omega
 ·omega
def spoilt(a:Int):V->V
 | .int .u8 d=>.int .u8 (bits BinOp.xor .u8 d a)
 |c=>c
def gG(d:List Int) (c:Nat) (e:Int) (a:bU):List V:=
 if gq d c a=0 then a.xs.take (a.last+gq d c a) else(a.xs.take (a.last+gq d c a)).set (a.last+gq d c a - 1) (spoilt e (a.xs.getD (a.last+gq d c a - 1) undef))
theorem zp{w:U} {i:TypeId} {f:Option Addr} {e cap a:Nat} {xs:List V} (j:w.ownsRow 0 i 1 (C f e cap) e xs) (r:a<=e):w.ownsRow 0 i 1 (C f a cap) a (xs.take a):=by
 have hl:=j.1;refine⟨by rw[dj];omega,?_⟩;obtain⟨o,u⟩|⟨n,t,m,hv,hb,q,x,p,hcs,s⟩:=j.2
 ·injection o with c k d;subst c d;exact .inl ⟨by rw[show a=0 by omega],by omega⟩
 ·injection hv with c k d;subst c d;refine .inr ⟨n,cap,m,rfl,hb,q,by omega,p,hcs,?_⟩;rw[<-s,List.take_take,Nat.mul_one,Nat.mul_one,Nat.min_eq_left r]
theorem G6{w:U} {f:TypeId} {d c cap j:Nat} {xs:List V} (k:w.ownsRow 0 f 1 (C (E ⟨d,0,F⟩) c cap) c xs) (z:j<c) (e:V):(w.setCell ⟨d,j,F⟩ e).ownsRow 0 f 1 (C (E ⟨d,0,F⟩) c cap) c (xs.set j e):=by
 refine⟨by rw[iU];exact k.1,?_⟩;obtain⟨o,x⟩|⟨u,t,n,hv,hb,q,r,p,hcs,s⟩:=k.2
 ·injection o with a m i
  cases a
 ·injection hv with a m i;subst i;injection a with a;injection a with a;subst a;refine .inr ⟨d,cap,n.setIfInBounds j e,rfl,hb,(X.set (T:=f) q j e),r,p,by simpa using hcs,?_⟩;rw[<-s,Array.toList_setIfInBounds,List.take_set]
theorem G7{S:Nat->Prop} {w:U} {c:Nat} {d:D} (f:d.ok S w c) (a:Nat) (hi:a<4) {ao:Option Addr} {cap m:Nat} (hv:(d.get a).v=C ao (d.get a).xs.length cap) (r:m<=(d.get a).xs.length):(d.put ⟨C ao m cap,(d.get a).xs.take m,m⟩ a).ok S ((w.setCell ⟨c,a* 2,F⟩ (C ao m cap)).setCell ⟨c,a* 2+1,F⟩ (y K m)) c/\
   G S w ((w.setCell ⟨c,a* 2,F⟩ (C ao m cap)).setCell ⟨c,a* 2+1,F⟩ (y K m)):=by
 have i:=f.get a hi;have p:=i.owns;rw[hv] at p;have s:=zp p r;have o:(C ao m cap).ownBlock≠E c:=by
  have:=i.ne f.has;rw[hv] at this
  cases ao<;>simp_all [az]
 have q:∀e,(C ao m cap).ownBlock=E e->(d.get a).v.ownBlock=E e:=λe j=>by
  rw[hv]
  cases ao<;>simp_all [az]
 have k:m=((d.get a).xs.take m).length:=by rw[dj];omega
 refine⟨f.put a hi _ (((G.refl _ w).setCell (p:=⟨c,a* 2,F⟩) (.inl (.inl rfl)) _).setCell (p:=⟨c,a* 2+1,F⟩) (.inl (.inl rfl)) _) ?_ ?_ (λ_ n=>n) (λe j=>.inl (q e j)),?_⟩
 ·have:=(f.has.set (a* 2) (C ao m cap)).set (a* 2+1) (y K m)
  rwa [rB _ _ ((d.get a).xs.take m) _ a hi] at this
 ·refine⟨?_,by rw[<-k];exact bK _,by rw[<-k];have:=i.len;omega,λn t=>i.bytes n (List.mem_of_mem_take t),λe j=>i.cd e (q e j)⟩;rw[<-k];exact gT (gT s o _) o _
 ·exact((G.refl _ w).setCell (p:=⟨c,a* 2,F⟩) (.inl f.cd) _).setCell (p:=⟨c,a* 2+1,F⟩) (.inl f.cd) _
theorem G8{S:Nat->Prop} {w:U} {c:Nat} {e:D} (f:e.ok S w c) (a:Nat) (hi:a<4) {g cap k:Nat} (hv:(e.get a).v=C (E ⟨g,0,F⟩) (e.get a).xs.length cap) (x:k+1<=(e.get a).xs.length) (d:Int) (B:0<=d/\d<256):(e.put ⟨C (E ⟨g,0,F⟩) (k+1) cap,((e.get a).xs.take (k+1)).set k (.int .u8 d),k+1⟩ a).ok S
    (((w.setCell ⟨c,a* 2,F⟩ (C (E ⟨g,0,F⟩) (k+1) cap)).setCell ⟨g,k,F⟩ (.int .u8 d)).setCell ⟨c,a* 2+1,F⟩ (y K (k+1:Nat))) c/\G S w (((w.setCell ⟨c,a* 2,F⟩ (C (E ⟨g,0,F⟩) (k+1) cap)).setCell ⟨g,k,F⟩ (.int .u8 d)).setCell ⟨c,a* 2+1,F⟩ (y K (k+1:Nat))):=by
 have i:=f.get a hi;have r:=i.owns;have o:g≠c:=by
  have:=i.ne f.has;rw[hv] at this;simpa [az] using this
 have n:S g:=i.cd g (by rw[hv];rfl);rw[hv] at r;have z:=zp r x;have q:(C (E ⟨g,0,F⟩) (k+1) cap).ownBlock≠E c:=by simpa [az] using o
 have A:=G6 (gT (a:=⟨c,a* 2,F⟩) z q (C (E ⟨g,0,F⟩) (k+1) cap)) (Nat.lt_succ_self k) (.int .u8 d);have m:k+1=(((e.get a).xs.take (k+1)).set k (.int .u8 d)).length:=by rw[iU,dj];omega
 have t:Touch c (e.get a) g:=.inr (by rw[hv];rfl)
 refine⟨f.put a hi _ ((((G.refl _ w).setCell (p:=⟨c,a* 2,F⟩) (.inl (.inl rfl)) _).setCell (p:=⟨g,k,F⟩) (.inl t) _).setCell (p:=⟨c,a* 2+1,F⟩) (.inl (.inl rfl)) _) ?_ ?_ (λ_ d=>d)
  (λk u=>.inl (by rw[hv];simpa [az] using u)),?_⟩
 ·have:=((f.has.set (a* 2) (C (E ⟨g,0,F⟩) (k+1) cap)).dB (a:=⟨g,k,F⟩) (λs=>o s.symm) (.int .u8 d)).set (a* 2+1) (y K (k+1:Nat))
  rwa [rB _ _ (((e.get a).xs.take (k+1)).set k (.int .u8 d)) _ a hi] at this
 ·refine⟨?_,by rw[<-m];exact bK _,by rw[<-m];have:=i.len;omega,λI hy=>?_,λJ p=>?_⟩
  ·rw[<-m];exact gT A q _
  ·obtain j|j:=List.mem_or_eq_of_mem_set hy
   ·exact i.bytes I (List.mem_of_mem_take j)
   ·exact⟨d,j,B⟩
  ·simp[az] at p;subst p;exact n
 ·exact(((G.refl _ w).setCell (p:=⟨c,a* 2,F⟩) (.inl f.cd) _).setCell (p:=⟨g,k,F⟩) (.inl n) _).setCell (p:=⟨c,a* 2+1,F⟩) (.inl f.cd) _
theorem zq{S:Nat->Prop} {w wr w':U} {m c:Nat} {a d:D} {e:List Int} {f:Int} (hi:c<4) (s:G S w wr) (hA:∀j,j<c->(d.get j).xs=gG e j f (a.get j)/\(d.get j).last=(gG e j f (a.get j)).length) (q:∀j,c<=j->j<4->d.get j=a.get j) (t:d.room=a.room) (hf:d.fuse=a.fuse)
  (i:bU) (u:i.xs=gG e c f (a.get c)) (hl:i.last=(gG e c f (a.get c)).length) (n:(d.put i c).ok S w' m/\G S wr w'):∃(k:Nat) (t2:D),k<=4/\y K ((c:Int)+1)=y K (k:Int)/\t2.ok S w' m/\G S w w'/\(∀j,j<k->(t2.get j).xs=gG e j f (a.get j)/\(t2.get j).last=(gG e j f (a.get j)).length)/\(∀j,k<=j->j<4->t2.get j=a.get j)/\t2.room=a.room/\t2.fuse=a.fuse:=by
 refine⟨c+1,d.put i c,by omega,rfl,n.1,s.trans n.2,λj r=>?_,λj r o=>?_,?_,?_⟩
 ·rw[p8 _ _ _ _ hi (by omega)];split
  ·rename_i p;subst p;exact⟨u,hl⟩
  ·exact hA j (by omega)
 ·rw[p8 _ _ _ _ hi o,if_neg (by omega)];exact q j (by omega) o
 ·rw[(qa _ _ _).1,t]
 ·rw[(qa _ _ _).2,hf]
theorem G9(B:Nat) (c:List Int) (p:D) (ak:Nat) (ad:Option Addr) (o:Int) (S:Nat->Prop) (w:U) (au:p.ok S w B) (bu:c.length<=9223372036854775807) (ab:Reads w (C ad c.length ak) c.length (c.map (y K))) (aA:0<c.length->∀d,(C ad c.length ak).ownBlock=E d->¬S d):Calls T 23 #[b (E ⟨B,0,F⟩),C ad c.length ak,.int .u8 o] w λaV w'=>aV=g (h #[])/\
   ∃f:D,f.ok S w' B/\G S w w'/\(∀a,a<4->(f.get a).xs=gG c a o (p.get a)/\(f.get a).last=(gG c a o (p.get a)).length)/\f.room=p.room/\f.fuse= -1:=by
 have H:=i au;have aR:=i ab;have aS:=i aA;clear ab aA au;generalize aD:c.length=am at *;have P:=i aD;clear aD;go_enter func23,ntmps23;go_wp2
 go_loopw [9] (λaa wr=>∃(a:Nat) (f:D),a<=4/\aa=y K a/\f.ok S wr B/\G S w wr/\
   (∀j,j<a->(f.get j).xs=gG c j o (p.get j)/\(f.get j).last=(gG c j o (p.get j)).length)/\(∀j,a<=j->j<4->f.get j=p.get j)/\f.room=p.room/\f.fuse=p.fuse) (λa _=>4 - (intOf a).toNat)
 case atStart=>exact⟨0,p,by omega,rfl,k H,G.refl _ _,λj bs=>by omega,λj _ _=>rfl,rfl,rfl⟩
 case round=>
  obtain⟨a,f,hi,rfl,aI,aE,hA,av,aK,hf⟩:=hrel;have ae:=i hA;have af:=i av;have ag:=i aK;have aq:=i hf;have Q:=i aE;have q:=i aI;clear hA av aK hf aE aI;by_cases x:a<4
  ·have bq:(a:Int)<4:=by omega
   have L:f.get a=p.get a:=(k af) a (bK _) x;have t:=(k q).get a x;rw[L] at t;have aQ:=i t;have ah:=(k q).has.cell (a* 2);have ai:=(k q).has.cell (a* 2+1);have ba:=(k q).has.frozen;have ax:=(k q).has;have aO:=i ax;clear ax;rw[(jT _ a x).1,L] at ah;rw[(jT _ a x).2,L] at ai;have A:=i L;clear L;generalize hF:p.get a=e at *;have O:=i hF;clear hF;obtain⟨ar,cap,hv,hlen⟩:=nM t
   have bn:e.xs.length<=cap:=by
    obtain⟨ai,a0⟩|⟨n,aa,aU,I,_,_,bv,_⟩:=t.owns.2
    ·omega
    ·rw[hv] at I;injection I with _ _ bm;omega
   rw[hv] at ah;have R:=i hv;have aB:=t.last;clear hv t;generalize aw:e.xs.length=len at *;generalize hl:e.last=last at *;have s:=i aw;have J:=i hl;clear aw hl;go_upto_if 20 with fail;go_cut [8] (λbk bl=>bk=y K ((gq c a e:Nat):Int)/\∃nq,bl=wr.drewN nq)
   case first=>
    by_cases aj:a<am
    ·have a4:(a:Int)<am:=by omega
     have z:gq c a e=(min (max (c.getD a 0) 0) ((len:Int) - last)).toNat:=by
      unfold gq;rw[if_pos (by rw[k P];exact aj),k s,k J]
     have M:∃N,ad=E N/\wr.cell? (N.add a)=E (y K (c.getD a 0)):=by
      obtain⟨_,ah⟩|⟨N,aa,a6,M⟩:=(k aR).mod (k Q) ((k aS) (by have:=k P;omega))
      ·omega
      ·injection a6 with Y _ _;exact⟨N,Y,M a _ (by simp[k P,aj])⟩
     obtain⟨N,rfl,M⟩:=M;generalize c.getD a 0=ap at M z;obtain a7|a7:=Int.lt_or_le 0 ap
     ·obtain a8|a8:=Int.lt_or_le ((len:Int) - last) ap
      ·have u:gq c a e=len - last:=by omega
       have m:=i u;clear z u;go_wp2;go_quiet (fail)
       all_goals go_wp2
       all_goals go_meet
       all_goals exact⟨by rw[k m];congr 1;omega,_,rfl⟩
      ·have u:((gq c a e:Nat):Int)=ap:=by omega
       have m:=i u;clear z u;go_wp2;go_quiet (fail)
       all_goals go_wp2
       all_goals go_meet
       all_goals exact⟨by rw[k m],_,rfl⟩
     ·have u:gq c a e=0:=by omega
      have m:=i u;clear z u;go_wp2;go_quiet (fail)
      all_goals go_wp2
      all_goals go_meet
      all_goals exact⟨by rw[k m];first|rfl|(congr 1;omega),_,rfl⟩
    ·have a4:¬(a:Int)<am:=by omega
     have z:gq c a e=0:=by
      unfold gq;rw[if_neg (by rw[k P];exact aj)]
     have m:=i z;clear z;go_wp2
     all_goals go_meet
     all_goals exact⟨by rw[k m];rfl,0,rfl⟩
   case rest=>
    obtain⟨rfl,nq,rfl⟩:=hcut;have bt:last+gq c a e<=len:=by have:=G5 c a e (by rw[k s,k J];exact aB);rw[k s,k J] at this;exact this
    generalize aF:gq c a e=ao at *;have m:=i aF;clear aF;by_cases a5:ao=0
    ·subst a5;rw[show(((0:Nat):Int))=0 from rfl];go_wp2_with fail;go_region;go_wp2;have st:=G7 (m:=last) (ao:=ar) (cap:=cap) ((k q).aD ((G.refl No wr).drewN (nq+1))) a x (by rw[k A,k s];exact k R) (by rw[k A,k s];exact aB);have ex:e.xs.take last=gG c a o e:=by unfold gG;rw[if_pos (k m),k m,k J];rfl
     have el:last=(gG c a o e).length:=by rw[<-ex,dj,k s];omega
     refine⟨?_,by simp[intOf];omega⟩;rw[k A] at st;exact zq x (k Q) (k ae) (k af) (k ag) (k aq) _ (by rw[k O];exact ex) (by rw[k O];exact el) ⟨st.1,((G.refl S wr).drewN _).trans st.2⟩
    ·obtain⟨d,ab⟩:∃d,ao=d+1:=⟨ao - 1,by omega⟩;subst ab;have aZ:∃n r,ar=E ⟨n,0,F⟩/\n≠B/\wr.cell? ⟨n,last+d,F⟩=E (.int .u8 r)/\wr.frozen? ⟨n,last+d,F⟩=false/\e.xs[last+d]? =E (.int .u8 r):=by
      have t:=k aQ;have aH:=t.owns;have aC:last+d<e.xs.length:=by rw[k s];omega
      obtain⟨ai,a0⟩|⟨n,aa,aU,I,_,a2,_⟩:=aH.2
      ·omega
      ·obtain⟨r,aL,_,_⟩:=t.bytes (e.xs[last+d]) (dD aC);have aM:e.xs[last+d]? =E (.int .u8 r):=by rw[cK aC,aL]
       have hc:=aH.cells (g:=n) (by rw[I];rfl) (last+d) (.int .u8 r) aM;have aY:(⟨n,0,F⟩:Addr).add (last+d)=⟨n,last+d,F⟩:=by unfold Addr.add;split<;>simp_all
       rw[aY] at hc;rw[k R] at I;injection I with Y _ _;refine⟨n,r,Y,?_,hc,X.frozen (T:=5) a2 _,aM⟩;rintro rfl;exact t.ne (k aO) (by rw[k R,Y];rfl)
     obtain⟨n,r,rfl,bp,aL,bo,aN⟩:=aZ;have aT:=i aN;clear aN;go_wp2_with fail;go_region;go_wp2;go_region;go_wp2;have a9:=wf_bits BinOp.xor .u8 r o;simp[Lit.wf,IntKind.min,IntKind.max,IntKind.signed,IntKind.bits] at a9
     have st:=G8 (k:=last+d) (g:=n) (cap:=cap) ((k q).aD ((G.refl No wr).drewN (nq+1))) a x (by rw[k A,k s];exact k R) (by rw[k A,k s];omega) (bits BinOp.xor .u8 r o) ⟨by omega,by omega⟩;have ex:(e.xs.take (last+d+1)).set (last+d) (.int .u8 (bits BinOp.xor .u8 r o))=gG c a o e:=by
      unfold gG;rw[if_neg (by rw[k m];omega),k m,k J,show last+(d+1) - 1=last+d from by omega];have a3:e.xs.getD (last+d) undef=.int .u8 r:=by simp[List.getD,k aT]
      rw[a3];rfl
     have el:last+d+1=(gG c a o e).length:=by rw[<-ex,iU,dj,k s];omega
     refine⟨?_,by simp[intOf];omega⟩;rw[k A] at st;have ay:=zq x (k Q) (k ae) (k af) (k ag) (k aq) _ (by rw[k O];exact ex) (by rw[k O];exact el) ⟨st.1,((G.refl S wr).drewN _).trans st.2⟩;have aW:last+d+1=last+(d+1):=by omega
     have aX:((last+(d+1):Nat):Int)=(last:Int)+((d:Int)+1):=by omega
     rw[aW,aX] at ay;obtain⟨bb,t2,bc,bd,bf,bh,bi⟩:=ay;exact⟨bb,t2,bc,bd,bf.aD (G.refl No _).drew,bh.drew,bi⟩
  ·obtain rfl:a=4:=by omega
   have a1:=(k q).has.cell 9;have ba:=(k q).has.frozen 9;rw[show f.cells[9]? =E (y K f.fuse) from rfl] at a1;go_wp2;go_end0;refine⟨rfl,{ f with fuse:= -1 },(k q).fuse (-1),(k Q).setCell (p:=⟨B,9,F⟩) (.inl (k q).cd) _,λa hi=>?_,k ag,rfl⟩;rw[lr];exact(k ae) a hi
def sH(c:V):Prop:=∃a:Int,c=y K a/\ -9223372036854775808<=a/\a<=9223372036854775807
section
variable {H:Type} {enc:TypeId×V->H} {w:U} {base:Nat} {spare:Nat->Bool} {held:Bool}
def jm(enc:TypeId×V->H) (w:U) (base:Nat) (spare:Nat->Bool) (held:Bool) (a:TypeId) (e:Nat):Prop:=
 T.cellsOf a=e/\∀(fuel:Nat) (cs:List V) (f:DataW H×List MemPlace),DataW.trod enc T w base spare held fuel a cs=E f->∀(d:Nat) (c:V),cs[d]? =E c->sH c
theorem G'{a:TypeId} (e:T.underlying a=E (.int K)) (hc:T.cellsOf a=1):jm enc w base spare held a 1:=by
 refine⟨hc,λfuel cs k d c j hv=>?_⟩;obtain⟨i,rfl,_,f⟩:=DataW.trod_int e d;have hb:=bounds_i64 f
 cases c with
 |zero=>simp at hv;exact⟨i,hv.symm,hb⟩
 |succ c=>simp at hv
theorem uY{f:TypeId} {fs:Array Field} (q:T.underlying f=E (.struct fs)) {fuel:Nat} {cs:List V} {s:DataW H×List MemPlace} (n:DataW.trod enc T w base spare held fuel f cs=E s) (c:Nat) (o:∃(j:Nat) (a:Field) (e:Nat),fs[j]? =E a/\a.offset<=c/\c<a.offset+e/\jm enc w base spare held a.type e):cs.length=T.cellsOf f/\∀d,cs[c]? =E d->sH d:=by
 obtain⟨xs,x,_,_,hl,r,hf⟩:=DataW.trod_struct q n;refine⟨hl,λd hv=>?_⟩;obtain⟨j,a,e,i,t,u,k,m⟩:=o;have p:j<xs.length:=by
  rw[r];exact(Array.getElem?_eq_some_iff.1 i).1
 have:=hf j a i;rw[cK p,k] at this;refine m _ _ _ this (c - a.offset) d ?_;rw[lj,if_pos (by omega),List.getElem?_drop];rw[show a.offset+(c - a.offset)=c by omega];exact hv
theorem sI{e:TypeId} {fs:Array Field} (i:T.underlying e=E (.struct fs)) (d:Nat) (hc:T.cellsOf e=d) (m:∀a,a<d->∃(j:Nat) (c:Field) (k:Nat),fs[j]? =E c/\c.offset<=a/\a<c.offset+k/\jm enc w base spare held c.type k):jm enc w base spare held e d:=by
 refine⟨hc,λfuel cs p f a n hv=>?_⟩;obtain⟨xs,n',_,_,hl,o,hf⟩:=DataW.trod_struct i f;have hi:a<d:=by
  have:=(List.getElem?_eq_some_iff.1 hv).1;omega
 exact(uY i f a (m a hi)).2 n hv
theorem Ha{c d:TypeId} {a:Nat} (j:T.underlying c=E (.array a d)) (hc:T.cellsOf c=a) (e:jm enc w base spare held d 1):jm enc w base spare held c a:=by
 refine⟨hc,λfuel cs o i f k hv=>?_⟩;obtain⟨xs,n,_,_,hl,m,hf⟩:=DataW.trod_array j i;have hi:f<a:=by
  have:=(List.getElem?_eq_some_iff.1 hv).1;omega
 have:=hf f hi;rw[cK (by omega),e.1] at this;refine e.2 _ _ _ this 0 k ?_;rw[lj,if_pos (by omega),List.getElem?_drop];simpa using hv
theorem ie:jm enc w base spare held 3 1:=G' underlying3 (by kernel_rfl)
theorem Hb:jm enc w base spare held 37 4:=Ha underlying37 (by kernel_rfl) ie
theorem pq:jm enc w base spare held 36 2:=sI underlying36 2 (by kernel_rfl) λa hi=>by
 have:a=0\/a=1:=by omega
 obtain rfl|rfl:=this
 ·exact⟨0,_,1,rfl,by decide,by decide,ie⟩
 ·exact⟨1,_,1,rfl,by decide,by decide,ie⟩
theorem Hc:jm enc w base spare held 39 7:=sI underlying39 7 (by kernel_rfl) λa hi=>by
 by_cases c:3<=a
 ·exact⟨3,_,4,rfl,c,by show a<3+4;omega,Hb⟩
 have:a=0\/a=1\/a=2:=by omega
 obtain rfl|rfl|rfl:=this
 ·exact⟨0,_,1,rfl,by decide,by decide,ie⟩
 ·exact⟨1,_,1,rfl,by decide,by decide,ie⟩
 ·exact⟨2,_,1,rfl,by decide,by decide,ie⟩
theorem Hd:jm enc w base spare held 41 16:=sI underlying41 16 (by kernel_rfl) λa hi=>by
 by_cases c:9<=a
 ·exact⟨7,_,7,rfl,c,by show a<9+7;omega,Hc⟩
 have:a=0\/a=1\/a=2\/a=3\/a=4\/a=5\/a=6\/a=7\/a=8:=by omega
 obtain rfl|rfl|rfl|rfl|rfl|rfl|rfl|rfl|rfl:=this
 ·exact⟨0,_,1,rfl,by decide,by decide,ie⟩
 ·exact⟨1,_,1,rfl,by decide,by decide,ie⟩
 ·exact⟨2,_,2,rfl,by decide,by decide,pq⟩
 ·exact⟨2,_,2,rfl,by decide,by decide,pq⟩
 ·exact⟨3,_,2,rfl,by decide,by decide,pq⟩
 ·exact⟨3,_,2,rfl,by decide,by decide,pq⟩
 ·exact⟨4,_,1,rfl,by decide,by decide,ie⟩
 ·exact⟨5,_,1,rfl,by decide,by decide,ie⟩
 ·exact⟨6,_,1,rfl,by decide,by decide,ie⟩
end
structure j3 (S:Array V):Prop where
 size:S.size=25
 ints:∀i,i<23->∀v,S[i]? =E v->sH v
 Mw:∀v,S[23]? =E v->v.oneCell'=true
 Mx:∀v,S[24]? =E v->v.oneCell'=true
theorem fF{w w':U} (d:G No w w') {a:Addr} {c:V} (hc:w.cell? a=E c):w'.cell? a=E c:=by
 have hl:=jA w a hc;unfold World.cell? at hc ⊢;rw[d.block _ hl (λe=>e)];exact hc
theorem qG{w w':U} (e:G No w w') {a d:Nat} {c:List V} (f:w.rangeAt a d c):w'.rangeAt a d c:=λi j hv=>fF e (f i j hv)
theorem j3.lits{S:Array V} (P:j3 S):∃(k e x D G I J L M N m n f o p q r s t u z A B:Int) (i j:V),S=#[y K k,y K e,y K x,y K D,y K G,y K I,y K J,y K L,y K M,y K N,y K m,y K n,y K f,y K o,y K p,y K q,y K r,y K s,y K t,y K u,y K z,y K A,y K B,i,j]/\(-9223372036854775808<=e/\e<=9223372036854775807)/\(-9223372036854775808<=f/\f<=9223372036854775807):=by
 have hs:=P.size;have c:∀a,a<23->∃d:Int,S[a]? =E (y K d)/\ -9223372036854775808<=d/\d<=9223372036854775807:=λa hi=>by
  have O:S[a]? =E (S[a]'(by omega)):=bX (by omega);obtain⟨d,c,aC⟩:=P.ints a hi _ O;exact⟨d,by rw[O,c],aC⟩
 have hv:∀a,a<25->∃aF,S[a]? =E aF:=λa hi=>⟨_,bX (by omega)⟩;obtain⟨k,Q,aI⟩:=c 0 (by omega);obtain⟨e,R,aD⟩:=c 1 (by omega);obtain⟨x,aj,aU⟩:=c 2 (by omega);obtain⟨D,ar,aY⟩:=c 3 (by omega);obtain⟨G,au,aZ⟩:=c 4 (by omega);obtain⟨I,av,a0⟩:=c 5 (by omega);obtain⟨J,aw,a1⟩:=c 6 (by omega);obtain⟨L,ax,a2⟩:=c 7 (by omega);obtain⟨M,ay,a3⟩:=c 8 (by omega);obtain⟨N,aA,a4⟩:=c 9 (by omega)
 obtain⟨m,X,aK⟩:=c 10 (by omega);obtain⟨n,Y,aL⟩:=c 11 (by omega);obtain⟨f,aa,aE⟩:=c 12 (by omega);obtain⟨o,ab,aM⟩:=c 13 (by omega);obtain⟨p,ad,aN⟩:=c 14 (by omega);obtain⟨q,ae,aO⟩:=c 15 (by omega);obtain⟨r,af,aQ⟩:=c 16 (by omega);obtain⟨s,ag,aR⟩:=c 17 (by omega);obtain⟨t,ah,aS⟩:=c 18 (by omega);obtain⟨u,ai,aT⟩:=c 19 (by omega);obtain⟨z,ak,aV⟩:=c 20 (by omega);obtain⟨A,am,aW⟩:=c 21 (by omega)
 obtain⟨B,ao,aX⟩:=c 22 (by omega);obtain⟨i,ap⟩:=hv 23 (by omega);obtain⟨j,aq⟩:=hv 24 (by omega);refine⟨k,e,x,D,G,I,J,L,M,N,m,n,f,o,p,q,r,s,t,u,z,A,B,i,j,?_,aD,aE⟩;refine Array.ext (by rw[hs];rfl) (λa aB aH=>?_);have hi:a<25:=by omega
 rw[hs] at aB;have:a=0\/a=1\/a=2\/a=3\/a=4\/a=5\/a=6\/a=7\/a=8\/a=9\/a=10\/a=11\/a=12\/a=13\/a=14\/a=15\/a=16\/a=17\/a=18\/a=19\/a=20\/a=21\/a=22\/a=23\/a=24:=by omega
 obtain rfl|rfl|rfl|rfl|rfl|rfl|rfl|rfl|rfl|rfl|rfl|rfl|rfl|rfl|rfl|rfl|rfl|rfl|rfl|rfl|rfl|rfl|rfl|rfl|rfl:=this
 ·rw[bX (by omega)] at Q;exact br Q
 ·rw[bX (by omega)] at R;exact br R
 ·rw[bX (by omega)] at aj;exact br aj
 ·rw[bX (by omega)] at ar;exact br ar
 ·rw[bX (by omega)] at au;exact br au
 ·rw[bX (by omega)] at av;exact br av
 ·rw[bX (by omega)] at aw;exact br aw
 ·rw[bX (by omega)] at ax;exact br ax
 ·rw[bX (by omega)] at ay;exact br ay
 ·rw[bX (by omega)] at aA;exact br aA
 ·rw[bX (by omega)] at X;exact br X
 ·rw[bX (by omega)] at Y;exact br Y
 ·rw[bX (by omega)] at aa;exact br aa
 ·rw[bX (by omega)] at ab;exact br ab
 ·rw[bX (by omega)] at ad;exact br ad
 ·rw[bX (by omega)] at ae;exact br ae
 ·rw[bX (by omega)] at af;exact br af
 ·rw[bX (by omega)] at ag;exact br ag
 ·rw[bX (by omega)] at ah;exact br ah
 ·rw[bX (by omega)] at ai;exact br ai
 ·rw[bX (by omega)] at ak;exact br ak
 ·rw[bX (by omega)] at am;exact br am
 ·rw[bX (by omega)] at ao;exact br ao
 ·rw[bX (by omega)] at ap;exact br ap
 ·rw[bX (by omega)] at aq;exact br aq
section
variable {H:Type} {enc:TypeId×V->H} {w:U} {base:Nat} {spare:Nat->Bool} {held:Bool}
theorem He:jm enc w base spare held 43 3:=sI underlying43 3 (by kernel_rfl) λa hi=>by
 have:a=0\/a=1\/a=2:=by omega
 obtain rfl|rfl|rfl:=this
 ·exact⟨0,_,2,rfl,by decide,by decide,pq⟩
 ·exact⟨0,_,2,rfl,by decide,by decide,pq⟩
 ·exact⟨1,_,1,rfl,by decide,by decide,ie⟩
theorem uZ:T.cellsOf 45=25:=by kernel_rfl
theorem Hf{fuel:Nat} {cs:List V} {k:DataW H×List MemPlace} (d:DataW.trod enc T w base spare held fuel 45 cs=E k):cs.length=25/\∀a,a<23->∀i,cs[a]? =E i->sH i:=by
 have e:=λ(a:Nat) (hi:a<23)=>show ∃(j:Nat) (c:Field) (f:Nat),(#[⟨ "Kind",3,0,false, "", "",0⟩,⟨ "A",3,1,false, "", "",8⟩,⟨ "B",3,2,false, "", "",16⟩,⟨ "C",3,3,false, "", "",24⟩,⟨ "Do",41,4,false, "", "",32⟩,⟨ "From",43,20,false, "", "",160⟩,⟨ "Keep",25,23,false, "", "",184⟩,⟨ "Spoil",5,24,false, "", "",208⟩]:Array Field)[j]? =E c/\c.offset<=a/\a<c.offset+f/\jm enc w base spare held c.type f from by
  by_cases d:a<4
  ·have:a=0\/a=1\/a=2\/a=3:=by omega
   obtain rfl|rfl|rfl|rfl:=this
   ·exact⟨0,_,1,rfl,by decide,by decide,ie⟩
   ·exact⟨1,_,1,rfl,by decide,by decide,ie⟩
   ·exact⟨2,_,1,rfl,by decide,by decide,ie⟩
   ·exact⟨3,_,1,rfl,by decide,by decide,ie⟩
  ·by_cases m:a<20
   ·exact⟨4,_,16,rfl,(by show 4<=a;omega),(by show a<4+16;omega),Hd⟩
   ·exact⟨5,_,3,rfl,(by show 20<=a;omega),(by show a<20+3;omega),He⟩
 refine⟨?_,λa hi=>(uY underlying45 d a (e a hi)).2⟩;have:=(uY underlying45 d 0 (e 0 (by omega))).1;rw[uZ] at this;exact this
theorem Hg{fuel:Nat} {cs:List V} {p:DataW H×List MemPlace} (n:DataW.trod enc T w base spare held fuel 45 cs=E p):(∀a,cs[23]? =E a->a.oneCell'=true)/\∀a,cs[24]? =E a->a.oneCell'=true:=by
 obtain⟨xs,j,_,_,hl,o,hf⟩:=DataW.trod_struct underlying45 n;have r:xs.length=8:=o;have c:=hf 6 _ rfl;have d:=hf 7 _ rfl;rw[cK (by omega)] at c d;have k:T.cellsOf 25=1:=by kernel_rfl
 have m:T.cellsOf 5=1:=by kernel_rfl
 constructor
 ·intro a hv;have hd:((cs.drop 23).take 1)=[a]:=by
   have e:23<cs.length:=(List.getElem?_eq_some_iff.1 hv).1;rw[List.drop_eq_getElem_cons e];rw[cK e] at hv;simp[br hv]
  have c:DataW.trod enc T w base spare held j 25 ((cs.drop 23).take (T.cellsOf 25))=E (xs[6]):=c;rw[k,hd] at c;obtain⟨hv,_⟩|⟨q,len,cap,elems,rest,n',_,hv,_⟩:=DataW.trod_slice Tryz.underlying25 c
  ·simp[Value.cells] at hv;rw[hv];rfl
  ·simp[Value.cells] at hv;rw[hv];rfl
 ·intro a hv;have hd:((cs.drop 24).take 1)=[a]:=by
   have f:24<cs.length:=(List.getElem?_eq_some_iff.1 hv).1;rw[List.drop_eq_getElem_cons f];rw[cK f] at hv;simp[br hv]
  have d:DataW.trod enc T w base spare held j 5 ((cs.drop 24).take (T.cellsOf 5))=E (xs[7]):=d;rw[m,hd] at d;obtain⟨s,i,_,_⟩:=DataW.trod_int underlying5 d;simp at i;rw[i];rfl
end
section
variable {H:Type} {enc:TypeId×V->H} {w:U} {spare:Nat->Bool} {held:Bool}
theorem zr{c d:V} (hv:c.cells.toList=[d]) (hs:∃a len cap,c=C a len cap):c=d:=by
 obtain⟨a,len,cap,rfl⟩:=hs;simpa [Value.cells] using hv
end
end Go.Proofs.YthhibagcpjeihaaGreat
