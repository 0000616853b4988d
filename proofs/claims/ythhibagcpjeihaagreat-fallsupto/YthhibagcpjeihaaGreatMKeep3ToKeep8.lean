import Derived.Test.YthhibagcpjeihaaGreatMRef4ToKeep1
import Derived.Deep.MidRow
import Derived.Test.YthhibagcpjeihaaGreatMLook1ToSwap2
import Derived.Test.YthhibagcpjeihaaGreatMWd
import Derived.Deep.DeepCutAuto
import Derived.Test.YthhibagcpjeihaaGreatMCellsToEnc
import Derived.Handy
open Go.Proofs.Tryz
open Go.Value renaming int->y,pointer->b,slice->C,bool->W,agg->l,tuple->h
open Go.IntKind renaming i64->K
open Option renaming none->F,some->E
open Go renaming World->U,Value->V
open Go.Proofs.Tryz renaming prog->T
open Go.Ending renaming returned->g
open Go.Obj renaming cells->v
open Nat renaming lt_of_lt_of_le->aG,zero_add->bg,le_trans->bF,le_refl->bK,not_lt_zero->dZ
open List renaming getElem?_eq_getElem->cK,getElem_mem->dD,take_length->eA,length_set->iU,getD_eq_getElem?_getD->nT,getElem?_take->lj,flatMap_cons->lh,getElem_set_ne->nX,length_filter_le->oZ,getElem?_append_right->rz
open Go.World renaming size_alloc->bj,size_setCell->kx
open Array renaming getElem?_toList->dE
open Go.Instr renaming typeAssert->cU,index->gz,lookup->iO
open And renaming intro->eL
namespace Go.Proofs.YthhibagcpjeihaaGreat
open Go.RowKit
open Go.ChangeMaps (setBlock)
open M
set_option linter.unusedVariables false
set_option linter.unusedSimpArgs false
set_option maxRecDepth 100000
set_option maxHeartbeats 2000000
theorem cF.mod{w w':U} {e:Nat->Nat} {j:Nat} {now:Int} {pt:Nat->Option Nat} {f:Nat->Option (O×List B)} (a:cF w e j now pt f) {S:Nat->Prop} (d:G S w w') (hs:∀c,e c≠0->¬S c):cF w' e j now pt f:=by
 refine⟨d.has a.has (hs _ (by rw[a.aW];omega)),a.aW,λc i=>aG (a.aU c i) d.size,a.gone,λr s q p hf=>?_⟩;obtain⟨k,m,n,o⟩:=a.here r s q p hf;exact⟨k,m,n,o.mod d (λc i=>hs c (by omega))⟩
theorem cF.m{t w':U} {i:Nat->Nat} {s:Nat} {now:Int} {pt:Nat->Option Nat} {q:Nat->Option (O×List B)} (d:cF t i s now pt q) {f:Nat} {k:Nat} {p:O} {o:List B} (n:G (λe=>i e=f+2) t w') (z:pt f=E k) (A:L p o) (hf:a9 w' (λe=>i e=f+2) k p o):cF w' i s now pt (λj=>if j=f then E (p,o) else q j):=by
 refine⟨n.has d.has (by rw[d.aW];omega),d.aW,λe r=>aG (d.aU e r) n.size,λj m a=>?_,λj H D m a=>?_⟩
 ·by_cases c:j=f
  ·rw[if_pos c] at a;exact absurd a (by simp)
  ·rw[if_neg c] at a;exact d.gone j m a
 ·by_cases c:j=f
  ·rw[if_pos c] at a;simp only[E.injEq,Prod.mk.injEq] at a;obtain⟨rfl,rfl⟩:=a;subst c;exact⟨k,z,A,hf⟩
  ·rw[if_neg c] at a;obtain⟨b',u,w,x⟩:=d.here j H D m a;exact⟨b',u,w,x.mod n (λe r I=>by omega)⟩
theorem cF.congr{k:U} {j:Nat->Nat} {i:Nat} {now:Int} {pt:Nat->Option Nat} {f fl':Nat->Option (O×List B)} (c:cF k j i now pt f) (hf:∀a,a<21->f a=fl' a):cF k j i now pt fl':=
 ⟨c.has,c.aW,c.aU,λa d e=>c.gone a d (by rw[hf a d];exact e),λa n m d e=>c.here a n m d (by rw[hf a d];exact e)⟩
theorem cF.uK{e:U} {m:Nat->Nat} {d:Nat} {now:Int} {pt:Nat->Option Nat} {j:Nat->Option (O×List B)} (a:cF e m d now pt j) (c:Int):cF (e.setCell ⟨d,0,F⟩ (y K c)) m d c pt j:=by
 have k:G (λf=>f=d) e (e.setCell ⟨d,0,F⟩ (y K c)):=(G.refl _ e).at 0 _;refine⟨?_,a.aW,λf i=>aG (a.aU f i) k.size,a.gone,λu w t s hf=>?_⟩
 ·have:=a.has.set 0 (y K c);rw[show(cD now pt).setIfInBounds 0 (y K c)=cD c pt from rfl] at this;exact this
 ·obtain⟨n,p,q,r⟩:=a.here u w t s hf;exact⟨n,p,q,r.mod k (λf i o=>by subst o;rw[a.aW] at i;omega)⟩
def gZ(c:Int) (a:O×List B):O×List B:=(ky c a.1 a.2,dd c a.2)
theorem uL{p:O} {c:List B} (a:L p c) (j:Int):L p (dd j c):=by
 refine⟨a.sized,a.limited,by simpa [dd] using a.len,λd hi=>?_,λk hs=>?_⟩
 ·have f:d<c.length:=by simpa [dd] using hi
  have:=a.place d f;simp only[dd,List.getElem_map] at this ⊢;split
  ·exact this
  ·exact this
 ·simp only[dd,List.mem_map] at hs;obtain⟨e,i,rfl⟩:=hs;split
  ·exact nN e
  ·exact a.cQ e i
theorem yL{p:O} {c:List B} (d:L p c) (a:Int):L (ky a p c) (dd a c):=by
 unfold ky;split
 ·exact(uL d a).next
 ·exact uL d a
theorem FI{S:Nat->Prop} {d:Nat} {p:O} {c:List B} {e:U} (n:a9 e S d p c) (u:L p c) (now:Int):Calls T 95 #[l #[y K now],b (E ⟨d,0,F⟩)] e λf w'=>f=g (h #[])/\a9 w' S d (ky now p c) (dd now c)/\G S e w':=by
 obtain⟨w,es,k,o,q,r,s,i,j⟩:=n;refine(Dr ⟨o,q,r,s⟩ u now).mono ?_;rintro f w' ⟨rfl,⟨m,a⟩,t⟩;exact⟨rfl,⟨w,m,k,a.has,a.map,a.ok,a.rel,i,j⟩,t.mono (by rintro x _ (rfl|rfl);exact i;exact j)⟩
theorem yM:T.underlying 115=E (.array 21 114):=by kernel_rfl
theorem yN:(T.info? 115).map (·.size)=E 21:=by kernel_rfl
def qB(pt:Nat->Option Nat):List V:=[aL (pt 0),aL (pt 1),aL (pt 2),aL (pt 3),aL (pt 4),aL (pt 5),aL (pt 6),aL (pt 7),aL (pt 8),aL (pt 9),aL (pt 10),aL (pt 11),aL (pt 12),aL (pt 13),aL (pt 14),aL (pt 15),aL (pt 16),aL (pt 17),aL (pt 18),aL (pt 19),aL (pt 20)]
theorem yO(pt:Nat->Option Nat) (a:Nat) (e:a<21) (d:U):(gz 115 (l (qB pt).toArray) (y K (a:Int))).run T d=.ok (aL (pt a)) d:=by
 have:a=0\/a=1\/a=2\/a=3\/a=4\/a=5\/a=6\/a=7\/a=8\/a=9\/a=10\/a=11\/a=12\/a=13\/a=14\/a=15\/a=16\/a=17\/a=18\/a=19\/a=20:=by omega
 obtain c|c|c|c|c|c|c|c|c|c|c|c|c|c|c|c|c|c|c|c|c:=this<;>(subst c;rfl)
theorem yP{f:U} {e:Nat} {now:Int} {pt:Nat->Option Nat} (a:X f e (cD now pt) 121):f.rangeAt e 1 (qB pt):=by
 intro c i d;rw[a.cell];by_cases hl:c<21
 ·rw[mM now pt c hl];have:c=0\/c=1\/c=2\/c=3\/c=4\/c=5\/c=6\/c=7\/c=8\/c=9\/c=10\/c=11\/c=12\/c=13\/c=14\/c=15\/c=16\/c=17\/c=18\/c=19\/c=20:=by omega
  obtain a|a|a|a|a|a|a|a|a|a|a|a|a|a|a|a|a|a|a|a|a:=this<;>(subst a;exact d)
 ·rw[List.getElem?_eq_none (by simp[qB];omega)] at d;exact absurd d (by simp)
theorem uM{f:U} {e:Nat->Nat} {j:Nat} {now:Int} {pt:Nat->Option Nat} {m:Nat->Option (O×List B)} (p:cF f e j now pt m) (d:Int):Calls T 72 #[b (E ⟨j,0,F⟩),l #[y K d]] f λn w'=>n=g (h #[])/\cF w' e j d pt (λc=>(m c).map (gZ d))/\G (λa=>e a≠0/\e a<30) f w':=by
 have ay:=p.has.lt;have Y:=p.has.cell 0;rw[show(cD now pt)[0]? =E (y K now) from rfl] at Y;have ao:=p.has.frozen;have u:=i p;clear p;go_enter func72,ntmps72;go_upto_region 2 with fail;have A:cF ((f.setCell ⟨j,0,F⟩ (y K d)).alloc (v #[y K d] 159)) e j d pt m:=((k u).uK d).mod ((G.refl No _).alloc _) (λ_ _ L=>L)
 have af:G (λa=>e a≠0/\e a<30) f ((f.setCell ⟨j,0,F⟩ (y K d)).alloc (v #[y K d] 159)):=((G.refl _ f).setCell (p:=⟨j,0,F⟩) (.inl (by show e j≠0/\e j<30;rw[(k u).aW];omega)) _).alloc _;have S:X ((f.setCell ⟨j,0,F⟩ (y K d)).alloc (v #[y K d] 159)) f.heap.size #[y K d] 159:=by
  have:=X.new (f.setCell ⟨j,0,F⟩ (y K d)) #[y K d] 159;rw[kx] at this;exact this
 have au:=i (show e f.heap.size=0 from by
  by_cases ae:e f.heap.size=0
  ·exact ae
  ·exact absurd ((k u).aU _ ae) (by omega))
 have ad:=yP A.has;have aq:=A.has.lt;have P:=i A;have Q:=i af;have M:=i S;clear A af S u Y ao;generalize (f.setCell ⟨j,0,F⟩ (y K d)).alloc (v #[y K d] 159)=aC at *;go_wp2_with (refine wpList_load_mid rfl 115 _ rfl j 1 rfl (qB pt) (.array 21 114) ad yM rfl yN ?_)
 go_loopw [15] (λJ wr=>∃a:Nat,J=y K a/\a<=21/\Hid (cF wr e j d pt (λc=>if c<a then(m c).map (gZ d) else m c))/\Hid (G (λa=>e a≠0/\e a<30) f wr)/\Hid (X wr f.heap.size #[y K d] 159)) (λJ _=>21 - (intOf J).toNat)
 case atStart=>exact⟨0,rfl,by omega,(k P).congr (λc _=>by rw[if_neg (by omega)]),Q,M⟩
 case round=>
  obtain⟨a,rfl,aw,o,w,s⟩:=hrel;clear ad P Q M aq;by_cases H:a<21
  ·have ap:(a:Int)<21:=by omega
   have ax:K.wrap ((a:Int)+1)=((a+1:Nat):Int):=by rw[aB _ (by omega) (by omega)];rfl
   have x:=yO pt a H wr
   cases q:m a with
   |none=>
    have r:=(k o).gone a H (by simp[q]);rw[r] at x;rw[show aL F=b F from rfl] at x
    have D:=i ((k o).congr (fl':=λc=>if c<a+1 then(m c).map (gZ d) else m c) (λc ab=>by
     by_cases n:c=a
     ·subst n;simp[q]
     ·by_cases t:c<a
      ·simp only[if_pos t,if_pos (show c<a+1 by omega)]
      ·simp only[if_neg t,if_neg (show ¬c<a+1 by omega)]))
    clear q r o;go_wp2;exact⟨⟨a+1,rfl,by omega,D,w,s⟩,by simp[intOf];omega⟩
   |some L=>
    obtain⟨av,ar⟩:=L;obtain⟨R,r,I,hf⟩:=(k o).here a av ar H (by simp[q]);rw[r] at x;rw[show aL (E R)=b (E ⟨R,0,F⟩) from rfl] at x;have am:=(k s).cell;have aA:=(k s).lt;have N:=i (FI hf I d);have aj:=i I;have ai:=i r;have ah:=i q;clear q r I hf;go_wp2_with fail;refine(k N).mono ?_;rintro n aD ⟨rfl,aa,z⟩
    have D:=i (((k o).m z (k ai) (yL (k aj) d) aa).congr (fl':=λc=>if c<a+1 then(m c).map (gZ d) else m c) (λc ab=>by
     by_cases n:c=a
     ·subst n;simp[k ah,gZ]
     ·by_cases t:c<a
      ·simp only[if_neg n,if_pos t,if_pos (show c<a+1 by omega)]
      ·simp only[if_neg n,if_neg t,if_neg (show ¬c<a+1 by omega)]))
    have ak:=i ((k w).trans (z.mono (λ_ _ (p:e _=a+2)=>by show e _≠0/\e _<30;omega)));have ag:=i (z.has (k s) (by rw[k au];omega));clear aa z o w s N am;go_wp2;exact⟨⟨a+1,rfl,by omega,D,ak,ag⟩,by simp[intOf];omega⟩
  ·have ap:¬(a:Int)<21:=by omega
   go_wp2;go_end0;exact⟨rfl,(k o).congr (λc ab=>by rw[if_pos (by omega)]),k w⟩
theorem FJ(a now:Int) (c:U) (e:1<=a) (i:a<=100) (k:0<=now/\now<=4611686018427387000):Calls T 75 #[y K a,y K now] c λd w'=>d=g (h #[my (now+a),y K 0])/\w'=c:=by
 have f:¬a<1:=by omega
 have j:¬a>100:=by omega
 have m:K.wrap (now+a)=now+a:=aB _ (by omega) (by omega);go_enter func75,ntmps75;go_wp2;go_ret2;exact⟨rfl,rfl⟩
theorem FK(a now:Int) (c:U) (e:¬(1<=a/\a<=100)):Calls T 75 #[y K a,y K now] c λd w'=>d=g (h #[.nilIface,y K 8])/\w'=c:=by
 by_cases f:a<1
 ·go_enter func75,ntmps75;go_wp2;go_ret2;exact⟨rfl,rfl⟩
 ·have i:a>100:=by omega
  go_enter func75,ntmps75;go_wp2;go_ret2;exact⟨rfl,rfl⟩
theorem FM(m:Nat) (a:N) (e:a.kind<1\/a.kind>9) (d:U):Calls T 49 #[b (E ⟨m,0,F⟩),l (Q a)] d λf w'=>f=g (refuse 1)/\G No d w':=by
 have c:=i ((G.refl No d).alloc (v (Q a) 41));unfold Q at c ⊢;obtain j|j:=Int.lt_or_le a.kind 1
 ·clear e;go_enter func49,ntmps49;go_wp2;go_ret2;exact⟨rfl,k c⟩
 ·have o:a.kind>9:=by omega
  have n:¬a.kind<1:=by omega
  clear e;go_enter func49,ntmps49;go_wp2;go_ret2;exact⟨rfl,k c⟩
theorem yQ(o:Nat) (e:N) (now:Int) (p q:V) (n:e.kind=8) (f:U) (j:∀a,G No f a->Calls T 32 #[b (E ⟨o,0,F⟩)] a λc w'=>c=g (y K now)/\w'=a) (m:∀a,Calls T 75 #[y K e.time,y K now] a λc w'=>c=g (h #[p,q])/\w'=a):Calls T 49 #[b (E ⟨o,0,F⟩),l (Q e)] f λc w'=>c=g (h #[p,q])/\G No f w':=by
 have r:=i j;have s:=i m;have d:=i ((G.refl No f).alloc (v (Q e) 41));unfold Q at d ⊢;rw[n] at d ⊢;clear j m n;go_enter func49,ntmps49;go_wp2_with fail;go_quiet (first|(go_at_call 32;exact Calls.quiet_of_same ((k r) _ ((k d).drewN _)))|(go_at_call 75;exact Calls.quiet_of_same ((k s) _)));go_wp2;go_ret2;exact⟨rfl,(k d).drewN _⟩
theorem FO(j:Nat) (a:N) (d:1<=a.kind/\a.kind<=9/\a.kind≠8) (hf:¬(1<=a.m/\a.m<=20)) (e:U):Calls T 49 #[b (E ⟨j,0,F⟩),l (Q a)] e λf w'=>f=g (refuse 2)/\G No e w':=by
 have c:=i ((G.refl No e).alloc (v (Q a) 41));unfold Q at c ⊢;have n:¬a.kind<1:=by omega
 have o:¬a.kind>9:=by omega
 have p:(a.kind==8)=false:=by simp[d.2.2]
 obtain f1|f1:=Int.lt_or_le a.m 1
 ·clear d hf;go_enter func49,ntmps49;go_wp2;go_ret2;exact⟨rfl,k c⟩
 ·have f2:a.m>20:=by omega
  have m:¬a.m<1:=by omega
  clear d hf;go_enter func49,ntmps49;go_wp2;go_ret2;exact⟨rfl,k c⟩
theorem FU(n p:Nat) (a:N) (m:a.kind=1) (hf:1<=a.m/\a.m<=20) (c:U) (hF:∀f,G No c f->Calls T 59 #[b (E ⟨n,0,F⟩),y K a.m] f λe w'=>e=g (b (E ⟨p,0,F⟩))/\w'=f):Calls T 49 #[b (E ⟨n,0,F⟩),l (Q a)] c λe w'=>e=g (refuse 3)/\G No c w':=by
 have o:=i hF;have d:=i ((G.refl No c).alloc (v (Q a) 41));have j:=i (X.new c (Q a) 41);unfold Q at d j ⊢;rw[m] at d j ⊢;have f1:¬a.m<1:=by omega
 have f2:¬a.m>20:=by omega
 clear hF m hf;go_enter func49,ntmps49;go_wp2_with fail;refine((k o) _ (k d)).mono ?_;rintro e q ⟨rfl,rfl⟩;go_wp2;go_ret2;exact⟨rfl,k d⟩
theorem yR(o:Nat) (a:N) (q r:V) (n:a.kind=1) (hf:1<=a.m/\a.m<=20) (e:U) (hF:∀d,G No e d->Calls T 59 #[b (E ⟨o,0,F⟩),y K a.m] d λc w'=>c=g (b F)/\w'=d) (hA:∀d,Calls T 76 #[eb a.p] d λc w'=>c=g (h #[q,r])/\G No d w'):Calls T 49 #[b (E ⟨o,0,F⟩),l (Q a)] e λc w'=>c=g (h #[q,r])/\G No e w':=by
 have s:=i hF;have m:=i hA;have f:=i ((G.refl No e).alloc (v (Q a) 41));have j:=i (X.new e (Q a) 41);unfold Q at f j ⊢;unfold eb at m;rw[n] at f j ⊢;have f1:¬a.m<1:=by omega
 have f2:¬a.m>20:=by omega
 clear hF n hf hA;go_enter func49,ntmps49;go_wp2_with fail;refine((k s) _ (k f)).mono ?_;rintro c u ⟨rfl,rfl⟩;go_wp2_with fail;refine((k m) _).mono ?_;rintro c u ⟨rfl,p⟩;have t:=i ((k f).trans p);clear p;go_wp2;go_ret2;exact⟨rfl,k t⟩
theorem FV(m:Nat) (a:N) (j:2<=a.kind/\a.kind<=9/\a.kind≠8) (hf:1<=a.m/\a.m<=20) (d:U) (hF:∀f,G No d f->Calls T 59 #[b (E ⟨m,0,F⟩),y K a.m] f λc w'=>c=g (b F)/\w'=f):Calls T 49 #[b (E ⟨m,0,F⟩),l (Q a)] d λc w'=>c=g (refuse 2)/\G No d w':=by
 have n:=i hF;have e:=i ((G.refl No d).alloc (v (Q a) 41));unfold Q at e ⊢;have o:¬a.kind<1:=by omega
 have p:¬a.kind>9:=by omega
 have q:(a.kind==8)=false:=by simp[j.2.2]
 have r:(a.kind==1)=false:=by simp;omega
 have f1:¬a.m<1:=by omega
 have f2:¬a.m>20:=by omega
 clear hF j hf;go_enter func49,ntmps49;go_wp2_with fail;refine((k n) _ (k e)).mono ?_;rintro c s ⟨rfl,rfl⟩;go_wp2;go_ret2;exact⟨rfl,k e⟩
theorem yS(n p:Nat) (a:N) (now:Int) (m u:V) (cs:Array V) (s:2<=a.kind/\a.kind<=9/\a.kind≠8) (hf:1<=a.m/\a.m<=20) (e:U) (j:X e n cs 121) (q:cs[0]? =E (y K now)) (hF:∀c,G No e c->Calls T 59 #[b (E ⟨n,0,F⟩),y K a.m] c λd w'=>d=g (b (E ⟨p,0,F⟩))/\w'=c) (r:∀c,G No e c->Calls T 77 #[b (E ⟨p,0,F⟩),l (Q a),y K now] c λd w'=>d=g (h #[m,u])/\G No c w'):
  Calls T 49 #[b (E ⟨n,0,F⟩),l (Q a)] e λd w'=>d=g (h #[m,u])/\G No e w':=by
 have w:=i hF;have o:=i r;have z:=j.cell 0;rw[q] at z;have J:=j.lt;have f:=i ((G.refl No e).alloc (v (Q a) 41));unfold Q at f o ⊢;have B:¬a.kind<1:=by omega
 have D:¬a.kind>9:=by omega
 have H:(a.kind==8)=false:=by simp[s.2.2]
 have I:(a.kind==1)=false:=by simp;omega
 have f1:¬a.m<1:=by omega
 have f2:¬a.m>20:=by omega
 have x:=i j;clear hF r s hf j;go_enter func49,ntmps49;go_wp2_with fail;refine((k w) _ (k f)).mono ?_;rintro d L ⟨rfl,rfl⟩;go_wp2_with fail;go_region_with (go_at_call 77;refine((k o) _ ((k f).drew)).mono ?_;rintro d w3 ⟨rfl,t⟩;have A:=(((k f).drew.trans t).has (k x) (λm=>m)).cell 0;rw[q] at A)
 all_goals go_wp2
 all_goals go_ret2
 all_goals exact⟨rfl,(k f).drew.trans t⟩
theorem FW(a:V) (c:U):(cU (.iface 159 a) 123 159 true).run T c=.ok (h #[a,W true]) c:=by kernel_rfl
theorem FX(c:V) (a:U):(cU (.iface 189 c) 123 159 true).run T a=.ok (h #[l #[y K 0],W false]) a:=by kernel_rfl
theorem FY(c:V) (a:U):(cU (.iface 202 c) 123 159 true).run T a=.ok (h #[l #[y K 0],W false]) a:=by kernel_rfl
theorem FZ(c:V) (a:U):(cU (.iface 214 c) 123 159 true).run T a=.ok (h #[l #[y K 0],W false]) a:=by kernel_rfl
theorem F0(c:V) (a:U):(cU (.iface 216 c) 123 159 true).run T a=.ok (h #[l #[y K 0],W false]) a:=by kernel_rfl
theorem F4(c:V) (a:U):(cU (.iface 212 c) 123 159 true).run T a=.ok (h #[l #[y K 0],W false]) a:=by kernel_rfl
theorem F7(c:V) (a:U):(nilAhead 357 212 c "Do").run T a=.ok (E false) a:=by kernel_rfl
theorem F8(a:V) (c:U):(method 357 212 a "Do").run T c=.ok (162,a) c:=by kernel_rfl
attribute [local go_sem] F4 F7 F8
theorem F9(c:V) (a:U):(nilAhead 357 189 c "Do").run T a=.ok (E false) a:=by kernel_rfl
theorem Ga(c:V) (a:U):(nilAhead 357 202 c "Do").run T a=.ok (E false) a:=by kernel_rfl
theorem Gb(c:V) (a:U):(nilAhead 357 214 c "Do").run T a=.ok (E false) a:=by kernel_rfl
theorem Gc(c:V) (a:U):(nilAhead 357 216 c "Do").run T a=.ok (E false) a:=by kernel_rfl
attribute [local go_sem] F9 Ga Gb Gc
theorem Gd(a:V) (c:U):(method 357 189 a "Do").run T c=.ok (158,a) c:=by kernel_rfl
theorem Ge(a:V) (c:U):(method 357 202 a "Do").run T c=.ok (161,a) c:=by kernel_rfl
theorem Gf(a:V) (c:U):(method 357 214 a "Do").run T c=.ok (165,a) c:=by kernel_rfl
theorem Gg(a:V) (c:U):(method 357 216 a "Do").run T c=.ok (166,a) c:=by kernel_rfl
attribute [local go_sem] Gd Ge Gf Gg
attribute [local go_sem] FW FX FY FZ F0
theorem uN(m:Nat) (n c:Int) (d:U) (e:U->Prop) (j:∀f,G No d f->Calls T 72 #[b (E ⟨m,0,F⟩),l #[y K c]] f λa w'=>a=g (h #[])/\e w'):Calls T 44 #[b (E ⟨m,0,F⟩),l #[y K n,my c]] d λa w'=>a=g (h #[])/\e w':=by
 have o:=i j;have p:=i (((G.refl No d).alloc (v #[y K n,my c] 125)).alloc (v #[y K c] 159));unfold my at *;clear j;go_enter func44,ntmps44;go_wp2_with fail;refine((k o) _ (k p)).mono ?_;rintro a r ⟨rfl,q⟩;go_wp2;refine bodyPost_ret (results_none rfl _ _ _) rfl ?_;exact⟨rfl,q⟩
theorem uO(u s a:Nat) (I:1<=a/\a<=20) (f j m n o p:V) (cs:Array V) (d:U) (q:U->Prop) (e:X d u cs 121) (hc:cs[1+a]? =E (b (E ⟨s,0,F⟩))) (t:∀r,G No d r->Calls T 161 #[l #[f,j,m,n,o,p],b (E ⟨s,0,F⟩)] r λc w'=>c=g (h #[])/\q w'):Calls T 44 #[b (E ⟨u,0,F⟩),l #[y K a,.iface 202 (l #[f,j,m,n,o,p])]] d λc w'=>c=g (h #[])/\q w':=by
 have w:=i t;have x:=i (((G.refl No d).alloc (v #[y K a,.iface 202 (l #[f,j,m,n,o,p])] 125)).alloc (v #[y K 0] 159));have z:=e.cell (1+a);rw[hc] at z;have H:=e.lt;have B:(a:Int)<21:=by omega
 have D:(0:Int)<=a:=by omega
 clear e hc t;go_enter func44,ntmps44;go_wp2_with fail;go_quiet (fail);go_wp2_with fail;go_region_with (go_at_call 161;refine((k w) _ ((k x).drewN _).drew).mono ?_;rintro c J ⟨rfl,A⟩)
 all_goals go_wp2
 all_goals go_end0
 all_goals exact⟨rfl,A⟩
theorem Gh(q o a:Nat) (A:1<=a/\a<=20) (f j:V) (cs:Array V) (d:U) (m:U->Prop) (e:X d q cs 121) (hc:cs[1+a]? =E (b (E ⟨o,0,F⟩))) (p:∀n,G No d n->Calls T 165 #[l #[f,j],b (E ⟨o,0,F⟩)] n λc w'=>c=g (h #[])/\m w'):Calls T 44 #[b (E ⟨q,0,F⟩),l #[y K a,.iface 214 (l #[f,j])]] d λc w'=>c=g (h #[])/\m w':=by
 have r:=i p;have s:=i (((G.refl No d).alloc (v #[y K a,.iface 214 (l #[f,j])] 125)).alloc (v #[y K 0] 159));have t:=e.cell (1+a);rw[hc] at t;have z:=e.lt;have w:(a:Int)<21:=by omega
 have x:(0:Int)<=a:=by omega
 clear e hc p;go_enter func44,ntmps44;go_wp2_with fail;go_quiet (fail);go_wp2_with fail;go_region_with (go_at_call 165;refine((k r) _ ((k s).drewN _).drew).mono ?_;rintro c B ⟨rfl,u⟩)
 all_goals go_wp2
 all_goals go_end0
 all_goals exact⟨rfl,u⟩
theorem Gi(s q a:Nat) (D:1<=a/\a<=20) (f j m n:V) (cs:Array V) (d:U) (o:U->Prop) (e:X d s cs 121) (hc:cs[1+a]? =E (b (E ⟨q,0,F⟩))) (r:∀p,G No d p->Calls T 166 #[l #[f,j,m,n],b (E ⟨q,0,F⟩)] p λc w'=>c=g (h #[])/\o w'):Calls T 44 #[b (E ⟨s,0,F⟩),l #[y K a,.iface 216 (l #[f,j,m,n])]] d λc w'=>c=g (h #[])/\o w':=by
 have t:=i r;have u:=i (((G.refl No d).alloc (v #[y K a,.iface 216 (l #[f,j,m,n])] 125)).alloc (v #[y K 0] 159));have w:=e.cell (1+a);rw[hc] at w;have B:=e.lt;have z:(a:Int)<21:=by omega
 have A:(0:Int)<=a:=by omega
 clear e hc r;go_enter func44,ntmps44;go_wp2_with fail;go_quiet (fail);go_wp2_with fail;go_region_with (go_at_call 166;refine((k t) _ ((k u).drewN _).drew).mono ?_;rintro c H ⟨rfl,x⟩)
 all_goals go_wp2
 all_goals go_end0
 all_goals exact⟨rfl,x⟩
theorem Gj(r p a:Nat) (B:1<=a/\a<=20) (f j m:V) (cs:Array V) (d:U) (n:U->Prop) (e:X d r cs 121) (hc:cs[1+a]? =E (b (E ⟨p,0,F⟩))) (q:∀o,G No d o->Calls T 162 #[l #[f,j,m],b (E ⟨p,0,F⟩)] o λc w'=>c=g (h #[])/\n w'):Calls T 44 #[b (E ⟨r,0,F⟩),l #[y K a,.iface 212 (l #[f,j,m])]] d λc w'=>c=g (h #[])/\n w':=by
 have s:=i q;have t:=i (((G.refl No d).alloc (v #[y K a,.iface 212 (l #[f,j,m])] 125)).alloc (v #[y K 0] 159));have u:=e.cell (1+a);rw[hc] at u;have A:=e.lt;have x:(a:Int)<21:=by omega
 have z:(0:Int)<=a:=by omega
 clear e hc q;go_enter func44,ntmps44;go_wp2_with fail;go_quiet (fail);go_wp2_with fail;go_region_with (go_at_call 162;refine((k s) _ ((k t).drewN _).drew).mono ?_;rintro c D ⟨rfl,w⟩)
 all_goals go_wp2
 all_goals go_end0
 all_goals exact⟨rfl,w⟩
def mT:Array V:=#[y K 0,y K 0,y K 0,y K 0,y K 0,y K 0,y K 0,.map F,y K 0,y K 0,y K 0,y K 0,y K 0,y K 0,y K 0,y K 0,y K 0,y K 0,y K 0,y K 0,y K 0,y K 0,y K 0,y K 0,y K 0]
structure Gk (w w5:U) (kb n:Nat) (now:Int) (pt:Nat->Option Nat):Prop where
 keep:X w5 kb (cD now (gD pt n (w.heap.size+2))) 121
 ji:X w5 (w.heap.size+2) mT 164
 mod:G (λk=>k=kb) w w5
theorem yT{c w0:U} {d a:Nat} {now:Int} {pt:Nat->Option Nat} (j:1<=a/\a<=20) (e:X w0 d (cD now pt) 121) (f:G No c w0) (hs:w0.heap.size=c.heap.size+2):Gk c ((w0.setCell ⟨d,1+a,F⟩ (b (E ⟨c.heap.size+2,0,F⟩))).alloc (v mT 164)) d a now pt:=by
 refine⟨?_,?_,(f.mono (λ_ _ i=>i.elim)).trans (((G.refl _ w0).at (1+a) _).alloc _)⟩
 ·have:=(e.set (1+a) (aL (E (c.heap.size+2)))).alloc (v mT 164);rw[Es now pt a _ (by omega)] at this;exact this
 ·have:=X.new (w0.setCell ⟨d,1+a,F⟩ (b (E ⟨c.heap.size+2,0,F⟩))) mT 164;rw[kx,hs] at this;exact this
theorem Gl(d c:Nat) (aa:1<=c/\c<=20) (now:Int) (pt:Nat->Option Nat) (p:O) (a:U) (w:U->Prop) (s:X a d (cD now pt) 121) (hc:pt c=F) (I:∀q,G (λab=>ab=d) a q->X q d (cD now (gD pt c (a.heap.size+2))) 121->X q (a.heap.size+2) (db 0 0 0 0 0 0 0 (.map F) 0 0 0 0 0 0 0 0 0 0 0 0 0 0 0 0 0) 164->
   Calls T 158 #[eb p,b (E ⟨a.heap.size+2,0,F⟩)] q λm w'=>m=g (h #[])/\w w'):Calls T 44 #[b (E ⟨d,0,F⟩),l #[y K c,jf p]] a λm w'=>m=g (h #[])/\w w':=by
 have N:=i I;have t:G No a ((a.alloc (v #[y K c,jf p] 125)).alloc (v #[y K 0] 159)):=((G.refl _ a).alloc _).alloc _;have H:=t.has s (λae=>ae);have b0:X ((a.alloc (v #[y K c,jf p] 125)).alloc (v #[y K 0] 159)) a.heap.size #[y K c,jf p] 125:=(X.new a _ _).alloc _;have j:=i H;have u:=i t;have f:=i b0
 have x:=i (show((a.alloc (v #[y K c,jf p] 125)).alloc (v #[y K 0] 159)).heap.size=a.heap.size+2 by simp);have af:(c:Int)<21:=by omega
 have ag:(0:Int)<=c:=by omega
 have Q:=i s;have P:=i hc;unfold jf eb at *;clear s hc I t H b0;go_enter func44,ntmps44;go_upto_region 4 with fail;generalize (a.alloc (v #[y K c,.iface 189 (l #[y K p.rows,y K p.w,y K p.front,y K p.I,y K p.R,y K p.n,y K p.f])] 125)).alloc (v #[y K 0] 159)=n at *;have A:=(k j).cell (1+c);rw[mM now pt c (by omega),k P,show aL F=b F from rfl] at A
 have B:n.cell? ⟨a.heap.size,0,F⟩=E (y K c):=(k f).cell 0;have D:n.cell? ⟨a.heap.size,1,F⟩=E (.iface 189 (l #[y K p.rows,y K p.w,y K p.front,y K p.I,y K p.R,y K p.n,y K p.f])):=(k f).cell 1;have L:=(k j).lt;have J:=(k f).lt;have Y:=(k j).frozen (1+c);have r:=k x;rw[r] at L J;have R:=i (show a.heap.size≠d from λm=>by have:=(k Q).lt;omega);go_quiet (fail);go_wp2_with fail;go_region
 have fI:=yT (w0:=n.drewN (nq+1)) aa ((k j).drewN _) ((k u).drewN _) r;have z:X (((n.drewN (nq+1)).setCell ⟨d,1+c,F⟩ (b (E ⟨a.heap.size+2,0,F⟩))).alloc (v mT 164)) a.heap.size _ _:=(((k f).drewN (nq+1)).dB (a:=⟨d,1+c,F⟩) (k R) _).alloc _;have e:=i fI;have o:=i z;clear fI z A B D L J Y r j u f x;unfold mT at e o
 generalize ((n.drewN (nq+1)).setCell ⟨d,1+c,F⟩ (b (E ⟨a.heap.size+2,0,F⟩))).alloc (v #[y K 0,y K 0,y K 0,y K 0,y K 0,y K 0,y K 0,.map F,y K 0,y K 0,y K 0,y K 0,y K 0,y K 0,y K 0,y K 0,y K 0,y K 0,y K 0,y K 0,y K 0,y K 0,y K 0,y K 0,y K 0] 164)=M at *;have S:=(k e).keep.cell (1+c);rw[mM now _ c (by omega),show aL (gD pt c (a.heap.size+2) c)=b (E ⟨a.heap.size+2,0,F⟩) by simp[gD,aL]] at S
 have B:M.cell? ⟨a.heap.size,0,F⟩=E (y K c):=(k o).cell 0;have D:M.cell? ⟨a.heap.size,1,F⟩=E (.iface 189 (l #[y K p.rows,y K p.w,y K p.front,y K p.I,y K p.R,y K p.n,y K p.f])):=(k o).cell 1;have ah:=(k e).keep.lt;have ai:=(k o).lt;go_wp2_with fail;go_region_with (go_at_call 158;refine((k N) _ (k e).mod.drew (k e).keep.drew (k e).ji.drew).mono ?_;rintro m aj ⟨rfl,ad⟩)
 all_goals go_wp2
 all_goals go_end0
 all_goals exact⟨rfl,ad⟩
theorem Gm(o:Nat) (c:N) (e:Int) (n:e≠0) (a:U) (m:∀f,G No a f->Calls T 49 #[b (E ⟨o,0,F⟩),l (Q c)] f λd w'=>d=g (refuse e)/\G No f w'):Calls T 25 #[b (E ⟨o,0,F⟩),l (Q c)] a λd w'=>d=g (y K e)/\G No a w':=by
 have p:=i m;have j:=i ((G.refl No a).alloc (v (Q c) 41));have r:=i (X.new a (Q c) 41);have hd:(e !=0)=true:=by simp[n]
 unfold Q refuse at *;clear m n;go_enter func25,ntmps25;go_wp2_with fail;refine((k p) _ (k j)).mono ?_;rintro d s ⟨rfl,q⟩;go_wp2;go_ret;exact⟨rfl,(k j).trans q⟩
theorem Gn(m:Nat) (e:N) (n:TypeId) (o:V) (a:Int) (s:a≠0) (f:U) (R:U->Prop) (r:∀d,G No f d->Calls T 49 #[b (E ⟨m,0,F⟩),l (Q e)] d λc w'=>c=g (cZ (.iface n o))/\G No d w') (hS:∀d,G No f d->Calls T 50 #[b (E ⟨m,0,F⟩),l #[y K e.m,.iface n o]] d λc w'=>c=g (y K a)/\R w'):
  Calls T 25 #[b (E ⟨m,0,F⟩),l (Q e)] f λc w'=>c=g (y K a)/\R w':=by
 have t:=i r;have u:=i hS;have q:=i ((G.refl No f).alloc (v (Q e) 41));have p:=i (X.new f (Q e) 41);have hd:(a !=0)=true:=by simp[s]
 unfold Q cZ at *;clear r hS s;go_enter func25,ntmps25;go_wp2_with fail;refine((k t) _ (k q)).mono ?_;rintro c D ⟨rfl,j⟩;have z:=(j.has (k p) (λa=>a)).cell;have B:=(j.has (k p) (λa=>a)).lt;have w:=i ((k q).trans j);clear j;have x:=i ((k w).alloc (v #[y K e.m,.iface n o] 125));go_wp2_with fail;refine((k u) _ (k x)).mono ?_;rintro c H ⟨rfl,A⟩;clear z;go_wp2;go_ret;exact⟨rfl,A⟩
theorem Gp(n:Nat) (a:N) (e:TypeId) (f:V) (j:U) (R z:U->Prop) (A:∀c,G No j c->Calls T 49 #[b (E ⟨n,0,F⟩),l (Q a)] c λd w'=>d=g (cZ (.iface e f))/\G No c w') (hS:∀c p,G No j c->j.heap.size<=p->X c p #[y K a.m,.iface e f] 125->Calls T 50 #[b (E ⟨n,0,F⟩),l #[y K a.m,.iface e f]] c λd w'=>d=g (y K 0)/\R w'/\X w' p #[y K a.m,.iface e f] 125)
  (hA:∀c,R c->Calls T 44 #[b (E ⟨n,0,F⟩),l #[y K a.m,.iface e f]] c λd w'=>d=g (h #[])/\z w'):Calls T 25 #[b (E ⟨n,0,F⟩),l (Q a)] j λd w'=>d=g (y K 0)/\z w':=by
 have t:=i A;have u:=i hS;have J:=i hA;have w:=i ((G.refl No j).alloc (v (Q a) 41));have s:=i (X.new j (Q a) 41);unfold Q cZ at *;clear A hS hA;go_enter func25,ntmps25;go_wp2_with fail;refine((k t) _ (k w)).mono ?_;rintro d q ⟨rfl,o⟩;have S:=(o.has (k s) (λr=>r)).cell;have ab:=(o.has (k s) (λr=>r)).lt;have x:=i ((k w).trans o);clear o;have O:=i ((k x).alloc (v #[y K a.m,.iface e f] 125))
 have I:=i (X.new q #[y K a.m,.iface e f] 125);have M:=i (k x).size;go_wp2_with fail;refine((k u) _ _ (k O) (k M) (k I)).mono ?_;rintro d H ⟨rfl,B,m⟩;have Y:H.cell? ⟨q.heap.size,0,F⟩=E (y K a.m):=m.cell 0;have aa:H.cell? ⟨q.heap.size,1,F⟩=E (.iface e f):=m.cell 1;have le:=m.lt;have L:=i ((k J) _ B);clear S m B u t;go_wp2_with fail;refine(k L).mono ?_;rintro d w3 ⟨rfl,D⟩;have P:=i D;clear D;go_wp2
 go_ret;exact⟨rfl,k P⟩
theorem qC{p:O} {d:List B} {a:N} {now:Int} (c:aH p d a now=0) (j:a.kind≠9):a.kind≠9/\p.has a.j a.ac=true/\(a.kind=5->p.has a.bN a.bO=true/\cC (aq p d a.j a.ac).st (aq p d a.j a.ac).pa a.aI=0/\(aq p d a.bN a.bO).st=0)/\(a.kind=2->bP a=0/\now<a.time/\a.time<=now+100)/\(a.kind=3->bP a=0):=by
 unfold aH at c;rw[if_neg j] at c;by_cases f:p.has a.j a.ac=false\/(a.kind=5/\p.has a.bN a.bO=false)
 ·rw[if_pos f] at c;exact absurd c (by omega)
 rw[if_neg f] at c;have n:p.has a.j a.ac=true:=by
  cases hb:p.has a.j a.ac with
  |true=>rfl
  |false=>exact absurd (.inl hb) f
 refine⟨j,n,λi=>?_,λk=>?_,λm=>?_⟩
 ·have q:p.has a.bN a.bO=true:=by
   cases hb:p.has a.bN a.bO with
   |true=>rfl
   |false=>exact absurd (.inr ⟨i,hb⟩) f
  rw[if_neg (by omega),if_neg (by omega),if_neg (by omega),if_pos i] at c;by_cases e:cC (aq p d a.j a.ac).st (aq p d a.j a.ac).pa a.aI=0
  ·rw[if_neg (by simpa using e)] at c;by_cases hs:(aq p d a.bN a.bO).st=0
   ·exact⟨q,e,hs⟩
   ·rw[if_pos hs] at c;exact absurd c (by omega)
  ·rw[if_pos e] at c;exact absurd c e
 ·rw[if_pos k] at c;by_cases hb:bP a=0
  ·rw[if_neg (by simpa using hb)] at c;by_cases o:a.time<=now\/a.time>now+100
   ·rw[if_pos o] at c;exact absurd c (by omega)
   ·exact⟨hb,by omega,by omega⟩
  ·rw[if_pos hb] at c;exact absurd c hb
 ·rw[if_neg (by omega),if_pos m] at c;by_cases hb:bP a=0
  ·exact hb
  ·rw[if_pos hb] at c;exact absurd c hb
theorem Gq{st c d:Int} (a:cC st c d=0):st=1\/st=2:=by
 unfold cC at a;by_cases hs:st=1\/st=2
 ·exact hs
 ·rw[if_pos hs] at a;exact absurd a (by omega)
theorem uP{p:O} {e:List B} (d:L p e) {a:N} {now:Int} (R:0<=now/\now<=4611686018427387000) (u:aH p e a now=0) (j:a.kind≠9):L p (dg p e a):=by
 obtain⟨j,z,x,r,w⟩:=qC u j;obtain⟨hi,f,m,k⟩:=kF d z;have c:(aq p e a.j a.ac).wf:=by rw[f];exact d.cQ _ (dD hi)
 unfold dg;rw[if_neg j];by_cases i:a.kind=2
 ·rw[if_pos i];have hb:=jV (r i).1;have X:=r i;exact d.set hi ⟨by simp,by simp,by simp;omega,by simp;omega,by simp,by simp;omega,by simp;omega,by simp⟩ m.symm k.symm
 rw[if_neg i];by_cases n:a.kind=3
 ·rw[if_pos n];have hb:=jV (w n);exact d.set hi ⟨by simp,by simp,by simp;omega,by simp;omega,by simp,by simp;omega,by simp,by simp⟩ m.symm k.symm
 rw[if_neg n];by_cases o:a.kind=5
 ·rw[if_pos o];obtain⟨s,S,hs⟩:=x o;obtain⟨A,M,Q,J⟩:=kF d s;have q:L p (e.set (p.idx a.j a.ac) (aq p e a.j a.ac).aS):=d.set hi (nN _) (by rw[f];rfl) (by rw[f];rfl);have I:p.idx a.bN a.bO<(e.set (p.idx a.j a.ac) (aq p e a.j a.ac).aS).length:=by simpa using A
  obtain⟨D,P,H,G⟩:=kF q s;exact q.set D ⟨c.kW,c.s1,c.kX,c.c1,c.bare,c.pa,c.un,c.qZ⟩ H.symm G.symm
 rw[if_neg o];by_cases t:a.kind=6
 ·rw[if_pos t];exact d.set hi ⟨by simp,by simp,by simp,by simp,by simp,by simp,by simp,by simp⟩ m.symm k.symm
 rw[if_neg t];exact d.set hi (nN _) (by rw[f];rfl) (by rw[f];rfl)
theorem yU{m:U} {i:Nat->Nat} {q:Nat} {now:Int} {pt:Nat->Option Nat} {Q:Nat->Option (O×List B)} (x:cF m i q now pt Q) (d:Nat) (L:1<=d/\d<=20) {p:O} {A:List B} (ag:Q d=E (p,A)) (ao:0<=now/\now<=4611686018427387000) (a:N) (ar:2<=a.kind/\a.kind<=9/\a.kind≠8) (aa:aH p A a now=0) (H:a.kind≠9):
  Calls T 44 #[b (E ⟨q,0,F⟩),l #[y K d,fC a]] m λn w'=>n=g (h #[])/\cF w' i q now pt (λj=>if j=d then E (p.next,dg p A a) else Q j)/\G (λo=>i o≠0/\i o<30) m w':=by
 obtain⟨w,ab,u,hf⟩:=x.here d p A (by omega) ag;have hc:(cD now pt)[1+d]? =E (b (E ⟨w,0,F⟩)):=by rw[mM now pt d (by omega),ab];rfl
 have k:=(uP u ao aa H).next
 have e:∀f w',G No m f->a9 w' (λo=>i o=d+2) w p.next (dg p A a)->G (λo=>i o=d+2) f w'->cF w' i q now pt (λj=>if j=d then E (p.next,dg p A a) else Q j)/\G (λo=>i o≠0/\i o<30) m w':=λf w' c R D=>
  ⟨(x.mod c (λ_ _ Y=>Y)).m D ab k R,(c.mono (λ_ _ Y=>Y.elim)).trans (D.mono (λ_ _ (n:i _=d+2)=>by show i _≠0/\i _<30;omega))⟩
 obtain⟨H,af,ae,D,ad⟩:=qC aa H;obtain⟨hi,X,J,I⟩:=kF u af;unfold fC dg at *;rw[if_neg H] at e k ⊢;rw[if_neg H];by_cases z:a.kind=2
 ·rw[if_pos z] at e k ⊢;rw[if_pos z];have hb:=jV (D z).1;have au:=D z;have hs:(⟨a.j,a.ac,1,a.aI,a.cls,a.time⟩:B).wf:=⟨by simp,by simp,by simp;omega,by simp;omega,by simp,by simp;omega,by simp;omega,by simp⟩;exact uO q w d L _ _ _ _ _ _ _ m _ x.has hc (λf c=>(ua (hf.aD c) u _ hi ⟨a.j,a.ac,1,a.aI,a.cls,a.time⟩ hs J.symm I.symm).mono (λn w' ⟨t,r,s⟩=>⟨t,e f w' c r s⟩))
 rw[if_neg z] at e k ⊢;rw[if_neg z];by_cases M:a.kind=3
 ·rw[if_pos M] at e k ⊢;rw[if_pos M];have hb:=jV (ad M);have hs:(⟨a.j,a.ac,2,a.aI,a.cls,0⟩:B).wf:=⟨by simp,by simp,by simp;omega,by simp;omega,by simp,by simp;omega,by simp,by simp⟩;exact uO q w d L _ _ _ _ _ _ _ m _ x.has hc (λf c=>(ua (hf.aD c) u _ hi ⟨a.j,a.ac,2,a.aI,a.cls,0⟩ hs J.symm I.symm).mono (λn w' ⟨t,r,s⟩=>⟨t,e f w' c r s⟩))
 rw[if_neg M] at e k ⊢;rw[if_neg M];by_cases P:a.kind=5
 ·rw[if_pos P] at e k ⊢;rw[if_pos P];obtain⟨aq,ap,hs⟩:=ae P;obtain⟨ai,ak,am,aj⟩:=kF u aq;have ah:p.idx a.j a.ac≠p.idx a.bN a.bO:=by
   intro n;have R:=Gq ap;rw[X] at R;rw[ak] at hs;simp only[n] at R;omega
  rw[X] at e ⊢;refine Gi q w d L _ _ _ _ _ m _ x.has hc (λf c=>?_);have:=Db (hf.aD c) u _ hi _ ai ah;rw[J,I,am,aj] at this;exact this.mono (λn w' ⟨t,r,s⟩=>⟨t,e f w' c r s⟩)
 rw[if_neg P] at e k ⊢;rw[if_neg P];by_cases S:a.kind=6
 ·rw[if_pos S] at e k ⊢;rw[if_pos S];have hs:(⟨a.j,a.ac,3,0,0,0⟩:B).wf:=⟨by simp,by simp,by simp,by simp,by simp,by simp,by simp,by simp⟩;exact uO q w d L _ _ _ _ _ _ _ m _ x.has hc (λf c=>(ua (hf.aD c) u _ hi ⟨a.j,a.ac,3,0,0,0⟩ hs J.symm I.symm).mono (λn w' ⟨t,r,s⟩=>⟨t,e f w' c r s⟩))
 rw[if_neg S] at e k ⊢;rw[if_neg S];rw[X] at e ⊢;refine Gh q w d L _ _ _ m _ x.has hc (λf c=>?_);have:=C9 (hf.aD c) u _ hi;rw[J,I] at this;exact this.mono (λn w' ⟨t,r,s⟩=>⟨t,e f w' c r s⟩)
open Go.RowKit Go.WideMaps
set_option maxHeartbeats 4000000
structure qD (w:U) (g:Nat) (hs:List B):Prop where
 cur:∃cs,X w g cs 199/\∀i (h:i<hs.length),cs[i* 4]? =E (y K hs[i].st)/\cs[i* 4+1]? =E (y K hs[i].pa)/\cs[i* 4+2]? =E (y K hs[i].cl)/\cs[i* 4+3]? =E (y K hs[i].un)
theorem yV(e:B->List V) (hf:∀i,(e i).length=4):∀(c:List B) (a:Nat) (d:a<c.length) (j:Nat),j<4->(c.flatMap e)[a* 4+j]? =(e c[a])[j]?
 |[],a,d,_,_=>absurd d (dZ _)
 |i::c,0,d,j,f=>by
  rw[lh,Nat.zero_mul,bg,List.getElem?_append_left (by rw[hf];exact f)];rfl
 |i::c,a+1,d,j,f=>by
  rw[lh,rz (by rw[hf,Nat.add_mul];omega),hf];rw[show(a+1)* 4+j - 4=a* 4+j by rw[Nat.add_mul,Nat.one_mul];omega];exact yV e hf c a (by simpa using d) j f
theorem Gr{j:U} {i:V} {hs:List B} (m:j.ownsRow 0 199 4 i hs.length (hs.flatMap nU)) (u:0<hs.length):∃c k,i=C (E ⟨c,0,F⟩) hs.length k/\qD j c hs:=by
 obtain⟨r,n|⟨c,cap,f,hv,hb,o,t,s,w,q⟩⟩:=m
 ·exact absurd n.2 (by omega)
 ·refine⟨c,cap,hv,f,o,λe hi=>?_⟩;have d:∀a,a<4->f[e* 4+a]? =(nU hs[e])[a]? :=λa p=>by
   have:=yV nU D5 hs e hi a p;rw[<-q,lj,if_pos (by omega)] at this;rw[<-dE,this]
  exact⟨d 0 (by omega),d 1 (by omega),d 2 (by omega),d 3 (by omega)⟩
theorem qD.mod{w w':U} {a:Nat} {hs:List B} {S:Nat->Prop} (c:qD w a hs) (i:G S w w') (f:¬S a):qD w' a hs:=by
 obtain⟨cs,d,e⟩:=c.cur;exact⟨cs,i.has d f,e⟩
structure eC (w wr:U) (b m':Nat) (Q:O) (acc0:List B) (hs:List B) (n k:Nat):Prop where
 fl:∃es' clock',bo wr b Q ((hs.take n).foldl bQ acc0) m' es' clock'
 jZ:gY Q ((hs.take n).foldl bQ acc0) (hs.length - n)
 full:∀j (h:j<((hs.take n).foldl bQ acc0).length),j<k->((hs.take n).foldl bQ acc0)[j].st≠0
 mod:G (λk=>k=b\/k=m') w wr
theorem eC.still{m wr w2:U} {i m':Nat} {e:O} {f hs:List B} {k j:Nat} (c:eC m wr i m' e f hs k j) (d:G No wr w2):eC m w2 i m' e f hs k j:=by
 obtain⟨o,n,hf⟩:=c.fl;exact⟨⟨o,n,d.has hf.has (λa=>a),d.map hf.map (λa=>a),hf.ok,hf.rel⟩,c.jZ,c.full,c.mod.trans (d.mono (λ_ _ a=>a.elim))⟩
theorem yW{a:List B} {c:Nat} (f:c<a.length) (d:a[c].st=0) (hf:∀j (i:j<a.length),j<c->a[j].st≠0):firstFree a=c:=by
 unfold firstFree;rw[List.findIdx_eq f];refine⟨by simp[d],λj e=>?_⟩;have:=hf j (by omega) e;simpa using this
theorem Gs{a:List B} {c:Nat} (d:c<a.length) (f:a[c].st=0) (hf:∀j (i:j<a.length),j<c->a[j].st≠0) (e:B):bQ a e=a.set c (B.at e a[c]):=by
 unfold bQ;rw[yW d f hf,nT,cK d];rfl
theorem sj{c hs:List B} {a:Nat} (d:a<hs.length):(hs.take (a+1)).foldl bQ c=bQ ((hs.take a).foldl bQ c) hs[a]:=by
 rw[take_succ hs a d,List.foldl_append];rfl
theorem eC.put{t wr:U} {f m':Nat} {i:O} {d hs:List B} {a c:Nat} (e:eC t wr f m' i d hs a c) (A:∀s∈hs,s.wf/\s.st≠0) (k:a<hs.length) (j:c<((hs.take a).foldl bQ d).length) (p:((hs.take a).foldl bQ d)[c].st=0):Calls T 118 #[b (E ⟨f,0,F⟩),l #[y K ((hs.take a).foldl bQ d)[c].row,y K ((hs.take a).foldl bQ d)[c].P],l #[y K hs[a].st,y K hs[a].pa,y K hs[a].cl,y K hs[a].un]] wr λn w'=>
   n=g (h #[])/\eC t w' f m' i d hs (a+1) c/\G (λc=>c=f\/c=m') wr w':=by
 obtain⟨I,H,hf⟩:=e.fl;have m:=A _ (dD k);have J:=yW j p e.full;have x:gY i ((hs.take a).foldl bQ d) ((hs.length - (a+1))+1):=by rw[show hs.length - (a+1)+1=hs.length - a by omega];exact e.jZ
 have z:=gY.step x m.1 m.2;refine(rv hf e.jZ.wf c j (B.at hs[a] ((hs.take a).foldl bQ d)[c]) (xC m.1) rfl rfl).mono ?_;rintro n w' ⟨rfl,u,r⟩;have o:(hs.take (a+1)).foldl bQ d=((hs.take a).foldl bQ d).set c (B.at hs[a] ((hs.take a).foldl bQ d)[c]):=by
  rw[sj k];exact Gs j p e.full _
 refine⟨rfl,⟨⟨_,_,by rw[o];exact u⟩,by rw[sj k];exact z,λD q w=>?_,e.mod.trans r⟩,r⟩;simp only[o] at q ⊢;rw[nX (by omega)];exact e.full D (by simpa using q) w
theorem eC.on{k wr:U} {i m':Nat} {f:O} {c hs:List B} {e a:Nat} (d:eC k wr i m' f c hs e a) (q:a<((hs.take e).foldl bQ c).length) (n:((hs.take e).foldl bQ c)[a].st≠0):eC k wr i m' f c hs e (a+1):=by
 refine⟨d.fl,d.jZ,λj o p=>?_,d.mod⟩;by_cases m:j=a
 ·subst m;exact n
 ·exact d.full j o (by omega)
theorem eC.lt{n wr:U} {j m':Nat} {e:O} {c hs:List B} {a d:Nat} (f:eC n wr j m' e c hs a d) (p:a<hs.length) (o:d<=((hs.take a).foldl bQ c).length):d<((hs.take a).foldl bQ c).length:=by
 have m:gY e ((hs.take a).foldl bQ c) ((hs.length - (a+1))+1):=by rw[show hs.length - (a+1)+1=hs.length - a by omega];exact f.jZ
 have hl:=rN m;have k:=rO hl;obtain i|i:=Nat.lt_or_ge (firstFree ((hs.take a).foldl bQ c)) d
 ·exact absurd k (f.full _ hl i)
 ·omega
theorem yX{k:U} {r f i:Nat} {p:O} {a:List B} {es:List t} (e:bo k r p a f es i) (j:L p a) (c:Nat) (hi:c<a.length) (d:U) (s:G No k d):(iO 162 (.map (E f)) (l #[y K a[c].row,y K a[c].P]) false).run T d=.ok (l #[y K a[c].st,y K a[c].pa,y K a[c].cl,y K a[c].un]) d:=by
 have u:=(j.jd hi).1;simp only[O.has,decide_eq_true_eq] at u;obtain⟨m,n,o,q,_⟩:=j.bounds;simp only at m n o q;have:=rj d f es i (s.map e.map (λw=>w)) e.ok a[c].row a[c].P (by omega) (by omega);rw[e.rel.cQ c hi] at this;exact this
attribute [local go_sem] rL
def bW(a hs:List B) (c:Nat):List B:=(hs.take c).foldl bQ a
theorem yY(j m' ah bi:Nat) (o:O) (f hs:List B) (a:Option Addr) (n:U) (w:eC n n j m' o f hs 0 0) (aH:∀ar∈hs,ar.wf/\ar.st≠0) (a1:0<hs.length->a=E ⟨ah,0,F⟩/\qD n ah hs/\ah≠j/\ah≠m') (hl:hs.length<=120):Calls T 163 #[b (E ⟨j,0,F⟩),C a hs.length bi] n λp w'=>p=g (h #[])/\∃c,eC n w' j m' o f hs hs.length c:=by
 have bz:=i aH;have a9:=i a1;have a7:=i w;have bn:j<n.heap.size/\m'<n.heap.size:=by
  obtain⟨bk,bh,hf⟩:=w.fl;exact⟨hf.has.lt,(Array.getElem?_eq_some_iff.1 hf.map).1⟩
 obtain⟨bG,bE⟩:=bn;have aN:=i λ(wr:U) (d c:Nat) (r:eC n wr j m' o f hs d c)=>(show(bW f hs d).length<=120 from aM.wf.gU r.jZ.wf);have aO:=i λ(wr:U) (d c:Nat) (r:eC n wr j m' o f hs d c) (s:c<(bW f hs d).length)=>
  (show ∃u t st D A H:Int,(∀e,G No wr e->Calls T 113 #[b (E ⟨j,0,F⟩),y K (c:Int)] e λp w'=>p=g (l #[y K u,y K t])/\G No e w')/\
   (∀e,G No wr e->(iO 162 (.map (E m')) (l #[y K u,y K t]) false).run T e=.ok (l #[y K st,y K D,y K A,y K H]) e)/\
   (∀e,G No wr e->e.cell? ⟨j,7,F⟩=E (.map (E m')))/\
   (st≠0->eC n wr j m' o f hs d (c+1))/\
   (st=0->∀(x:d<hs.length) e,G No wr e->Calls T 118 #[b (E ⟨j,0,F⟩),l #[y K u,y K t],l #[y K hs[d].st,y K hs[d].pa,y K hs[d].cl,y K hs[d].un]] e λp w'=>
    p=g (h #[])/\eC n w' j m' o f hs (d+1) c/\G (λc=>c=j\/c=m') e w') from by
  obtain⟨bk,bh,hf⟩:=r.fl
  have aj:=r.jZ.wf
  have bm:=aj.bounds
  simp only at bm
  obtain⟨aw,aX⟩:∃aw:Nat,o.w=(aw:Int):=⟨o.w.toNat,by omega⟩
  have bp:=aM.wf.gU aj
  simp only at bp
  have ai:c<((hs.take d).foldl bQ f).length:=s
  refine⟨((hs.take d).foldl bQ f)[c].row,((hs.take d).foldl bQ f)[c].P,((hs.take d).foldl bQ f)[c].st,((hs.take d).foldl bQ f)[c].pa,((hs.take d).foldl bQ f)[c].cl,((hs.take d).foldl bQ f)[c].un,λe q=>?_,λe q=>yX hf aj c ai e q,λe q=>?_,λN=>r.on ai N,λN x e q=>(r.still q).put aH x ai N⟩
  ·have:=rQ j _ _ aw c e (q.has hf.has (λm=>m)) (by rw[<-aX];rfl) (by omega) (by omega)
   have aE:=aj.place c ai
   simp only at aE
   rw[aE.1,aE.2,aX]
   exact this
  ·rw[(q.has hf.has (λm=>m)).cell];rfl)
 have aQ:=i λ(wr:U) (d c:Nat) (r:eC n wr j m' o f hs d c) (x:d<hs.length) (s:c<=(bW f hs d).length)=>(show c<(bW f hs d).length from r.lt x s)
 have aR:=i λ(d:Nat) (x:d<hs.length)=>(show(bW f hs (d+1)).length=(bW f hs d).length from by
  unfold bW;rw[sj x];unfold bQ;rw[iU])
 clear w aH a1;go_enter func163,ntmps163;go_wp2_with fail;go_loopw [4,9] (λS aI wr=>∃d c:Nat,aI=y K (d:Int)/\d<=hs.length/\S=y K (c:Int)/\c<=(bW f hs d).length/\Hid (eC n wr j m' o f hs d c)) (λ_ aI _=>hs.length - (intOf aI).toNat)
 case atStart=>exact⟨0,0,rfl,by omega,rfl,by omega,a7⟩
 case round=>
  obtain⟨d,c,rfl,x,rfl,s,L⟩:=hrel;by_cases J:d<hs.length
  ·have bl:(d:Int)<(hs.length:Int):=by omega
   have bL:K.wrap ((d:Int)+1)=((d+1:Nat):Int):=by rw[aB _ (by omega) (by omega)];rfl
   obtain⟨rfl,a2,Q,aA⟩:=(k a9) (by omega);have a3:=a2.mod (k L).mod (by rintro(p|p);exact Q p;exact aA p);obtain⟨cs,P,hcs⟩:=a3.cur;obtain⟨ad,ae,af,ag⟩:=hcs d J;have bD:=P.lt;rw[<-P.cell] at ad ae af ag;have a8:=i P;obtain⟨bu,aF⟩:∃ar,hs[d]=ar:=⟨_,rfl⟩;rw[aF] at ad ae af ag;obtain⟨bR,bP,Y,R,M,aa⟩:=bu;simp only at ad ae af ag
   have ba:=i λ(wr:U) (c:Nat) (r:eC n wr j m' o f hs d c) (s:c<(bW f hs d).length)=>
    (show ∃u t st D A H:Int,(∀e,G No wr e->Calls T 113 #[b (E ⟨j,0,F⟩),y K (c:Int)] e λp w'=>p=g (l #[y K u,y K t])/\G No e w')/\
     (∀e,G No wr e->(iO 162 (.map (E m')) (l #[y K u,y K t]) false).run T e=.ok (l #[y K st,y K D,y K A,y K H]) e)/\
     (∀e,G No wr e->e.cell? ⟨j,7,F⟩=E (.map (E m')))/\
     (st≠0->eC n wr j m' o f hs d (c+1))/\
     (st=0->∀e,G No wr e->Calls T 118 #[b (E ⟨j,0,F⟩),l #[y K u,y K t],l #[y K Y,y K R,y K M,y K aa]] e λp w'=>
      p=g (h #[])/\eC n w' j m' o f hs (d+1) c/\G (λc=>c=j\/c=m') e w') from by
    obtain⟨u,t,st,D,A,H,ak,am,ao,ap,aq⟩:=(k aO) wr d c r s
    refine⟨u,t,st,D,A,H,ak,am,ao,ap,λN e q=>?_⟩
    have:=aq N J e q
    rw[aF] at this
    exact this)
   have LT:=i λ(wr:U) (c:Nat) (r:eC n wr j m' o f hs d c) (s:c<=(bW f hs d).length)=>(k aQ) wr d c r J s;have bc:=i ((k aR) d J);have bb:=i ((k aN) _ _ _ (k L));have aK:=i J;have a8:=i P;have bx:=i x;have bw:=i (eL Q aA);clear a2 a3 hcs P Q aA aF aO aQ aR aN x;clear J;go_wp2_with fail;have ay:=i ((k L).still ((G.refl No wr).alloc (v #[y K Y,y K R,y K M,y K aa] 199)))
   have au:=i (X.new wr #[y K Y,y K R,y K M,y K aa] 199);have aZ:j≠wr.heap.size/\m'≠wr.heap.size:=by have:=(k L).mod.size;omega
   have bv:=i aZ;clear aZ ad ae af ag;generalize bs:wr.alloc (v #[y K Y,y K R,y K M,y K aa] 199)=bU at *;clear bs;generalize Q:wr.heap.size=bt at *;clear Q;go_loopw [4] (λS a4=>∃c:Nat,S=y K (c:Int)/\c<=(bW f hs d).length/\Hid (eC n a4 j m' o f hs d c)/\Hid (X a4 bt #[y K Y,y K R,y K M,y K aa] 199)) (λS _=>(bW f hs d).length - (intOf S).toNat)
   case atStart=>exact⟨c,rfl,s,ay,au⟩
   case round=>
    obtain⟨c,rfl,s,ab,av⟩:=hrel;have aC:=(k LT) _ c (k ab) s;obtain⟨u,t,st,D,A,H,ak,am,ao,ap,aq⟩:=(k ba) _ c (k ab) aC;have ax:=i ak;have bf:=i aq;have bd:=i ap;have aY:∀m:ft wr,(iO 162 (.map (E m')) (l #[y K u,y K t]) false).run T m.W=.ok (l #[y K st,y K D,y K A,y K H]) m.W:=λm=>am _ m.h;have aW:∀m:ft wr,m.W.cell? ⟨j,7,F⟩=E (.map (E m')):=λm=>ao _ m.h;have a0:=rF wr;have aL:=i aC
    have bA:=k bb;clear ak am ao ap aq aC;by_cases w:st=0
    ·have aS:=i w;subst w;go_wp2_with fail;refine nO (w0:=wr) (by kernel_rfl) (by kernel_rfl) (G.refl _ _) ?_
     repeat (go_big_quiet_step ((go_at_call 113;exact Calls.wd _ ((k ax) _ (ft.h _)))))
     refine wpQuiet_nil ?_;rintro w3 ⟨⟨_,z⟩,rfl⟩;have aV:=i ((k ab).still z);have I:=i (z.has (k av) (λm=>m));have aU:=i z;clear z aY aW a0 ay au;go_wp2_with fail;have bB:=(k I).cell;have bN:=(k I).lt;have a5:=i λe (q:G No w3 e)=>(k ax) e ((k aU).trans q);have a6:=i λe (q:G No w3 e)=>(k bf) (by trivial) e ((k aU).trans q);have aT:=i (G.refl No w3)
     go_region_with (first
       |(go_at_call 113;refine((k a5) _ (k aT).drew).mono ?_;rintro p bS ⟨rfl,aD⟩;have bC:=(aD.has (k I).drew (λm=>m)).cell;have bO:=(aD.has (k I).drew (λm=>m)).lt)
       |(go_at_call 118;refine((k a6) _ ((k aT).drew.trans aD)).mono ?_;rintro p bT ⟨rfl,bq,bH⟩))
     all_goals go_wp2
     all_goals exact⟨⟨d+1,c,by trivial,by have:=k aK;omega,by trivial,by rw[k bc];exact s,bq⟩,by simp[intOf];have:=k aK;omega⟩
    ·have aS:=i w;have bJ:(st !=0)=true:=by simp[w]
     have bM:K.wrap ((c:Int)+1)=((c+1:Nat):Int):=by rw[aB _ (by omega) (by omega)];rfl
     clear w;go_wp2_with fail;refine nO (w0:=wr) (by kernel_rfl) (by kernel_rfl) (G.refl _ _) ?_
     repeat (go_big_quiet_step ((go_at_call 113;exact Calls.wd _ ((k ax) _ (ft.h _)))))
     refine wpQuiet_nil ?_;rintro w3 ⟨⟨_,z⟩,rfl⟩;have aV:=i (((k bd) (k aS)).still z);have I:=i (z.has (k av) (λm=>m));clear z aY aW a0 ay au ab av;go_wp2;exact⟨⟨c+1,rfl,by have:=k aL;omega,aV,I⟩,by simp[intOf];have:=k aL;omega⟩
  ·have bo:d=hs.length:=by omega
   subst bo;have bl:¬((hs.length:Nat):Int)<(hs.length:Int):=by omega
   go_wp2;go_end0;exact⟨rfl,c,k L⟩
def qE:Array V:=#[y K 0,y K 0,y K 0,y K 0,y K 0,y K 0,y K 0,.map F,y K 0,y K 0,y K 0,y K 0,y K 0,y K 0,y K 0,y K 0,y K 0,y K 0,y K 0,y K 0,y K 0,y K 0,y K 0,y K 0,y K 0]
theorem Gt(p:O) (c:Option Nat) (a:List B):(dO p (.map c) a).all (·.oneCell')=true:=by simp[dO,dw,db,Value.oneCell']
theorem yZ:(T.underlying 164).map (·.isRow)=E true:=by kernel_rfl
theorem uQ:(T.info? 164).map (·.size)=E 25:=by kernel_rfl
def j1(p a:O):O:=⟨a.rows,a.w,a.front,p.I,p.R,p.n,p.f,p.ep⟩
theorem Gu{e Q m' z clock0:Nat} {p c:O} {d:List B} {es es0:List t} {q w':U} {x:V} (hS:gj q w' e Q m' z p c d es x d.length) (k:L p d) (J:c.sized=true) (M:c.limited=true) (P:¬c.rows* c.w<(ba d:Int)) (X:e<q.heap.size) (ab:m'<q.heap.size):∃a i,x=C a (aQ c d).length i/\Calls T 163 #[b (E ⟨e,0,F⟩),C a (aQ c d).length i] w' λn w2=>n=g (h #[])/\(∃I A,bo w2 e c (eY c d) m' I A)/\G (λm=>m=e\/m=m') w' w2:=by
 have o:=hS.row;have f:=hS.fl;rw[eA] at o f;obtain⟨a,i,rfl⟩:=aC o;refine⟨a,i,rfl,?_⟩;have u:eC w' w' e m' c (stay c d) (aQ c d) 0 0:=⟨f,rP k J M P,λad s aa=>by omega,G.refl _ _⟩;have hlen:(aQ c d).length<=120:=bF (oZ _ _) (aM.wf.gU k);by_cases w:0<(aQ c d).length
 ·obtain⟨r,R,hv,N⟩:=Gr o w;injection hv with D S H;subst D H;have Y:=hS.new r rfl;refine(yY e m' r i c (stay c d) (aQ c d) _ w' u (qk k) (λ_=>⟨rfl,N,by omega,by omega⟩) hlen).mono ?_;rintro n w2 ⟨rfl,m,j⟩;have f:=j.fl;rw[eA] at f;exact⟨rfl,f,j.mod⟩
 ·refine(yY e m' 0 i c (stay c d) (aQ c d) _ w' u (qk k) (λs=>absurd s w) hlen).mono ?_;rintro n w2 ⟨rfl,m,j⟩;have f:=j.fl;rw[eA] at f;exact⟨rfl,f,j.mod⟩
theorem Gv{S:Nat->Prop} {c:Nat} {p a:O} {d:List B} {e:U} (o:a9 e S c p d) (N:L p d) (Q:a.sized=true) (ax:¬a.rows* a.w<(ba d:Int)):Calls T 162 #[l #[y K a.rows,y K a.w,y K a.front],b (E ⟨c,0,F⟩)] e λm w'=>m=g (h #[])/\a9 w' (λj=>j=c\/e.heap.size<=j) c (eN p a) (eY (eN p a) d)/\G (λj=>j=c) e w':=by
 obtain⟨f,es,A,f1,f2,f3,f4,f5,f6⟩:=o;have ay:bo e c p d f es A:=⟨f1,f2,f3,f4⟩;have bl:=f1.lt;have bm:=(Array.getElem?_eq_some_iff.1 f2).1;have a1:=f1.mh f2;have J:(j1 p a).sized=true:=Q;have M:(j1 p a).limited=true:=N.limited;have aM:=i ay;have bc:=i Q
 have ag:=i λn (a0:G No e n)=>(show Calls T 159 #[b (E ⟨c,0,F⟩),l #[y K a.rows,y K a.w,y K a.front,y K p.I,y K p.R,y K p.n,y K p.f]] n λm w'=>
   m=g (h #[])/\(∃m' u s,bo w' c (j1 p a) (q (j1 p a)) m' u s/\n.heap.size<=m')/\G (λj=>j=c) n w' from by
  refine(ud (p:=j1 p a) p.ep ⟨_,_,_,_,_,_,_,_,_,_,_,_,_,_,_,_,_,_,_,_,_,_,_,_,a0.has f1 (λr=>r)⟩ J M).mono ?_
  rintro m w' ⟨rfl,⟨m',u,s,aq,ar,aX,aY,bi,aZ⟩,Y⟩
  have:=aq.mh ar
  exact⟨rfl,⟨m',u,s,⟨aq,ar,aX,aY⟩,by obtain o|o:=aZ;exact absurd o this;exact o⟩,Y⟩)
 have ak:=i λ(n:U) (m' s:Nat) (u:List t) (hf:bo n c (j1 p a) (q (j1 p a)) m' u s) (Y:n.heap[f]? =E (bH es A)) (aa:f≠m')=>
  D7 c f m' A s p (j1 p a) d es u n hf Y f3 f4 N J M aa
 have aj:=i λ(n w':U) (m':Nat) (D:V) (hS:gj n w' c f m' A p (j1 p a) d es D d.length) (hb:c<n.heap.size) (aw:m'<n.heap.size)=>Gu (clock0:=0) (es0:=[]) hS N J M ax hb aw;clear Q ax N f3 f4 f5 f6 J M ay;have aI:=i f1;have bb:=i f2;clear f1 f2;go_enter func162,ntmps162;go_upto_region 1 with fail;have ad:G No e (e.alloc (v #[y K a.rows,y K a.w,y K a.front] 212)):=(G.refl _ e).alloc _
 have af:=i (ad.has (k aI) (λr=>r));have bp:=(k af).lt;have aR:=i ad;have aH:=i (X.new e #[y K a.rows,y K a.w,y K a.front] 212);have a2:(e.alloc (v #[y K a.rows,y K a.w,y K a.front] 212)).heap.size=e.heap.size+1:=bj ..;clear ad;generalize a3:e.alloc (v #[y K a.rows,y K a.w,y K a.front] 212)=aF at *;clear a3
 have ap:=i (show X (aF.alloc (v #[y K 0,y K 0,y K 0,y K 0,y K 0,y K 0,y K 0,.map F,y K 0,y K 0,y K 0,y K 0,y K 0,y K 0,y K 0,y K 0,y K 0,y K 0,y K 0,y K 0,y K 0,y K 0,y K 0,y K 0,y K 0] 164)) (e.heap.size+1) qE 164 from by have:=X.new aF qE 164;rw[a2] at this;exact this);have am:=i ((k aR).alloc (v qE 164))
 go_upto_region 2 with(first
  |(refine oT rfl 164 _ rfl c 0 rfl (dO p (.map (E f)) d) 164 (k af) (dO p (.map (E f)) d) (λa5 D o=>by rw[bg];simpa using o) yZ uQ ?_)
  |(refine tV rfl 164 _ _ rfl (e.heap.size+1) (dO p (.map (E f)) d) rfl rfl qE 164 (k ap) rfl uQ (Gt p _ d) ?_;intro a8 au ab))
 have z:=i ((k am).trans' ab (λa4 hi hl=>by omega));have ae:=i (ab.has ((k aH).alloc (v qE 164)) (by omega));have w:=i au
 have ao:=i (show bo a8 c p d f es A from by
  have:=k aM
  exact⟨(k z).has this.has (λr=>r),(k z).map this.map (λr=>r),this.ok,this.rel⟩)
 clear ab au ap am;have aU:=(k ae).cell;have aB:=(k w).cell 3;rw[show(dO p (.map (E f)) d)[3]? =E (y K p.I) from rfl] at aB;have aC:=(k w).cell 4;rw[show(dO p (.map (E f)) d)[4]? =E (y K p.R) from rfl] at aC;have aD:=(k w).cell 5;rw[show(dO p (.map (E f)) d)[5]? =E (y K p.n) from rfl] at aD;have aE:=(k w).cell 6;rw[show(dO p (.map (E f)) d)[6]? =E (y K p.f) from rfl] at aE;go_wp2_with fail
 refine((k ag) _ (k z)).mono ?_;rintro m bs ⟨rfl,⟨m',u,s,x,aw⟩,P⟩;clear aU aB aC aD aE;have bq:=(k w).lt;have aa:f≠m':=by omega
 have aK:=i (P.map (k ao).map (λm=>a1 m));have aS:=i (P.has (k w) (λm=>by omega));have aT:=i x;have aN:=i (((k z).mono (S':=λj=>j=c) (λ_ _ r=>r.elim)).trans P);have a6:=x.has.lt;have a7:=(Array.getElem?_eq_some_iff.1 x.map).1;have ah:=i (show e.heap.size<=m' from by have:=(k z).size;omega);have bk:=x.has.mh x.map;clear x P ao ae w
 go_wp2_with (first
  |(refine oT rfl 164 _ rfl (e.heap.size+1) 0 rfl (dO p (.map (E f)) d) 164 (k aS) (dO p (.map (E f)) d) (λa5 D o=>by rw[bg];simpa using o) yZ uQ ?_))
 refine((k ak) _ m' s u (k aT) (k aK) aa).mono ?_;rintro m bt ⟨D,rfl,hS⟩;have aO:=i hS.mod;obtain⟨bd,bh,rfl,av⟩:=(k aj) _ _ m' D hS a6 a7;have ai:=i av;clear av hS aj ak ag;go_wp2_with fail;refine(k ai).mono ?_;rintro m H ⟨rfl,⟨aW,aV,I⟩,aA⟩;have R:a9 H (λj=>j=c\/e.heap.size<=j) c (j1 p a) (eY (j1 p a) d):=⟨m',aW,aV,I.has,I.map,I.ok,I.rel,.inl rfl,.inr (k ah)⟩;have aQ:=i ((k aO).trans aA)
 obtain⟨bf,bv,bn⟩:H.cell? ⟨c,24,F⟩=E (y K p.ep)/\H.frozen? ⟨c,24,F⟩=false/\c<H.heap.size:=R.qd;have bu:=pO p.ep;have aL:=i (show a9 (H.setCell ⟨c,24,F⟩ (y K (fI p.ep))) (λj=>j=c\/e.heap.size<=j) c (eN p a) (eY (eN p a) d) from R.lu.1);clear R I aA ai;go_wp2;go_end0;refine⟨rfl,k aL,?_⟩;exact(((k aN).trans' (k aQ) (λa4 hi hl=>by obtain m|m:=hi;exact m;have:=k ah;omega))).at 24 _
def aA(now:Int) (c:Nat->Option (O×List B)) (a:N):Int×Int×(Nat->Option (O×List B)):=
 if a.kind<1\/a.kind>9 then(1,now,c)
 else if a.kind=8 then(if 1<=a.time/\a.time<=100 then(0,now+a.time,λf=>(c f).map (gZ (now+a.time))) else(8,now,c))
 else if ¬(1<=a.m/\a.m<=20) then(2,now,c)
 else match c a.m.toNat with
  |none=>if a.kind=1 then(if a.p.sized=true/\a.p.limited=true then(0,now,λe=>if e=a.m.toNat then E (a.p.at 1,q a.p) else c e) else(4,now,c)) else(2,now,c)
  |some d=>if a.kind=1 then(3,now,c) else if aH d.1 d.2 a now=0 then(0,now,λe=>if e=a.m.toNat then E (fT d.1 a,dg d.1 d.2 a) else c e) else(aH d.1 d.2 a now,now,c)
structure oh (w:U) (ow:Nat->Nat) (kb:Nat) (now:Int) (fl:Nat->Option (O×List B)):Prop where
 ex:∃pt,cF w ow kb now pt fl
structure lU (w w':U) (ow:Nat->Nat) (kb:Nat) (pt:Nat->Option Nat) (now:Int) (fl:Nat->Option (O×List B)):Prop where
 keep:∃ow' pt',cF w' ow' kb now pt' fl/\(∀k,k<w.heap.size->ow' k=ow k)/\∀i,21<=i->pt' i=pt i
 mod:G (λk=>ow k≠0/\ow k<30) w w'
theorem Gw{e w':U} {c:Nat} {now k:Int} {pt d:Nat->Option Nat} (f:X e c (cD now pt) 121) (i:X w' c (cD k d) 121) (j:∀a,21<=a->a<29->d a=pt a):∀a,a<8->w'.cell? ⟨c,22+a,F⟩=e.cell? ⟨c,22+a,F⟩:=λa hi=>by
 rw[f.cell,i.cell,rR _ _ a hi,rR _ _ a hi,j _ (by omega) (by omega)]
theorem za{d:U} {m:Nat->Nat} {o:Nat} {now:Int} {pt:Nat->Option Nat} {r:Nat->Option (O×List B)} (f:cF d m o now pt r) (e:Nat) (S:1<=e/\e<=20) (Q:r e=F) (p:O) (A:p.sized=true) (D:p.limited=true):Calls T 44 #[b (E ⟨o,0,F⟩),l #[y K e,jf p]] d λa w'=>a=g (h #[])/\lU d w' m o pt now (λj=>if j=e then E (p.at 1,q p) else r j):=by
 refine Gl o e S now pt p d _ f.has (f.gone e (by omega) Q) (λn s u hb=>?_);have hs:d.heap.size<=n.heap.size:=s.size;have Y:=hb.lt;refine(De hb A D).mono ?_;rintro a w' ⟨rfl,hf,w⟩;refine⟨rfl,⟨λc=>if c<d.heap.size then m c else if c=d.heap.size+2\/(n.heap.size<=c/\c<w'.heap.size) then e+2 else 0,gD pt e (d.heap.size+2),?_,λc u=>by simp[u],λJ hi=>by simp only[gD];rw[if_neg (by omega)]⟩,?_⟩
 ·have X:o<d.heap.size:=f.has.lt;have I:G (λc=>c=d.heap.size+2) n w':=w;have aa:n.heap.size<=w'.heap.size:=w.size;refine⟨I.has u (by omega),by simp[X,f.aW],λc k=>?_,λj t i=>?_,λj z x t i=>?_⟩
  ·split at k
   ·omega
   ·split at k
    ·rename_i a;obtain a|a:=a<;>omega
    ·exact absurd rfl k
  ·by_cases a:j=e
   ·rw[if_pos a] at i;exact absurd i (by simp)
   ·rw[if_neg a] at i;simp only[gD,if_neg a];exact f.gone j t i
  ·by_cases a:j=e
   ·rw[if_pos a] at i;simp only[E.injEq,Prod.mk.injEq] at i;obtain⟨rfl,rfl⟩:=i;subst a;refine⟨d.heap.size+2,by simp[gD],(ly A D).at 1,?_⟩;refine hf.narrow.wide (λc ⟨H,R⟩=>?_);have:¬c<d.heap.size:=by obtain a|a:=H<;>omega
    have P:c=d.heap.size+2\/(n.heap.size<=c/\c<w'.heap.size):=by obtain a|a:=H;exact .inl a;exact .inr ⟨a,R⟩
    simp only[if_neg this,if_pos P]
   ·rw[if_neg a] at i;obtain⟨b',L,M,N⟩:=f.here j z x t i;refine⟨b',by simp only[gD,if_neg a];exact L,M,?_⟩;have f1:a9 n (λc=>m c=j+2) b' z x:=N.mod s (λc k a=>by subst a;rw[f.aW] at k;omega)
    have f2:a9 w' (λc=>m c=j+2) b' z x:=f1.mod I (λc k a=>by
     subst a
     have:=f.aU _ (show m (d.heap.size+2)≠0 by omega)
     omega)
    refine f2.wide (λc k=>?_);have:=f.aU c (by omega);simp only[if_pos this];exact k
 ·refine(s.mono (λc _ (a:c=o)=>by subst a;show m c≠0/\m c<30;rw[f.aW];omega)).trans' w (λJ (a:J=d.heap.size+2) hl=>by omega)
theorem zd{m:U} {o:Nat->Nat} {t:Nat} {now:Int} {pt:Nat->Option Nat} {A:Nat->Option (O×List B)} (i:cF m o t now pt A) (e:Nat) (aj:1<=e/\e<=20) {p:O} {k:List B} (af:A e=E (p,k)) (a:N) (u:a.kind=9) (w:aH p k a now=0):Calls T 44 #[b (E ⟨t,0,F⟩),l #[y K e,fC a]] m λc w'=>
   c=g (h #[])/\lU m w' o t pt now (λj=>if j=e then E (fT p a,dg p k a) else A j):=by
 obtain⟨q,J,G,hf⟩:=i.here e p k (by omega) af;have hc:(cD now pt)[1+e]? =E (b (E ⟨q,0,F⟩)):=by rw[mM now pt e (by omega),J];rfl
 have ak:o q=e+2:=by obtain⟨ap,es,Q,_,_,_,_,H,_⟩:=hf;exact H
 have ad:q<m.heap.size:=by obtain⟨ap,es,Q,H,_⟩:=hf;exact H.lt
 have n:a.p.sized=true/\¬(a.p.rows* a.p.w<(ba k:Int)):=by
  unfold aH at w;rw[if_pos u] at w;by_cases n:a.p.sized=true/\¬(a.p.rows* a.p.w<(ba k:Int))
  ·exact n
  ·rw[if_neg n] at w;exact absurd w (by omega)
 have Y:fC a=mH a.p:=by unfold fC;rw[if_pos u]
 have ab:dg p k a=eY (eN p a.p) k:=by unfold dg;rw[if_pos u]
 have aa:fT p a=eN p a.p:=by unfold fT;rw[if_pos u]
 have am:L (eN p a.p) (eY (eN p a.p) k):=uq (q:=eN p a.p) G n.1 G.limited n.2;rw[Y,ab,aa];unfold mH;refine Gj t q e aj _ _ _ _ m _ i.has hc (λz s=>(Gv (hf.aD s) G n.1 n.2).mono ?_);rintro c w' ⟨rfl,ae,x⟩;have hs:m.heap.size<=z.heap.size:=s.size;have ao:t<m.heap.size:=i.has.lt;have aq:z.heap.size<=w'.heap.size:=x.size
 refine⟨rfl,⟨λd=>if d<m.heap.size then o d else if z.heap.size<=d/\d<w'.heap.size then e+2 else 0,pt,?_,λd ag=>by simp[ag],λ_ _=>rfl⟩,(s.mono (λ_ _ I=>I.elim)).trans (x.mono (λd _ (c:d=q)=>by subst c;show o d≠0/\o d<30;omega))⟩;refine⟨x.has (s.has i.has (λI=>I)) (by intro c;have:=i.aW;rw[c] at this;omega),by simp[ao,i.aW],λd r=>?_,λj D f=>?_,λj P M D f=>?_⟩
 ·split at r
  ·omega
  ·split at r
   ·omega
   ·exact absurd rfl r
 ·by_cases c:j=e
  ·rw[if_pos c] at f;exact absurd f (by simp)
  ·rw[if_neg c] at f;exact i.gone j D f
 ·by_cases c:j=e
  ·rw[if_pos c] at f;simp only[E.injEq,Prod.mk.injEq] at f;obtain⟨rfl,rfl⟩:=f;subst c;refine⟨q,J,am,ae.narrow.wide (λd ⟨ah,ai⟩=>?_)⟩;obtain c|c:=ah
   ·subst c;simp only[if_pos ad];exact ak
   ·have:¬d<m.heap.size:=by omega
    simp only[if_neg this,if_pos (eL c ai)]
  ·rw[if_neg c] at f;obtain⟨b',R,S,X⟩:=i.here j P M D f;refine⟨b',R,S,?_⟩;have f2:a9 w' (λd=>o d=j+2) b' P M:=(X.aD s).mod x (λd r c=>by subst c;omega);refine f2.wide (λd r=>?_);have:=i.aU d (by omega);simp only[if_pos this];exact r
set_option maxHeartbeats 2000000
attribute [local go_sem] pR pS pT pU
attribute [local go_sem ↓] rr ru
theorem Gx(j:Nat) (M s B D H I J:Int) (L:V) (d e f i b0 k m n o p q r u w x z A:Int) (c:U) (a:X c j (db M s B D H I J L d e f i b0 k m n o p q r u w x z A) 164):Calls T 62 #[b (E ⟨j,0,F⟩)] c λt w'=>t=g (l #[y K d,y K e,y K f,y K i,y K b0,y K k,y K m,y K n,y K o,y K p,y K q,y K r])/\G No c w':=by
 have hc:=a.cell;have N:=a.lt;unfold db at hc;clear a;go_enter func62,ntmps62;go_wp2;go_returns;exact⟨rfl,(G.refl _ _).alloc _⟩
def cn:Array V:=#[y K 0,y K 0,y K 0,y K 0,y K 0,y K 0,y K 0,y K 0,y K 0,y K 0,y K 0,y K 0]
theorem ze(f:Nat) (j:Int) (c:U) (hF:∀d,G No c d->Calls T 59 #[b (E ⟨f,0,F⟩),y K j] d λa w'=>a=g (b F)/\w'=d):Calls T 35 #[b (E ⟨f,0,F⟩),y K j] c λa w'=>a=g (h #[l cn,y K 2])/\G No c w':=by
 have m:=i hF;have e:=i ((G.refl No c).alloc (v cn 91));unfold cn at *;clear hF;go_enter func35,ntmps35;go_wp2_with fail;refine((k m) _ (k e)).mono ?_;rintro a n ⟨rfl,rfl⟩;go_wp2;go_returns;exact⟨rfl,k e⟩
theorem Gy(a c d e f b0 i j k m n o p:V):(((((((((((((#[a,a,a,a,a,a,a,a,a,a,a,a]:Array V).setIfInBounds 0 c).setIfInBounds 1 d).setIfInBounds 2 e).setIfInBounds 3 f).setIfInBounds 4 b0).setIfInBounds 5 i).setIfInBounds 6 j).setIfInBounds 7 k).setIfInBounds 8 m).setIfInBounds 9 n).setIfInBounds 10 o).setIfInBounds 11 p)=#[c,d,e,f,b0,i,j,k,m,n,o,p]:=by
 simp
theorem Gz{d:Program} {e:Func} {post:Ending->U->Prop} {ex:Exit} {a:Act} {c:U} (R:U->Prop) (f:R c) (i:∀c,R c->bodyPost d e post ex a c):bodyPost d e post ex a c:=i c f
theorem GB(N L:Nat) (O:Int) (j m n o b0 p q r t u w x:Int) (a:U) (hF:∀e,G No a e->Calls T 59 #[b (E ⟨N,0,F⟩),y K O] e λf w'=>f=g (b (E ⟨L,0,F⟩))/\w'=e) (M:∀e,G No a e->Calls T 62 #[b (E ⟨L,0,F⟩)] e λf w'=>f=g (l #[y K j,y K m,y K n,y K o,y K b0,y K p,y K q,y K r,y K t,y K u,y K w,y K x])/\G No e w'):
  Calls T 35 #[b (E ⟨N,0,F⟩),y K O] a λf w'=>f=g (h #[l #[y K j,y K m,y K n,y K o,y K b0,y K p,y K q,y K r,y K t,y K u,y K w,y K x],y K 0])/\G No a w':=by
 have H:=i hF;have I:=i M;have z:=i ((G.refl No a).alloc (v cn 91));have D:=i (X.new a cn 91);unfold cn at *;clear hF M;go_enter func35,ntmps35;go_wp2_with fail;refine((k H) _ (k z)).mono ?_;rintro f ab ⟨rfl,rfl⟩;go_wp2_with fail;refine((k I) _ (k z)).mono ?_;rintro f ad ⟨rfl,A⟩;have s:=A.has (k D) (λY=>Y);have Q:=s.cell;have f2:=s.frozen;have R:=s.lt;have J:=i ((k z).trans A);clear A;go_wp2
 refine Gz (λe=>X e a.heap.size #[y K j,y K m,y K n,y K o,y K b0,y K p,y K q,y K r,y K t,y K u,y K w,y K x] 91/\G No a e) ?_ ?_
 ·have P:=(((((((((((s.set 0 (y K j)).set 1 (y K m)).set 2 (y K n)).set 3 (y K o)).set 4 (y K b0)).set 5 (y K p)).set 6 (y K q)).set 7 (y K r)).set 8 (y K t)).set 9 (y K u)).set 10 (y K w)).set 11 (y K x);rw[Gy] at P;refine⟨P,?_⟩;have d:∀(B:Nat),No (⟨a.heap.size,B,F⟩:Addr).block\/a.heap.size<=(⟨a.heap.size,B,F⟩:Addr).block:=λB=>.inr (bK _)
  exact((((((((((((k J).setCell (d 0) _).setCell (d 1) _).setCell (d 2) _).setCell (d 3) _).setCell (d 4) _).setCell (d 5) _).setCell (d 6) _).setCell (d 7) _).setCell (d 8) _).setCell (d 9) _).setCell (d 10) _).setCell (d 11) _
 ·clear s Q f2 R J;intro w3 ⟨c,S⟩;have d0:w3.cell? ⟨a.heap.size,0,F⟩=E (y K j):=c.cell 0;have d1:w3.cell? ⟨a.heap.size,1,F⟩=E (y K m):=c.cell 1;have d2:w3.cell? ⟨a.heap.size,2,F⟩=E (y K n):=c.cell 2;have d3:w3.cell? ⟨a.heap.size,3,F⟩=E (y K o):=c.cell 3;have d4:w3.cell? ⟨a.heap.size,4,F⟩=E (y K b0):=c.cell 4;have d5:w3.cell? ⟨a.heap.size,5,F⟩=E (y K p):=c.cell 5
  have d6:w3.cell? ⟨a.heap.size,6,F⟩=E (y K q):=c.cell 6;have d7:w3.cell? ⟨a.heap.size,7,F⟩=E (y K r):=c.cell 7;have d8:w3.cell? ⟨a.heap.size,8,F⟩=E (y K t):=c.cell 8;have d9:w3.cell? ⟨a.heap.size,9,F⟩=E (y K u):=c.cell 9;have d10:w3.cell? ⟨a.heap.size,10,F⟩=E (y K w):=c.cell 10;have d11:w3.cell? ⟨a.heap.size,11,F⟩=E (y K x):=c.cell 11;have aa:=c.lt;clear c;clear z D H I
  refine bodyPost_ret (by simp[results,results35,go_sem,d0,d1,d2,d3,d4,d5,d6,d7,d8,d9,d10,d11];try rfl) rfl ?_;exact⟨rfl,S⟩
end Go.Proofs.YthhibagcpjeihaaGreat
