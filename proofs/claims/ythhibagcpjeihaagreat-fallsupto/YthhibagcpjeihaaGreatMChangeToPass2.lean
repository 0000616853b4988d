import Derived.Test.YthhibagcpjeihaaGreatMBaseToPut2
import Derived.Deep.DeepCutAuto
import Derived.Maps.RangeRun
import Derived.ChangeKeysEq
import Derived.DeepKeys
import Derived.Maps.RangeWalk
import Derived.Maps.OwnOps
import Derived.BigQuiet
import Derived.Deep.QuietTactic
open Go.Proofs.Tryz
open Go.Value renaming int->y,pointer->b,bool->W,agg->l,tuple->h
open Go.IntKind renaming i64->K
open Option renaming none->F,some->E
open Go renaming World->U,Value->V
open Go.Proofs.Tryz renaming prog->T,underlying162->ld
open Go.Ending renaming returned->g
open Go.Obj renaming cells->v
open Go.World renaming size_alloc->bj,size_setCell->kx
open List renaming getElem_mem->dD,getElem_of_mem->iP,countP_cons->kh,countP_append->nL,mem_cons_self->nG,range->iq,getElem_set->mi,mem_cons_of_mem->oM
open Nat renaming le_refl->bK
open Int renaming mul_nonneg->iK
open Bool renaming false_eq_true->kg,and_eq_true->kY
open And renaming intro->eL
open Go.Instr renaming lookup->iO
open Go.Oper renaming wp->eT
namespace Go.Proofs.YthhibagcpjeihaaGreat
open Go.RowKit
open Go.ChangeMaps (setBlock)
open M
set_option linter.unusedVariables false
set_option linter.unusedSimpArgs false
set_option maxRecDepth 100000
theorem a9.qd{w:U} {S:Nat->Prop} {c:Nat} {p:O} {f:List B} (e:a9 w S c p f):w.cell? ⟨c,24,F⟩=E (y K p.ep)/\w.frozen? ⟨c,24,F⟩=false/\c<w.heap.size:=by
 obtain⟨r,es,i,d,j,k,m,n,q⟩:=e;refine⟨?_,d.frozen 24,d.lt⟩;rw[d.cell 24];rfl
theorem jy.next{es:List t} {p:O} {d:List B} (c:jy es p d):jy es p.next d:=⟨c.nJ,c.cQ,c.size⟩
theorem L.next{p:O} {d:List B} (c:L p d):L p.next d:=⟨c.sized,c.limited,c.len,c.place,c.cQ⟩
theorem bo.lu{w:U} {d i e:Nat} {p:O} {f:List B} {es:List t} (c:bo w d p f i es e):bo (w.setCell ⟨d,24,F⟩ (y K (fI p.ep))) d p.next f i es e:=
 ⟨c.has.set 24 _,by rw[Below.heap_setCell _ _ _ _ (by exact c.has.mh c.map)];exact c.map,c.ok,c.rel.next⟩
theorem a9.lu{w:U} {S:Nat->Prop} {c:Nat} {p:O} {e:List B} (i:a9 w S c p e):a9 (w.setCell ⟨c,24,F⟩ (y K (fI p.ep))) S c p.next e/\G S w (w.setCell ⟨c,24,F⟩ (y K (fI p.ep))):=by
 obtain⟨r,es,f,j,k,m,n,d,q⟩:=i;have:=bo.lu ⟨j,k,m,n⟩;exact⟨⟨r,es,f,this.has,this.map,this.ok,this.rel,d,q⟩,(G.refl _ w).setCell (p:=⟨c,24,F⟩) (.inl d) _⟩
theorem ua{S:Nat->Prop} {f:Nat} {p:O} {d:List B} {w:U} (s:a9 w S f p d) (u:L p d) (e:Nat) (hi:e<d.length) (c:B) (hs:c.wf) (t:c.row=d[e].row) (hc:c.P=d[e].P):Calls T 161 #[l #[y K c.row,y K c.P,y K c.st,y K c.pa,y K c.cl,y K c.un],b (E ⟨f,0,F⟩)] w λr w'=>
   r=g (h #[])/\a9 w' S f p.next (d.set e c)/\G S w w':=by
 have q:=i λA (D:a9 A S f p d)=>pV D u e hi c hs t hc;have m:=i s;clear s t hc hs u;go_enter func161,ntmps161;go_wp2_with fail;refine((k q) _ ((k m).aD ((G.refl _ _).alloc _))).mono ?_;rintro r J ⟨rfl,j,x⟩;obtain⟨H,N,I⟩:=j.qd;have M:=pO p.ep;have n:=i j.lu;have z:=i (((G.refl S w).alloc (v #[y K c.row,y K c.P,y K c.st,y K c.pa,y K c.cl,y K c.un] 202)).trans x);clear j x m q;go_wp2;go_end0
 exact⟨rfl,(k n).1,(k z).trans (k n).2⟩
theorem C9{S:Nat->Prop} {e:Nat} {p:O} {c:List B} {w:U} (r:a9 w S e p c) (H:L p c) (d:Nat) (hi:d<c.length):Calls T 165 #[l #[y K c[d].row,y K c[d].P],b (E ⟨e,0,F⟩)] w λq w'=>q=g (h #[])/\a9 w' S e p.next (c.set d c[d].aS)/\G S w w':=by
 have D:(c[d].aS).wf:=⟨by simp[B.aS],by simp[B.aS],by simp[B.aS],by simp[B.aS],by simp[B.aS],by simp[B.aS],by simp[B.aS],by simp[B.aS]⟩;have f:=i λx (A:a9 x S e p c)=>pV A H d hi c[d].aS D rfl rfl;have m:=i r;clear r;generalize s:c[d]=J at *;have M:=i s;clear s;obtain⟨I,z,st,Y,R,aa⟩:=J;simp only[B.aS] at f ⊢;go_enter func165,ntmps165;go_wp2_with fail
 refine((k f) _ ((k m).aD ((G.refl _ _).alloc _))).mono ?_;rintro q ab ⟨rfl,j,t⟩;obtain⟨N,ae,X⟩:=j.qd;have ad:=pO p.ep;have n:=i j.lu;have u:=i (((G.refl S w).alloc (v #[y K I,y K z] 214)).trans t);clear j t m f;go_wp2;go_end0;exact⟨rfl,(k n).1,(k u).trans (k n).2⟩
def Old(S:Nat->Prop) (w:U):Nat->Prop:=λc=>S c/\c<w.heap.size
theorem a9.narrow{w:U} {S:Nat->Prop} {c:Nat} {p:O} {f:List B} (j:a9 w S c p f):a9 w (Old S w) c p f:=by
 obtain⟨r,es,i,d,e,k,m,n,q⟩:=j;exact⟨r,es,i,d,e,k,m,⟨n,d.lt⟩,⟨q,(Array.getElem?_eq_some_iff.1 e).1⟩⟩
theorem a9.wide{w:U} {S S':Nat->Prop} {c:Nat} {p:O} {e:List B} (i:a9 w S c p e) (hs:∀d,S d->S' d):a9 w S' c p e:=by
 obtain⟨s,es,f,j,k,m,n,q,r⟩:=i;exact⟨s,es,f,j,k,m,n,hs _ q,hs _ r⟩
theorem Da(S:Nat->Prop) (j u:Nat) (cs:Array V) (e d f c' st n m p:Int) (w:U) (es:List t) (ad:Nat) (R Y:U->Prop) (hS:∀ai,S ai->ai<w.heap.size) (z:X w j cs 164) (ae:cs[7]? =E (.map (E u))) (B:w.heap[u]? =E (bH es ad)) (A:∀c:U,c.heap[u]? =E (bH es ad)->(iO 162 (.map (E u)) (l #[y K e,y K d]) false).run T c=.ok (l #[y K st,y K n,y K m,y K p]) c)
  (af:∀c,G No w c->Calls T 118 #[b (E ⟨j,0,F⟩),l #[y K e,y K d],l #[y K 0,y K 0,y K 0,y K 0]] c λq w'=>q=g (h #[])/\R w'/\G S c w') (ag:∀c,R c->Calls T 118 #[b (E ⟨j,0,F⟩),l #[y K f,y K c'],l #[y K st,y K n,y K m,y K p]] c λq w'=>q=g (h #[])/\Y w'/\G S c w') (s:Int) (aa:U->Prop) (ah:∀c,Y c->(c.cell? ⟨j,24,F⟩=E (y K s)/\c.frozen? ⟨j,24,F⟩=false/\j<c.heap.size)/\aa (c.setCell ⟨j,24,F⟩ (y K (fI s)))/\G S c (c.setCell ⟨j,24,F⟩ (y K (fI s)))):
  Calls T 166 #[l #[y K e,y K d,y K f,y K c'],b (E ⟨j,0,F⟩)] w λq w'=>q=g (h #[])/\aa w'/\G S w w':=by
 have L:=i ah;clear ah;have aI:=z.lt;have aB:=z.cell 7;rw[ae] at aB;have aC:=A (w.alloc (v #[y K e,y K d,y K f,y K c'] 216)).drew (G.map ((G.refl No w).alloc _).drew B (λr=>r));have aD:=λab=>A ((w.alloc (v #[y K e,y K d,y K f,y K c'] 216)).alloc ab).drew (G.map (((G.refl No w).alloc _).alloc ab).drew B (λr=>r));have M:=i hS;have I:=i af;have J:=i ag;clear hS z ae B A af ag
 go_enter func166,ntmps166;go_wp2_with fail;go_cut [4] (λaE aF=>aE=b (E ⟨w.heap.size+1,0,F⟩)/\aF=((w.alloc (v #[y K e,y K d,y K f,y K c'] 216)).alloc (v #[y K st,y K n,y K m,y K p] 199)).drew)
 case first=>
  go_region
  all_goals go_wp2
  all_goals go_meet
  all_goals exact⟨rfl,rfl⟩
 case rest=>
  obtain⟨rfl,rfl⟩:=hcut;have D:X ((w.alloc (v #[y K e,y K d,y K f,y K c'] 216)).alloc (v #[y K st,y K n,y K m,y K p] 199)).drew w.heap.size #[y K e,y K d,y K f,y K c'] 216:=((X.new w _ _).alloc _).drew;have H:X ((w.alloc (v #[y K e,y K d,y K f,y K c'] 216)).alloc (v #[y K st,y K n,y K m,y K p] 199)).drew (w.heap.size+1) #[y K st,y K n,y K m,y K p] 199:=by
   have:=X.new (w.alloc (v #[y K e,y K d,y K f,y K c'] 216)) #[y K st,y K n,y K m,y K p] 199;rw[bj] at this;exact this
  have N:G No w ((w.alloc (v #[y K e,y K d,y K f,y K c'] 216)).alloc (v #[y K st,y K n,y K m,y K p] 199)).drew:=(((G.refl _ w).alloc _).alloc _).drew;have aq:=i D;have ar:=i H;have O:=i N;clear D H N aC aD;go_wp2_with fail;refine((k I) _ (k O)).mono ?_;rintro q aL ⟨rfl,am,x⟩;have ay:=(x.has (k aq) (λhs=>by have:=(k M) _ hs;omega)).cell
  have aA:=(x.has (k ar) (λhs=>by have:=(k M) _ hs;omega)).cell;have aw:=i am;have au:=i (((k O).mono (S':=S) (λ_ _ r=>r.elim)).trans x);clear am x;go_wp2_with fail;refine((k J) _ (k aw)).mono ?_;rintro q aM ⟨rfl,ao,aj⟩;obtain⟨⟨aH,aO,aK⟩,ap,ak⟩:=(k L) _ ao;have aN:=pO s;have ax:=i ap;have av:=i (((k au).trans aj).trans ak);clear ap ak ao aj ay aA I J L;go_wp2;go_end0;exact⟨rfl,k ax,k av⟩
theorem nN(c:B):c.aS.wf:=⟨by simp[B.aS],by simp[B.aS],by simp[B.aS],by simp[B.aS],by simp[B.aS],by simp[B.aS],by simp[B.aS],by simp[B.aS]⟩
theorem Db{S:Nat->Prop} {k:Nat} {p:O} {c:List B} {w:U} (t:a9 w S k p c) (n:L p c) (d:Nat) (hi:d<c.length) (j:Nat) (Y:j<c.length) (X:d≠j):Calls T 166 #[l #[y K c[d].row,y K c[d].P,y K c[j].row,y K c[j].P],b (E ⟨k,0,F⟩)] w λr w'=>r=g (h #[])/\a9 w' S k p.next ((c.set d c[d].aS).set j ⟨c[j].row,c[j].P,c[d].st,c[d].pa,c[d].cl,c[d].un⟩)/\G S w w':=by
 have i:=n.cQ _ (dD hi);have af:(⟨c[j].row,c[j].P,c[d].st,c[d].pa,c[d].cl,c[d].un⟩:B).wf:=⟨i.kW,i.s1,i.kX,i.c1,i.bare,i.pa,i.un,i.qZ⟩;have ae:L p (c.set d c[d].aS):=n.set hi (nN _) rfl rfl;have aa:j<(c.set d c[d].aS).length:=by simpa using Y
 have s:(c.set d c[d].aS)[j]=c[j]:=by simp[mi,X]
 obtain⟨x,es,q,I,J,M,N,ag,ah⟩:=id t;have ad:=(n.jd hi).1;simp only[O.has,decide_eq_true_eq] at ad;obtain⟨z,A,D,H,_⟩:=n.bounds;simp only at z A D H
 refine(Da (Old S w) k x _ c[d].row c[d].P c[j].row c[j].P c[d].st c[d].pa c[d].cl c[d].un w es q (λe=>a9 e (Old S w) k p (c.set d c[d].aS))
  (λe=>a9 e (Old S w) k p ((c.set d c[d].aS).set j ⟨c[j].row,c[j].P,c[d].st,c[d].pa,c[d].cl,c[d].un⟩)) (λu m=>m.2) I rfl J (λe f=>?_) (λe f=>?_) (λe f=>?_) p.ep
  (λe=>a9 e (Old S w) k p.next ((c.set d c[d].aS).set j ⟨c[j].row,c[j].P,c[d].st,c[d].pa,c[d].cl,c[d].un⟩)) (λe f=>⟨f.qd,f.lu⟩)).mono ?_
 ·have:=rj e x es q f M c[d].row c[d].P (by omega) (by omega);rw[N.cQ d hi] at this;exact this
 ·exact pV (t.narrow.aD f) n d hi c[d].aS (nN _) rfl rfl
 ·exact pV f ae j aa ⟨c[j].row,c[j].P,c[d].st,c[d].pa,c[d].cl,c[d].un⟩ af (by rw[s]) (by rw[s])
 ·rintro r w' ⟨rfl,R,ab⟩;exact⟨rfl,R.wide (λu m=>m.1),ab.mono (λu _ m=>m.1)⟩
def q(p:O):List B:=(iq (p.rows* p.w).toNat).map λc:Nat=>⟨(c:Int) / p.w+1,(c:Int) % p.w+1,0,0,0,0⟩
theorem ly{p:O} (c:p.sized=true) (d:p.limited=true):L p (q p):=by
 have hb:=c;simp only[O.sized,decide_eq_true_eq] at hb;refine⟨c,d,?_,λe hi=>?_,λf hs=>?_⟩
 ·have:0<=p.rows* p.w:=iK (by omega) (by omega);simp[q];omega
 ·simp[q]
 ·simp only[q,List.mem_map] at hs;obtain⟨e,_,rfl⟩:=hs;exact⟨by simp,by simp,by simp,by simp,by simp,by simp,by simp,by simp⟩
theorem xn(c d:Nat):(iq c).countP (λf=>decide (f<d))=min d c:=by
 induction c with
 |zero=>simp
 |succ c i=>
  rw[List.range_succ,nL,i];by_cases e:c<d
  ·simp[e];omega
  ·simp[e];omega
theorem xo{p:O} (hc:1<=p.w) (c:Nat):((c:Int) / p.w+1<=p.front)↔c<(p.front* p.w).toNat:=by
 have d:(c:Int) / p.w+1<=p.front↔(c:Int) / p.w<p.front:=by omega
 rw[d,Int.ediv_lt_iff_lt_mul (by omega)];omega
theorem xp{p:O} (i:p.sized=true) (j:Nat):af p (q p) j=if j=0 then p.front* p.w else 0:=by
 simp only[O.sized,decide_eq_true_eq] at i;have hf:0<=p.front* p.w:=iK (by omega) (by omega);have k:p.front* p.w<=p.rows* p.w:=Int.mul_le_mul_of_nonneg_right (by omega) (by omega);simp only[af,iJ,q,List.countP_map];have f:(λe:B=>(decide (e.row<=p.front)==true)&&e.st==(j:Int))∘(λc:Nat=>(⟨(c:Int) / p.w+1,(c:Int) % p.w+1,0,0,0,0⟩:B))=λc=>decide (c<(p.front* p.w).toNat)&&decide (j=0):=by
  funext c;simp only[Function.comp,beq_true];rw[show((0:Int)==(j:Int))=decide (0=j) from ki 0 j,decide_eq_decide.2 (xo (by omega) c),show decide (0=j)=decide (j=0) from decide_eq_decide.2 eq_comm]
 rw[f];by_cases d:j=0
 ·simp only[d,decide_true,Bool.and_true,if_true];rw[xn];omega
 ·simp[d]
theorem xq{p:O} (m:p.sized=true) (j:Nat):aj p (q p) j=if j=0 then(p.rows - p.front)* p.w else 0:=by
 simp only[O.sized,decide_eq_true_eq] at m;have hf:0<=p.front* p.w:=iK (by omega) (by omega);have r:p.front* p.w<=p.rows* p.w:=Int.mul_le_mul_of_nonneg_right (by omega) (by omega);have hs:(p.rows - p.front)* p.w=p.rows* p.w - p.front* p.w:=Int.sub_mul _ _ _;simp only[aj,iJ,q,List.countP_map]
 have i:(λf:B=>(decide (f.row<=p.front)==false)&&f.st==(j:Int))∘(λc:Nat=>(⟨(c:Int) / p.w+1,(c:Int) % p.w+1,0,0,0,0⟩:B))=λc=> !decide (c<(p.front* p.w).toNat)&&decide (j=0):=by
  funext c;simp only[Function.comp,beq_false];rw[show((0:Int)==(j:Int))=decide (0=j) from ki 0 j,decide_eq_decide.2 (xo (by omega) c),show decide (0=j)=decide (j=0) from decide_eq_decide.2 eq_comm]
 rw[i];by_cases e:j=0
 ·simp only[e,decide_true,Bool.and_true,if_true];have d:=List.length_eq_countP_add_countP (λc=>decide (c<(p.front* p.w).toNat)) (l:=iq (p.rows* p.w).toNat);rw[xn] at d;simp only[List.length_range] at d;have n:List.countP (λa=>decide ¬decide (a<(p.front* p.w).toNat)=true) (iq (p.rows* p.w).toNat)=List.countP (λc=> !decide (c<(p.front* p.w).toNat)) (iq (p.rows* p.w).toNat):=by
   congr 1;funext a;by_cases k:a<(p.front* p.w).toNat<;>simp[k]<;>omega
  rw[n] at d;omega
 ·simp[e]
theorem xr(p:O) (j:Nat):c (q p) j=0:=by
 simp only[c,gd,q,List.countP_map];have f:(λe:B=>e.cX&&e.cl==(j:Int))∘(λd:Nat=>(⟨(d:Int) / p.w+1,(d:Int) % p.w+1,0,0,0,0⟩:B))=λd=>false:=by
  funext d;simp[B.cX]
 rw[f];simp
theorem run_makeMap(w:U):(Instr.makeMap 162 F).run T w=.ok (.map (E w.heap.size)) (w.alloc (.map #[] 0)):=by
 simp[Instr.makeMap,newObj,Sem.run]
attribute [local go_sem] run_makeMap
theorem ub{P:Program} {c:Code} {Q:Exit->Act->U->Prop} {a:Act} {w:U} (R:U->Prop) (d:R w) (e:∀w,R w->c.wp P Q a w):c.wp P Q a w:=e w d
theorem Dc(r c k m n p q:Int) (M:V) (s t u x b0 z A B D G H I d e f i j:Int):(((((((((((((db r c k m n p q M s t u x b0 z A B D G H I d e f i j).setIfInBounds 8 (y K 0)).setIfInBounds 9 (y K 0)).setIfInBounds 10 (y K 0)).setIfInBounds 11 (y K 0)).setIfInBounds 12 (y K 0)).setIfInBounds 13 (y K 0)).setIfInBounds 14 (y K 0)).setIfInBounds 15 (y K 0)).setIfInBounds 16 (y K 0)).setIfInBounds 17 (y K 0)).setIfInBounds 18 (y K 0)).setIfInBounds 19 (y K 0))=db r c k m n p q M 0 0 0 0 0 0 0 0 0 0 0 0 d e f i j:=by kernel_rfl
set_option maxHeartbeats 4000000 in theorem Dd(c:Nat) (p:O) (a0 aS f0 aW aX aY aZ:Int) (aC:V) (aj ak am ao b0 ap aq ar aw ax ay aA H I J L z:Int) (A:Nat->Int) (w:U) (aa:X w c (db a0 aS f0 aW aX aY aZ aC aj ak am ao b0 ap aq ar aw ax ay aA H I J L z) 164) (N ad:Int) (a5:K.wrap (p.front* p.w)=N) (w2:K.wrap (p.rows - p.front)=p.rows - p.front) (w3:K.wrap ((p.rows - p.front)* p.w)=ad)
  (aH:∀e d,X e c (db p.rows p.w p.front p.I p.R p.n p.f (.map (E d)) N 0 0 0 ad 0 0 0 0 0 0 0 H I J L z) 164->Calls T 135 #[b (E ⟨c,0,F⟩)] e λf w'=>f=g (h #[])/\G (λj=>j=c) e w'/\X w' c (db p.rows p.w p.front p.I p.R p.n p.f (.map (E d)) N 0 0 0 ad 0 0 0 0 0 0 0 (A 0) (A 1) (A 2) (A 3) z) 164):
  Calls T 159 #[b (E ⟨c,0,F⟩),l #[y K p.rows,y K p.w,y K p.front,y K p.I,y K p.R,y K p.n,y K p.f]] w λf w'=>f=g (h #[])/\G (λj=>j=c) w w'/\∃d,w.heap.size<=d/\w'.heap[d]? =E (bH [] 0)/\X w' c (db p.rows p.w p.front p.I p.R p.n p.f (.map (E d)) N 0 0 0 ad 0 0 0 0 0 0 0 (A 0) (A 1) (A 2) (A 3) z) 164:=by
 have a3:=aa.lt;have hc:=aa.cell;have B:=aa.frozen;unfold db at hc;have aM:=i aa;have aQ:=i aH;clear aa aH;obtain⟨x,n,q,r,s,t,u,a4⟩:=p;simp only at *;go_enter func159,ntmps159;go_upto_region 2 with fail
 refine ub (λe=>Hid (G (λj=>j=c) w e)/\Hid (X e w.heap.size #[y K x,y K n,y K q,y K r,y K s,y K t,y K u] 39)/\Hid (X e c (db x n q r s t u aC aj ak am ao b0 ap aq ar aw ax ay aA H I J L z) 164)) ?_ ?_
 ·refine⟨((((((((G.refl _ w).at 0 _).at 1 _).at 2 _).at 3 _).at 4 _).at 5 _).at 6 _).alloc _,?_,?_⟩
  ·have:=X.new (((((((w.setCell ⟨c,0,F⟩ (y K x)).setCell ⟨c,1,F⟩ (y K n)).setCell ⟨c,2,F⟩ (y K q)).setCell ⟨c,3,F⟩ (y K r)).setCell ⟨c,4,F⟩ (y K s)).setCell ⟨c,5,F⟩ (y K t)).setCell ⟨c,6,F⟩ (y K u)) #[y K x,y K n,y K q,y K r,y K s,y K t,y K u] 39;simp only[bj,kx] at this;exact this
  ·exact((((((((k aM).set 0 _).set 1 _).set 2 _).set 3 _).set 4 _).set 5 _).set 6 _).alloc _
 ·rintro e ⟨M,R,m⟩;have hc:=(k m).cell;have B:=(k m).frozen;have ae:=(k m).lt;unfold db at hc;have aI:c≠w.heap.size:=by omega
  have ah:=i aI;clear aI;go_upto_region 3 with fail;refine ub (λe=>Hid (G (λj=>j=c) w e)/\Hid (X e w.heap.size #[y K x,y K n,y K q,y K r,y K s,y K t,y K u] 39)/\∃d,Hid (w.heap.size<=d)/\Hid (e.heap[d]? =E (bH [] 0))/\Hid (d≠c)/\Hid (X e c (db x n q r s t u (.map (E d)) aj ak am ao b0 ap aq ar aw ax ay aA H I J L z) 164)) ?_ ?_
  ·refine⟨((k M).at 7 _).alloc _,((k R).dB (a:=⟨c,7,F⟩) (λf=>(k ah) f.symm) _).alloc _,e.heap.size,(k M).size,?_,?_,((k m).set 7 _).alloc _⟩
   ·have:=heap_alloc_new (e.setCell ⟨c,7,F⟩ (.map (E e.heap.size))) (.map #[] 0);rw[kx] at this;exact this
   ·intro f;omega
  clear hc B M R m;rintro ai ⟨M,R,d,aU,ab,af,m⟩;have hc:=(k m).cell;have B:=(k m).frozen;have a2:=(k m).lt;unfold db at hc;go_upto_region 4 with fail;refine ub (λe=>Hid (G (λj=>j=c) w e)/\Hid (X e w.heap.size #[y K x,y K n,y K q,y K r,y K s,y K t,y K u] 39)/\Hid (e.heap[d]? =E (bH [] 0))/\Hid (X e c (db x n q r s t u (.map (E d)) 0 0 0 0 0 0 0 0 0 0 0 0 H I J L z) 164)) ?_ ?_
  ·have av:G (λj=>j=c) ai ((((((((((((ai.setCell ⟨c,8,F⟩ (y K 0)).setCell ⟨c,9,F⟩ (y K 0)).setCell ⟨c,10,F⟩ (y K 0)).setCell ⟨c,11,F⟩ (y K 0)).setCell ⟨c,12,F⟩ (y K 0)).setCell ⟨c,13,F⟩ (y K 0)).setCell ⟨c,14,F⟩ (y K 0)).setCell ⟨c,15,F⟩ (y K 0)).setCell ⟨c,16,F⟩ (y K 0)).setCell ⟨c,17,F⟩ (y K 0)).setCell ⟨c,18,F⟩ (y K 0)).setCell ⟨c,19,F⟩ (y K 0)):=
    ((((((((((((G.refl _ ai).at 8 _).at 9 _).at 10 _).at 11 _).at 12 _).at 13 _).at 14 _).at 15 _).at 16 _).at 17 _).at 18 _).at 19 _
   exact⟨(k M).trans av,av.has (k R) (λf=>(k ah) f.symm),av.map (k ab) (λf=>(k af) f),
 by have aF:=(((((((((((((k m).set 8 (y K 0)).set 9 (y K 0)).set 10 (y K 0)).set 11 (y K 0)).set 12 (y K 0)).set 13 (y K 0)).set 14 (y K 0)).set 15 (y K 0)).set 16 (y K 0)).set 17 (y K 0)).set 18 (y K 0)).set 19 (y K 0));rw[Dc] at aF;exact aF⟩
  clear hc B M R m ab;rintro a1 ⟨aD,ag,ab,S⟩;have hc:=(k S).cell;have B:=(k S).frozen;have ae:=(k S).lt;have au:=(k ag).cell;unfold db at hc;have aO:=k ah;go_cut [] (λD=>Hid (G (λj=>j=c) w D)/\Hid (X D w.heap.size #[y K x,y K n,y K q,y K r,y K s,y K t,y K u] 39)/\Hid (D.heap[d]? =E (bH [] 0))/\Hid (X D c (db x n q r s t u (.map (E d)) N 0 0 0 0 0 0 0 0 0 0 0 H I J L z) 164))
  case first=>
   go_region
   all_goals go_wp2
   all_goals go_meet
   all_goals exact⟨((k aD).at 8 _).drew,((k ag).dB (a:=⟨c,8,F⟩) (λf=>aO f.symm) _).drew,(by show(World.setCell _ _ _).heap[d]? =_;rw[Below.heap_setCell _ _ _ _ (by exact k af)];exact k ab),((k S).set 8 _).drew⟩
  case rest=>
   obtain⟨aE,aB,aK,Y⟩:=hcut;clear hc B ae au aD ag ab S;have hc:=(k Y).cell;have B:=(k Y).frozen;have ae:=(k Y).lt;have au:=(k aB).cell;unfold db at hc;go_upto_region 5 with fail;go_cut [] (λD=>Hid (G (λj=>j=c) w D)/\Hid (D.heap[d]? =E (bH [] 0))/\Hid (X D c (db x n q r s t u (.map (E d)) N 0 0 0 ad 0 0 0 0 0 0 0 H I J L z) 164))
   case first=>
    go_region
    all_goals go_wp2
    all_goals go_meet
    all_goals exact⟨((k aE).at 12 _).drew,(by show(World.setCell _ _ _).heap[d]? =_;rw[Below.heap_setCell _ _ _ _ (by exact k af)];exact k aK),((k Y).set 12 _).drew⟩
   case rest=>
    obtain⟨aR,aV,aN⟩:=hcut;clear hc B ae au aE aB aK Y;go_wp2_with fail;refine((k aQ) _ d (k aN)).mono ?_;rintro f a6 ⟨rfl,aL,aT⟩;go_wp2;go_end0;exact⟨rfl,(k aR).trans aL,d,k aU,aL.map (k aV) (λf=>(k af) f),aT⟩
theorem L.at{p:O} {d:List B} (c:L p d) (e:Int):L (p.at e) d:=⟨c.sized,c.limited,c.len,c.place,c.cQ⟩
def uc(w:U) (j:Nat) (u:Int):Prop:=
 ∃D p f0 x z A B c d e f i b0 k m n G H I J q r s t,X w j (db D p f0 x z A B c d e f i b0 k m n G H I J q r s t u) 164
theorem ud{d:Nat} {p:O} {w:U} (f:Int) (m:uc w d f) (e:p.sized=true) (z:p.limited=true):Calls T 159 #[b (E ⟨d,0,F⟩),l #[y K p.rows,y K p.w,y K p.front,y K p.I,y K p.R,y K p.n,y K p.f]] w λk w'=>k=g (h #[])/\a9 w' (λi=>i=d\/w.heap.size<=i) d (p.at f) (q p)/\G (λi=>i=d) w w':=by
 obtain⟨aq,ad,f0,ak,am,ao,ap,M,N,R,S,X,b0,Y,aa,ab,ar,au,av,aw,ae,ag,ah,ai,m⟩:=m;have hb:=e;simp only[O.sized,decide_eq_true_eq] at hb;have f1:0<=p.front* p.w:=iK (by omega) (by omega);have f2:p.front* p.w<=20* 6:=Int.mul_le_mul (by omega) (by omega) (by omega) (by omega);have f3:0<=(p.rows - p.front)* p.w:=iK (by omega) (by omega)
 have f4:(p.rows - p.front)* p.w<=20* 6:=Int.mul_le_mul (by omega) (by omega) (by omega) (by omega);have J:=ly e z;obtain⟨s,t,u,x⟩:=wV J;have ls:=wX z;simp only[xp e,xq e,xr,if_true] at s t u x
 refine(Dd d p _ _ _ _ _ _ _ _ _ _ _ _ _ _ _ _ _ _ _ _ _ _ _ _ f (iQ p (q p)) w m (p.front* p.w) ((p.rows - p.front)* p.w) (aB _ (by omega) (by omega)) (aB _ (by omega) (by omega)) (aB _ (by omega) (by omega)) (λB j D=>?_)).mono ?_
 ·refine(wN d p.rows p.w p.front p.I p.R p.n p.f _ _ _ _ _ _ _ _ _ _ _ _ _ _ _ _ _ _ B D (by omega) (by omega) ls).mono ?_;rintro k w' ⟨rfl,r,n⟩;refine⟨rfl,r,?_⟩;rw[s,t,u,x];exact n
 ·rintro k w' ⟨rfl,r,j,H,I,n⟩;refine⟨rfl,⟨j,[],0,?_,I,⟨by simp,by simp,by simp,by simp⟩,⟨by simp,λL hi=>?_,?_⟩,.inl rfl,.inr H⟩,r⟩
  ·have:dO (p.at f) (.map (E j)) (q p)=db p.rows p.w p.front p.I p.R p.n p.f (.map (E j)) (af p (q p) 0) (af p (q p) 1) (af p (q p) 2) (af p (q p) 3) (aj p (q p) 0) (aj p (q p) 1) (aj p (q p) 2) (aj p (q p) 3) (c (q p) 0) (c (q p) 1) (c (q p) 2) (c (q p) 3) (iQ p (q p) 0) (iQ p (q p) 1) (iQ p (q p) 2) (iQ p (q p) 3) f:=rfl;rw[this];simp only[xp e,xq e,xr];exact n
  ·simp[q,dC]
  ·have:(q p).countP (λA=>A.st !=0)=0:=by
    rw[List.countP_eq_zero];intro A hs;simp only[q,List.mem_map] at hs;obtain⟨L,_,rfl⟩:=hs;simp
   rw[this];rfl
theorem De{c:Nat} {p:O} {w:U} (B:X w c (db 0 0 0 0 0 0 0 (.map F) 0 0 0 0 0 0 0 0 0 0 0 0 0 0 0 0 0) 164) (e:p.sized=true) (M:p.limited=true):Calls T 158 #[l #[y K p.rows,y K p.w,y K p.front,y K p.I,y K p.R,y K p.n,y K p.f],b (E ⟨c,0,F⟩)] w λA w'=>A=g (h #[])/\a9 w' (λd=>d=c\/w.heap.size<=d) c (p.at 1) (q p)/\G (λd=>d=c) w w':=by
 have j:=i λL (N:uc L c 0)=>ud (p:=p) 0 N e M;have z:=i B;clear B;obtain⟨x,m,n,r,s,t,u,H⟩:=p;simp only at j ⊢;go_enter func158,ntmps158;go_wp2_with fail;refine((k j) _ ⟨_,_,_,_,_,_,_,_,_,_,_,_,_,_,_,_,_,_,_,_,_,_,_,_,(k z).alloc _⟩).mono ?_;rintro A f ⟨rfl,e,D⟩;have e:=e.wide (S':=λd=>d=c\/w.heap.size<=d) (λd R=>by rw[bj] at R;omega)
 obtain⟨S,aa,Y⟩:f.cell? ⟨c,24,F⟩=E (y K 0)/\f.frozen? ⟨c,24,F⟩=false/\c<f.heap.size:=e.qd;have I:=i (show a9 (f.setCell ⟨c,24,F⟩ (y K 1)) (λd=>d=c\/w.heap.size<=d) c (O.at ⟨x,m,n,r,s,t,u,H⟩ 1) (q ⟨x,m,n,r,s,t,u,H⟩) from e.lu.1);have J:=i (((G.refl (λd=>d=c) w).alloc (v #[y K x,y K m,y K n,y K r,y K s,y K t,y K u] 189)).trans D);clear e D z j;go_wp2;go_end0;refine⟨rfl,?_,(k J).at 24 _⟩;exact k I
def due(now:Int) (c:B):Bool:=c.st==1&&decide (c.un<=now)
def dd(now:Int) (d:List B):List B:=d.map λc=>if due now c then c.aS else c
theorem Df{p:O} {c:List B} (i:L p c) {f d:Int} (j:p.has f d=true):∃e,∃hi:e<c.length,c[e].row=f/\c[e].P=d:=by
 have k:=aM.wf.gV i j;have m:=aM.wf.nF i j;exact⟨p.idx f d,k,m⟩
theorem Dg{es:List t} {m:Nat} {p:O} {d:List B} (n:ez es m) (hrel:jy es p d) (q:L p d) {e:t} (k:e∈es):∃c,∃hi:c<d.length,d[c].row=e.r/\d[c].P=e.c/\d[c].st=e.s/\d[c].pa=e.p/\d[c].cl=e.k/\d[c].un=e.u:=by
 obtain⟨c,hi,i,j⟩:=Df q (hrel.nJ e k).1;have f:=hrel.cQ c hi;rw[i,j,wK n k] at f;simp only[Prod.mk.injEq] at f;exact⟨c,hi,i,j,f.1.symm,f.2.1.symm,f.2.2.1.symm,f.2.2.2.symm⟩
theorem Dh{es:List t} {p:O} {d:List B} (hrel:jy es p d) {c:Nat} (hi:c<d.length) (hs:d[c].st≠0):∃f∈es,f.r=d[c].row/\f.c=d[c].P/\f.s=d[c].st/\f.u=d[c].un:=by
 have e:=hrel.cQ c hi;unfold dC at e
 cases hf:es.find? (t.is d[c].row d[c].P) with
 |none=>
  rw[hf] at e;simp at e;exact absurd e.1.symm hs
 |some f=>
  rw[hf] at e;simp at e;have i:=rq.1 (List.find?_some hf);exact⟨f,List.mem_of_find?_eq_some hf,i.1,i.2,e.1,e.2.2.2⟩
structure je (now:Int) (l l':List B) (es:List t) (seen:Array Nat):Prop where
 len:l'.length=l.length
 each:∀i (h:i<l.length) (h':i<l'.length),l'[i]=l[i]\/(due now l[i]=true/\l'[i]=l[i].aS)
 done:∀e∈es,e.born∈seen->¬(e.s=1/\e.u<=now)
theorem je.start(now:Int) (d:List B) (es:List t):je now d d es #[]:=⟨rfl,λi c f=>.inl rfl,λe _ c=>by simp at c⟩
theorem je.keep{now:Int} {n p:List B} {es:List t} {seen:Array Nat} {r:Nat} (e:je now n p es seen) (x:ez es r) {c:t} (s:c∈es) (u:¬(c.s=1/\c.u<=now)):je now n p es (seen.push c.born):=by
 refine⟨e.len,e.each,λq m hs=>?_⟩;obtain hs|hs:=Array.mem_push.1 hs
 ·exact e.done q m hs
 ·have:q=c:=by
   obtain⟨f,hi,rfl⟩:=iP m;obtain⟨i,j,rfl⟩:=iP s;have k:=List.pairwise_iff_getElem.1 x.oP;obtain d|d|d:=Nat.lt_trichotomy f i
   ·exact absurd hs (k f i hi j d)
   ·subst d;rfl
   ·exact absurd hs.symm (k i f j hi d)
  rw[this];exact u
theorem je.give{now:Int} {u f:List B} {es:List t} {seen:Array Nat} {x:Nat} (k:je now u f es seen) (n:ez es x) {i:t} (A:i∈es) {c:Nat} (hi:c<f.length) (hd:due now f[c]=true):je now u (f.set c f[c].aS) (il es i.r i.c) (seen.push i.born):=by
 refine⟨by simp[k.len],λe j D=>?_,λm r hs=>?_⟩
 ·have G:e<f.length:=by simpa using D
  simp only[mi];by_cases p:c=e
  ·subst p;rw[if_pos rfl];obtain d|⟨d,z⟩:=k.each c j hi
   ·rw[d] at hd ⊢;exact .inr ⟨hd,rfl⟩
   ·rw[z] at hd;simp[due,B.aS] at hd
  ·rw[if_neg p];exact k.each e j G
 ·have s:=wL r;obtain hs|hs:=Array.mem_push.1 hs
  ·exact k.done m s hs
  ·have H:m=i:=by
    obtain⟨c,hi,rfl⟩:=iP s;obtain⟨e,j,rfl⟩:=iP A;have q:=List.pairwise_iff_getElem.1 n.oP;obtain d|d|d:=Nat.lt_trichotomy c e
    ·exact absurd hs (q c e hi j d)
    ·subst d;rfl
    ·exact absurd hs.symm (q e c j hi d)
   subst H;have hl:=wK (n.drop m.r m.c) r;rw[wJ n] at hl;simp at hl;rintro⟨d,_⟩;omega
theorem je.finish{now:Int} {d j:List B} {es:List t} {seen:Array Nat} {p:O} (f:je now d j es seen) (hrel:jy es p j) (r:∀e∈es,e.born∈seen):j=dd now d:=by
 apply List.ext_getElem (by simp[dd,f.len]);intro i hi u;have s:i<d.length:=by rw[<-f.len];exact hi
 simp only[dd,List.getElem_map];obtain c|⟨c,q⟩:=f.each i s hi
 ·have:due now d[i]=false:=by
   cases hd:due now d[i] with
   |false=>rfl
   |true=>
    exfalso;simp only[due,kY,beq_iff_eq,decide_eq_true_eq] at hd;obtain⟨e,k,_,_,m,n⟩:=Dh hrel hi (by rw[c];omega);exact f.done e k (r e k) ⟨by rw[m,c];exact hd.1,by rw[n,c];exact hd.2⟩
  rw[this,c];rfl
 ·rw[c,q];rfl
def lz(w:U) (d e:Nat):Nat:=
 match w.heap[d]?,w.heap[e]? with
 |some (.map es _),E (.mapIter _ _ seen _)=>(es.toList.filter λc=> !seen.contains c.born).length
 |_,_=>0
theorem oW{w:U} {c d:Nat} {es:List t} {i:Nat} {e:Option Nat} {n f:Nat} {seen:Array Nat} (k:w.heap[c]? =E (bH es i)) (m:w.heap[d]? =E (.mapIter e n seen f)):lz w c d=(es.filter λj=> !seen.contains j.born).length:=by
 unfold lz;rw[k,m];simp only[bH];rw[List.filter_map,List.length_map];rfl
theorem filter_lt{r:Type} {p f:r->Bool}:∀ {d i:List r},i.Sublist d->(∀e∈d,f e=true->p e=true)->(∃e∈d,p e=true/\f e=false)->(i.filter f).length<(d.filter p).length:=by
 intro d i hs k c;have m:(i.filter f).length<=(d.filter f).length:=(hs.filter f).length_le;have s:(d.filter f).length<(d.filter p).length:=by
  clear hs m
  induction d with
  |nil=>obtain⟨e,c,_⟩:=c;simp at c
  |cons a d t=>
   have x:(d.filter f).length<=(d.filter p).length:=by
    rw[<-List.countP_eq_length_filter,<-List.countP_eq_length_filter];exact List.countP_mono_left (λe c j=>k e (oM _ c) j)
   simp only[List.filter_cons];obtain⟨e,c,n,q⟩:=c;obtain rfl|c:=List.mem_cons.1 c
   ·rw[n,q];simp;omega
   ·have:=t (λe c j=>k e (oM _ c) j) ⟨e,c,n,q⟩;have u:=k a (nG)
    cases m:f a<;>cases s:p a<;>simp_all<;>omega
 omega
def oX(c d e f b0 i j k:Int):Bool:=c==b0&&(d==i&&(e==j&&f==k))
theorem xt(xs:Array V) (c:Nat) (d:V) (e:xs[c]? =E d) (w:U):(part 3 xs c).run T w=.ok d w:=by
 unfold part;simp[Sem.run_bind,isAgg,run_underlying underlying3,e]
theorem rE(e:Nat) (is:List Nat) (xs ys:Array V) (f:Nat) (c d:Int) (i:xs[f* 1]? =E (y K c)) (hy:ys[f* 1]? =E (y K d)) (w:U):(Op.eqItems (e+1) 3 1 xs ys (f::is)).run T w=if (c==d)=true then(Op.eqItems (e+1) 3 1 xs ys is).run T w else .ok false w:=by
 have j:(Op.equalIn (e+1) 3 (y K c) (y K d)).run T w=.ok (c==d) w:=run_equalIn_int w e 3 K K c d underlying3;simp only[Op.eqItems,Sem.run_bind,xt _ _ _ i,xt _ _ _ hy,j,Result.andThen_ok]
 cases c==d
 ·rfl
 ·rfl
theorem Di(c:Nat) (d e f i b0 j k m:Int) (w:U):(Op.equalIn (c+2) 37 (l #[y K d,y K e,y K f,y K i]) (l #[y K b0,y K j,y K k,y K m])).run T w=.ok (oX d e f i b0 j k m) w:=by
 have hi:(T.info? 3).isSome=true:=by kernel_rfl
 obtain⟨p,hi⟩:=Option.isSome_iff_exists.1 hi;have n:T.cellsOf 3=1:=by kernel_rfl
 rw[run_equalIn_array w (c+1) _ _ underlying37 hi,n];rw[show iq 4=[0,1,2,3] from rfl];unfold oX;rw[rE c _ _ _ 0 d b0 rfl rfl,rE c _ _ _ 1 e j rfl rfl,rE c _ _ _ 2 f k rfl rfl,rE c _ _ _ 3 i m rfl rfl]
 cases d==b0<;>cases e==j<;>cases f==k<;>cases i==m<;>rfl
theorem Dj(c d e f b0 i j k:Int) (w:U):(Op.equalIn 10000 37 (l #[y K c,y K d,y K e,y K f]) (l #[y K b0,y K i,y K j,y K k])).run T w=.ok (oX c d e f b0 i j k) w:=Di 9998 ..
theorem Mv(op:BinOp) (d e:Operand) (xs ys:Array V) (w:U):(eqGuard op 37 d e (l xs) (l ys)).run T w=.ok () w:=by
 have c:T.eqGuardType T.depth 37=false:=by kernel_rfl
 unfold eqGuard
 cases op<;>simp[Sem.run,program,c]
theorem Dk(w:U) (d c:Nat) (es:List t) (e:w.heap[d]? =E (bH es c)):(Instr.range 162 (.map (E d))).run T w=.ok (b (E ⟨w.heap.size,0,F⟩)) (w.alloc (.mapIter (E d) c #[] c)):=by
 unfold bH at e;simp[Instr.range,run_underlying ld,getObj,Sem.run,e,newObj]
structure Dl (w w1:U):Prop where
 heap:w1.heap=w.heap
 mod:G No w w1
section
variable {P:Program} (w:U) {ops:Array Oper} {rest:List Oper} {o:Oper} {a:Act} {Q:Exit->Act->U->Prop}
theorem Dm(x:o.guard=F) (it:Operand) (q:o.op=Op.next it false) (j i d:Nat) (seen:Array Nat) (es:List t) (p:a.eval it=b (E ⟨j,0,F⟩)) (D:w.heap[j]? =E (.mapIter (E i) d seen d)) (z:w.heap[i]? =E (bH es d)) (B:ez es d) (s:Hid (∀c∈es,c.born∈seen)->wpList P ops Q rest (a.put o.dst (h #[W false])) w)
  (u:∀c,Hid (c∈es)->Hid (c.born∉seen)->∀k,Dl w k->wpList P ops Q rest (a.put o.dst (h #[W true,l #[y K c.r,y K c.c],l #[y K c.s,y K c.p,y K c.k,y K c.u]])) (setBlock k j (.mapIter (E i) d (seen.push c.born) d))):wpList P ops Q (o::rest) a w:=by
 refine wpList_plain x λJ hK'=>?_;unfold eT
 obtain⟨r,n⟩|⟨I,e,k,H,n⟩:=run_next_at (P:=P) w o.type j i d d seen (es.map t.obj).toArray d D z (λI e=>by
  simp at e
  obtain⟨c,f,rfl⟩:=e
  exact B.oQ c f) (bK _)
 ·simp[execOp,q,p,n,Result.andThen];refine hK' _ _ (s λc f=>?_);have m:c.obj∉leftOf (es.map t.obj).toArray seen:=by
   rw[Array.eq_empty_of_size_eq_zero r];simp
  unfold leftOf at m;simp at m;have:=m c f rfl;exact this
 ·unfold leftOf at e;simp at e;obtain⟨⟨c,f,rfl⟩,A⟩:=e;simp[execOp,q,p,n,Result.andThen];exact hK' _ _ (u c f A k (by obtain rfl|rfl:=H;exact⟨rfl,G.refl _ _⟩;exact⟨rfl,(G.refl _ _).drew⟩))
end
theorem Dn{e i k:Nat} {p:O} {c:List B} {es:List t} {w:U} (q:bo w e p c i es k) (s:L p c) (d:Nat) (hi:d<c.length) (j f:Int) (r:c[d].row=j) (hc:c[d].P=f):Calls T 118 #[b (E ⟨e,0,F⟩),l #[y K j,y K f],l #[y K 0,y K 0,y K 0,y K 0]] w λn w'=>n=g (h #[])/\bo w' e p (c.set d c[d].aS) i (il es j f) k/\G (λm=>m=e\/m=i) w w':=by
 have:=rv q s d hi c[d].aS (nN _) rfl rfl;subst r;subst hc;simp only[jz,B.aS,if_true] at this;exact this
theorem Dp(es:List t) (d c:Int):(il es d c).Sublist es:=by
 unfold il;split
 ·exact List.eraseIdx_sublist ..
 ·exact List.Sublist.refl _
def lB(now:Int) (c:List B):Bool:=c.any (due now)
def ky(now:Int) (p:O) (c:List B):O:=if lB now c then p.next else p
theorem qe(now:Int) (j:Nat):∀e:List B,c (dd now e) j+(e.countP λd=>due now d&&d.cl==(j:Int):Nat)=c e j
 |[]=>rfl
 |d::e=>by
  have k:=qe now j e;simp only[c,gd,dd] at k ⊢;simp only[List.map_cons,kh]
  cases hd:due now d with
  |false=>simp only[hd,if_false,Bool.false_and,kg];omega
  |true=>
   have hs:d.st=1:=by simp[due] at hd;exact hd.1
   have f:d.cX=true:=by simp[B.cX,hs]
   have i:d.aS.cX=false:=by simp[B.cX,B.aS]
   simp only[if_true,f,i,Bool.false_and,Bool.true_and,kg,if_false]
   cases d.cl==(j:Int)<;>simp only[kg,if_false,if_true]<;>omega
theorem Dq{p:O} {d:List B} (r:L p d) (now:Int):oX (c (dd now d) 0) (c (dd now d) 1) (c (dd now d) 2) (c (dd now d) 3) (c d 0) (c d 1) (c d 2) (c d 3)= !lB now d:=by
 have t0:=qe now 0 d;have t1:=qe now 1 d;have t2:=qe now 2 d;have t3:=qe now 3 d;have s:lB now d=false->∀j:Nat,(d.countP λe=>due now e&&e.cl==(j:Int))=0:=λi j=>by
  rw[List.countP_eq_zero];intro e hs;simp only[lB,List.any_eq_false] at i;have:=i e hs
  simp_all
 cases i:lB now d with
 |false=>
  have m:=s i;rw[m 0] at t0;rw[m 1] at t1;rw[m 2] at t2;rw[m 3] at t3;simp only[oX,Bool.not_false];rw[<-t0,<-t1,<-t2,<-t3];simp
 |true=>
  simp only[lB,List.any_eq_true] at i;obtain⟨e,hs,hd⟩:=i;have n:=r.cQ e hs;have t:=n.kX;have u:=n.c1;have k:∀j:Nat,e.cl=(j:Int)->1<=d.countP λe=>due now e&&e.cl==(j:Int):=λj q=>
   List.countP_pos_iff.2 ⟨e,hs,by simp[hd,q]⟩
  have hc:e.cl=(0:Nat)\/e.cl=(1:Nat)\/e.cl=(2:Nat)\/e.cl=(3:Nat):=by omega
  simp only[oX,Bool.not_true];obtain f|f|f|f:=hc
  ·have:=k 0 f;have:¬c (dd now d) 0=c d 0:=by omega
   simp[this]
  ·have:=k 1 f;have:¬c (dd now d) 1=c d 1:=by omega
   simp[this]
  ·have:=k 2 f;have:¬c (dd now d) 2=c d 2:=by omega
   simp[this]
  ·have:=k 3 f;have:¬c (dd now d) 3=c d 3:=by omega
   simp[this]
theorem bo.cX{w:U} {d j f:Nat} {p:O} {e:List B} {es:List t} (i:bo w d p e j es f):w.cell? ⟨d,16,F⟩=E (y K (c e 0))/\w.cell? ⟨d,17,F⟩=E (y K (c e 1))/\w.cell? ⟨d,18,F⟩=E (y K (c e 2))/\w.cell? ⟨d,19,F⟩=E (y K (c e 3)):=by
 refine⟨?_,?_,?_,?_⟩<;>(rw[i.has.cell];rfl)
theorem bo.ep{w:U} {c i e:Nat} {p:O} {f:List B} {es:List t} (d:bo w c p f i es e):w.cell? ⟨c,24,F⟩=E (y K p.ep)/\w.frozen? ⟨c,24,F⟩=false/\c<w.heap.size:=by
 refine⟨?_,d.has.frozen 24,d.has.lt⟩;rw[d.has.cell];rfl
attribute [local go_sem] Dj
theorem Dr{u e f:Nat} {p:O} {j:List B} {es:List t} {w:U} (n:bo w u p j e es f) (a7:L p j) (now:Int):Calls T 95 #[l #[y K now],b (E ⟨u,0,F⟩)] w λd w'=>d=g (h #[])/\(∃r,bo w' u (ky now p j) (dd now j) e r f)/\G (λA=>A=u\/A=e) w w':=by
 have a0:=n.has.mh n.map;have bQ:=n.has.lt;have bR:=(Array.getElem?_eq_some_iff.1 n.map).1;have bz:=n.has.cell 7;rw[show(dO p (.map (E e)) j)[7]? =E (.map (E e)) from rfl] at bz;obtain⟨bb,bc,bd,bf⟩:=n.cX
 have bH:=Dk ((w.alloc (v #[y K now] 159)).alloc (v #[y K (c j 0),y K (c j 1),y K (c j 2),y K (c j 3)] 37)) e f es (by have:=G.map (((G.refl No w).alloc (v #[y K now] 159)).alloc (v #[y K (c j 0),y K (c j 1),y K (c j 2),y K (c j 3)] 37)) n.map (λm=>m);exact this);have bi:=i n;have bJ:=i a0;have aL:=i a7;clear n a0 a7;go_enter func95,ntmps95;go_wp2
 have ak:=i (show u≠w.heap.size/\e≠w.heap.size/\u≠w.heap.size+2/\e≠w.heap.size+2/\u≠w.heap.size+1/\e≠w.heap.size+1 from⟨by omega,by omega,by omega,by omega,by omega,by omega⟩);clear bb bc bd bf
 go_loopw [18] (λ_ wr=>∃x r seen,Hid (bo wr u p x e r f)/\Hid (L p x)/\Hid (je now j x r seen)/\Hid (wr.heap[w.heap.size+2]? =E (.mapIter (E e) f seen f))/\Hid (G (λA=>A=u\/A=e) w wr)/\Hid (X wr w.heap.size #[y K now] 159)/\Hid (X wr (w.heap.size+1) #[y K (c j 0),y K (c j 1),y K (c j 2),y K (c j 3)] 37))
  (λ_ wr=>lz wr e (w.heap.size+2))
 case atStart=>
  have aB:G No w (((w.alloc (v #[y K now] 159)).alloc (v #[y K (c j 0),y K (c j 1),y K (c j 2),y K (c j 3)] 37)).alloc (.mapIter (E e) f #[] f)):=(((G.refl _ w).alloc _).alloc _).alloc _;have q:=k bi
  refine⟨j,es,#[],⟨aB.has q.has (λm=>m),aB.map q.map (λm=>m),q.ok,q.rel⟩,k aL,je.start _ _ _,?_,aB.mono (λ_ _ m=>m.elim),((X.new w _ _).alloc _).alloc _,by have:=(X.new (w.alloc (v #[y K now] 159)) #[y K (c j 0),y K (c j 1),y K (c j 2),y K (c j 3)] 37).alloc (.mapIter (E e) f #[] f);rw[bj] at this;exact this⟩
  have:=heap_alloc_new ((w.alloc (v #[y K now] 159)).alloc (v #[y K (c j 0),y K (c j 1),y K (c j 2),y K (c j 3)] 37)) (.mapIter (E e) f #[] f);rw[bj,bj] at this;exact this
 case round=>
  obtain⟨x,r,seen,q,ai,aq,ad,ap,ar,hold⟩:=hrel;go_wp2_with (first|(at_next;refine Dm _ rfl _ rfl (w.heap.size+2) e f seen r rfl (k ad) (k q).map (k q).ok ?_ ?_))
  ·intro aC;have av:=(k aq).finish (k q).rel (k aC);have ah:=Dq (k aL) now;rw[<-av] at ah;obtain⟨bb,bc,bd,bf⟩:=(k q).cX;obtain⟨bM,bW,bT⟩:=(k q).ep;have bN:=(k hold).cell;have bU:=(k hold).lt;have bV:=pO p.ep;have bP:=i (k q).lu;have D:=i (k q);have aH:=i (k ap);have aE:=i av;have a6:ky now p j=if lB now j then p.next else p:=rfl
   have ao:=i a6;clear q ap aq ad ar hold av aC bH a6 ai
   cases R:lB now j with
   |false=>
    rw[R] at ah ao;have bk:=i R;clear R;simp only[Bool.not_false] at ah;go_wp2_with fail;go_region
    all_goals go_wp2
    all_goals go_end0
    all_goals refine⟨rfl,⟨r,?_⟩,(k aH).drew⟩
    all_goals rw[k ao,<-k aE]
    all_goals exact⟨(k D).has.drew,(k D).map,(k D).ok,(k D).rel⟩
   |true=>
    rw[R] at ah ao;have bk:=i R;clear R;simp only[Bool.not_true] at ah;have M:bo wr.drew u p x e r f:=⟨(k D).has.drew,(k D).map,(k D).ok,(k D).rel⟩;have N:=i M.lu;clear M;go_wp2_with fail;go_region
    all_goals go_wp2
    all_goals go_end0
    all_goals refine⟨rfl,⟨r,?_⟩,((k aH).drew).setCell (p:=⟨u,24,F⟩) (.inl (.inl rfl)) _⟩
    all_goals rw[k ao,<-k aE]
    all_goals exact k N
  ·intro d ab bG Y ay;have I:=k q;have b0:=k ak;have bD:e<wr.heap.size:=(Array.getElem?_eq_some_iff.1 I.map).1;have a4:w.heap.size+2<wr.heap.size:=(Array.getElem?_eq_some_iff.1 (k ad)).1;have S:G (λA=>A=w.heap.size+2) wr (setBlock Y (w.heap.size+2) (.mapIter (E e) f (seen.push d.born) f)):=G.setBlock (S:=λA=>A=w.heap.size+2) (ay.mod.mono (λ_ _ m=>m.elim)) (.inl rfl) _
   have M:bo (setBlock Y (w.heap.size+2) (.mapIter (E e) f (seen.push d.born) f)) u p x e r f:=⟨S.has I.has (λd=>b0.2.2.1 d),S.map I.map (λd=>b0.2.2.2.1 d),I.ok,I.rel⟩;have ae:(setBlock Y (w.heap.size+2) (.mapIter (E e) f (seen.push d.born) f)).heap[w.heap.size+2]? =E (.mapIter (E e) f (seen.push d.born) f):=tQ (by rw[ay.heap];exact a4) _;have au:=S.has (k ar) (λd=>by omega)
   have a1:=S.has (k hold) (λd=>by omega);have aY:lz (setBlock Y (w.heap.size+2) (.mapIter (E e) f (seen.push d.born) f)) e (w.heap.size+2)<lz wr e (w.heap.size+2):=by
    rw[oW M.map ae,oW I.map (k ad)];refine filter_lt (List.Sublist.refl _) (λm _ q=>?_) ⟨d,k ab,?_,?_⟩
    ·simp at q ⊢;exact q.1
    ·simpa using k bG
    ·simp
   have bC:=run_entry_at (P:=T) (setBlock Y (w.heap.size+2) (.mapIter (E e) f (seen.push d.born) f)) (w.heap.size+2) e f seen (r.map t.obj).toArray f d.obj ae M.map
    (by simp;exact⟨d,k ab,rfl⟩) (by
     have:=I.ok.oP
     simp only[List.map_map]
     rw[List.nodup_iff_pairwise_ne,List.pairwise_map]
     exact this)
   have af:=((k ap).trans' (S) (λaj hi hl=>by omega));have N:=i M;have aI:=i af;have am:=i ae;have aD:=i au;have aK:=i a1;have aF:=i aY;generalize bB:setBlock Y (w.heap.size+2) (.mapIter (E e) f (seen.push d.born) f)=z at *;have bL:=au.cell;have a5:w.heap.size+2<z.heap.size:=(Array.getElem?_eq_some_iff.1 ae).1;have bS:w.heap.size<z.heap.size:=by omega
   clear M ae af au S aY I b0 bB ad ap ar q bD a4 ay hold a1;simp only[t.obj,iN,cH] at bC;obtain⟨aj,aw,aQ,aO,aR, -, -,aS⟩:=Dg (k N).ok (k N).rel (k ai) (k ab);have bm:=i λbx (bA:bo bx u p x e r f)=>Dn bA (k ai) aj aw d.r d.c aQ aO;have bl:=i (show due now x[aj]=true↔(d.s=1/\d.u<=now) from by simp[due,aR,aS]);clear aQ aO aR aS
   have s:G No z ((z.alloc (v #[y K d.r,y K d.c] 36)).alloc (v #[y K d.s,y K d.p,y K d.k,y K d.u] 199)):=((G.refl _ z).alloc _).alloc _;have aN:=i s;clear s
   have ba:¬(d.s=1/\d.u<=now)->(∃x r seen,Hid (bo ((z.alloc (v #[y K d.r,y K d.c] 36)).alloc (v #[y K d.s,y K d.p,y K d.k,y K d.u] 199)) u p x e r f)/\Hid (L p x)/\Hid (je now j x r seen)/\
     Hid (((z.alloc (v #[y K d.r,y K d.c] 36)).alloc (v #[y K d.s,y K d.p,y K d.k,y K d.u] 199)).heap[w.heap.size+2]? =E (.mapIter (E e) f seen f))/\
     Hid (G (λA=>A=u\/A=e) w ((z.alloc (v #[y K d.r,y K d.c] 36)).alloc (v #[y K d.s,y K d.p,y K d.k,y K d.u] 199)))/\Hid (X ((z.alloc (v #[y K d.r,y K d.c] 36)).alloc (v #[y K d.s,y K d.p,y K d.k,y K d.u] 199)) w.heap.size #[y K now] 159)/\Hid (X ((z.alloc (v #[y K d.r,y K d.c] 36)).alloc (v #[y K d.s,y K d.p,y K d.k,y K d.u] 199)) (w.heap.size+1) #[y K (c j 0),y K (c j 1),y K (c j 2),y K (c j 3)] 37))/\
     lz ((z.alloc (v #[y K d.r,y K d.c] 36)).alloc (v #[y K d.s,y K d.p,y K d.k,y K d.u] 199)) e (w.heap.size+2)<lz wr e (w.heap.size+2):=λbE=>by
    have s:=k aN;have q:=k N;have aW:((z.alloc (v #[y K d.r,y K d.c] 36)).alloc (v #[y K d.s,y K d.p,y K d.k,y K d.u] 199)).heap[w.heap.size+2]? =E (.mapIter (E e) f (seen.push d.born) f):=by
     rw[s.block _ a5 (λm=>m)];exact k am
    have af:=s.map q.map (λm=>m);refine⟨⟨x,r,seen.push d.born,⟨s.has q.has (λm=>m),af,q.ok,q.rel⟩,k ai,(k aq).keep q.ok (k ab) bE,aW,(k aI).trans (s.mono (λ_ _ m=>m.elim)),s.has (k aD) (λm=>m),s.has (k aK) (λm=>m)⟩,?_⟩;rw[oW af aW,<-oW q.map (k am)];exact k aF
   have aM:=i ba;clear ba;by_cases H:d.s=1
   ·by_cases aV:d.u<=now
    ·have aa:=i (eL H aV);have aU:(d.s==1)=true:=by simp[H]
     clear H;go_wp2_with fail;have s:=k aN;have J:=k N;have a9:bo ((z.alloc (v #[y K d.r,y K d.c] 36)).alloc (v #[y K d.s,y K d.p,y K d.k,y K d.u] 199)) u p x e r f:=⟨s.has J.has (λm=>m),s.map J.map (λm=>m),J.ok,J.rel⟩;refine((k bm) _ a9).mono ?_;rintro bO bh ⟨rfl,aA,ag⟩;have ax:bh.heap[w.heap.size+2]? =E (.mapIter (E e) f (seen.push d.born) f):=by
      have b0:=k ak;rw[ag.block _ (by simp only[bj];omega) (by rintro(n|n);exact b0.2.2.1 n.symm;exact b0.2.2.2.1 n.symm),s.block _ a5 (λm=>m)];exact k am
     have aT:=ag.has (s.has (k aD) (λm=>m)) (by
      have b0:=k ak
      rintro(n|n);exact b0.1 n.symm;exact b0.2.1 n.symm)
     have a2:=ag.has (s.has (k aK) (λm=>m)) (by
      have b0:=k ak
      rintro(n|n);exact b0.2.2.2.2.1 n.symm;exact b0.2.2.2.2.2 n.symm)
     have bt:=i a2;have aZ:=((k aI).trans (s.mono (λ_ _ m=>m.elim))).trans ag;have aX:lz bh e (w.heap.size+2)<lz wr e (w.heap.size+2):=by
      refine Nat.lt_of_le_of_lt ?_ (k aF);rw[oW aA.map ax,oW J.map (k am)];refine((Dp r d.r d.c).filter _).length_le
     have a3:=(k aq).give J.ok (k ab) aw ((k bl).2 (k aa));have a8:L p (x.set aj x[aj].aS):=(k ai).set aw (nN _) rfl rfl;have bw:=i aA;have bp:=i ax;have bn:=i aT;have bs:=i aZ;have bq:=i aX;have bu:=i a3;have bv:=i a8;clear a2 aA ax aT aZ aX a3 a8 ag a9 J s;go_wp2;exact⟨⟨_,_,_,bw,bv,bu,bp,bs,bn,bt⟩,k bq⟩
    ·have aa:=i (show ¬(d.s=1/\d.u<=now) from λn=>aV n.2);have aU:(d.s==1)=true:=by simp[H]
     clear H;go_wp2;exact(k aM) (k aa)
   ·have aa:=i (show ¬(d.s=1/\d.u<=now) from λn=>H n.1);have aU:(d.s==1)=false:=by simp[H]
    clear H;go_wp2;exact(k aM) (k aa)
end Go.Proofs.YthhibagcpjeihaaGreat
