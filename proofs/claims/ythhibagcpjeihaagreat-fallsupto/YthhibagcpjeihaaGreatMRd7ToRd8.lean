import Derived.Test.YthhibagcpjeihaaGreatMRd6
import Derived.Test.YthhibagcpjeihaaGreatMSto1ToRp3
import Derived.Deep.DeepCutAuto
import Derived.Deep.CutRange
open Go.Proofs.Tryz
open Go.Value renaming int->y,pointer->b,slice->C,bool->W,agg->l,ownBlock->az
open Go.IntKind renaming i64->K,wrap_i64->jB
open Option renaming none->F,some->E
open Go renaming World->U,Value->V
open Go.Proofs.Tryz renaming prog->T
open Go.Ending renaming returned->g
open Go.Obj renaming cells->v
open Nat renaming lt_of_lt_of_le->aG,zero_add->bg,le_trans->bF,le_refl->bK
open List renaming length_append->aJ,flatMap_append->lG
open Go.World renaming size_alloc->bj,ownsRow_nil->cJ
open Go.Act renaming eval->Z,put->aP
open Array renaming getElem?_toList->dE
open Go.Addr renaming add_mid->dx
namespace Go.Proofs.YthhibagcpjeihaaGreat
open Go.RowKit
open M
set_option linter.unusedVariables false
set_option linter.unusedSimpArgs false
set_option maxRecDepth 100000
set_option maxHeartbeats 4000000
structure fg {γ:Type} (w:U) (rb gb:Nat) (now:Int) (T:Option (γ×List Int)) (c:List Int->Option (γ×List Int)) (l:List Int) (t:Bool):Prop where
 rd:aT w rb gb l now t
 yes:t=false->T=c l
 no:t=true->T=F
theorem fg.next{u q:Type} {w w2:U} {o k:Nat} {now:Int} {r:Option (u×List Int)} {p:List Int->Option (q×List Int)} {f:q->List Int->Option (u×List Int)} {e:List Int} {t:Bool} (m:fg w o k now r (λc=>aw (p c) f) e t) {n:q} (a:cz w2 o k (p e) now t (λi=>i=n)):∃s t2,fg w2 o k now r (λc=>f n c) s t2/\(t2=false->p e=E (n,s)/\t=false):=by
 cases t with
 |false=>
  cases j:p e with
  |none=>
   rw[j] at a;obtain⟨c,a⟩:=a;exact⟨c,true,⟨a,λd=>by simp at d,λ_=>by rw[m.yes rfl];show aw (p e) f=F;rw[j];rfl⟩,λd=>by simp at d⟩
  |some i=>
   obtain⟨i,c⟩:=i;rw[j] at a;obtain⟨rfl,a⟩:=a;exact⟨c,false,⟨a,λ_=>by rw[m.yes rfl];show aw (p e) f=f i c;rw[j];rfl,λd=>by simp at d⟩,λ_=>⟨rfl,rfl⟩⟩
 |true=>
  obtain⟨c,a⟩:=a.torn;exact⟨c,true,⟨a,λd=>by simp at d,λ_=>m.no rfl⟩,λd=>by simp at d⟩
theorem fg.fin{i:Type} {f:U} {e d:Nat} {now:Int} {c:Option (i×List Int)} {y:i} {l:List Int} {t:Bool} (a:fg f e d now c (λj=>E (y,j)) l t):cz f e d c now false (λx=>x=y):=by
 cases t with
 |false=>rw[a.yes rfl];exact⟨rfl,a.rd⟩
 |true=>rw[a.no rfl];exact⟨l,a.rd⟩
theorem fg.mod{k:Type} {w w':U} {d a:Nat} {now:Int} {e:Option (k×List Int)} {f:List Int->Option (k×List Int)} {i:List Int} {j:Bool} {S:Nat->Prop} (c:fg w d a now e f i j) (o:G S w w') (m:¬S d) (n:¬S a):fg w' d a now e f i j:=
 ⟨c.rd.mod o m n,c.yes,c.no⟩
theorem fg.aD{m:Type} {k w':U} {i e:Nat} {now:Int} {c:Option (m×List Int)} {d:List Int->Option (m×List Int)} {f:List Int} {j:Bool} (n:fg k i e now c d f j) (o:G No k w'):fg w' i e now c d f j:=n.mod o (λa=>a) (λa=>a)
theorem aT.start{i:Type} {w:U} {d c:Nat} {a:List Int} {now:Int} (f:aT w d c a now false) (p:List Int->Option (i×List Int)):fg w d c now (p a) p a false:=⟨f,λ_=>rfl,λe=>by simp at e⟩
theorem qH{a:List Int} {e:Int} {c:List Int} (d:bc a 0 0=E (e,c)):c.length<a.length:=(xx a 0 0 d).1
theorem Hh{d:List Int} {f:Int×Int} {e:List Int} (a:gX d=E (f,e)):e.length<d.length:=by
 unfold gX at a;rcases c:bc d 0 0 with _|⟨i,j⟩
 ·rw[c] at a;cases a
 ·rw[c,fU] at a;injection a with a;injection a with _ a;subst a;exact qH c
theorem bp.le{e:Type} {p:List Int->Option (e×List Int)} (i:bp p) {a:List Int} {d:e} {c:List Int} (f:p a=E (d,c)):c.length<=a.length:=by
 obtain⟨j,rfl,_⟩:=i a d c f;simp
theorem Hi{now:Int} {f:List Int} {m:B} {a:List Int} (d:fL now f=E (m,a)):a.length<f.length:=by
 unfold fL at d;rcases e:gX f with _|⟨i,p⟩
 ·rw[e] at d;cases d
 ·rw[e,fU] at d;have n:=Hh e;have o:=bp.le (p:=λa=>aw (bc a 0 0) λc a=>aw (if c.tdiv 4=3 then E (0,a) else bc a 0 0) λj a=>aw (if c.tdiv 4=1 then bc a 0 0 else E (0,a)) λk a=>E ((⟨i.1,i.2,c.tdiv 4,j,c.tmod 4,if c.tdiv 4=1 then wrap64 (now+k) else 0⟩:B),a)) (ix.bind λc=>((bp.ret 0).ite ix).bind λj=>(ix.ite (bp.ret 0)).bind λk=>bp.ret _) d;omega
theorem zt:(T.info? 202).map (λa=>(a.zero,a.size,a.bytes))=E (E (l #[y K 0,y K 0,y K 0,y K 0,y K 0,y K 0]),6,48):=by kernel_rfl
theorem zu(c:U) (a:B):Reads (c.alloc (v #[y K a.row,y K a.P,y K a.st,y K a.pa,y K a.cl,y K a.un] 202)) (C (E ⟨c.heap.size,0,F⟩) 1 1) 1 (dm a):=
 .inr ⟨⟨c.heap.size,0,F⟩,1,rfl,λe f hu=>by
  have d:=X.new c #[y K a.row,y K a.P,y K a.st,y K a.pa,y K a.cl,y K a.un] 202
  rw[dx,bg,d.cell,<-dE]
  exact hu⟩
def j4(p:O) (a:V):List V:=lM p++[a,y K p.ep]
structure mX (w wr:U) (rb gb cb:Nat) (p:O) (v:V) (acc:List B) (L k:Nat) (l:List Int) (t:Bool) (now:Int) (T:Option ((O×List B)×List Int)):Prop where
 box:X wr cb (j4 p v).toArray 196
 res:X wr w.heap.size #[y K 0,y K 0,y K 0,y K 0,y K 0,y K 0,y K 0,C F 0 0,y K 0] 196
 row:wr.ownsRow 0 202 6 v acc.length (acc.flatMap dm)
 new:∀j,v.ownBlock=E j->w.heap.size<j/\j≠cb
 mod:G (· =rb) w wr
 at_:fg wr rb gb now T (λr=>aw (kJ now k acc r) λss r=>E ((p,ss),r)) l t
 len:acc.length<=L+1/\(t=false->acc.length+l.length<=L)
theorem mX.still{s wr t:U} {o k j:Nat} {p:O} {r:V} {i:List B} {e m:Nat} {n:List Int} {q:Bool} {now:Int} {f:Option ((O×List B)×List Int)} (a:mX s wr o k j p r i e m n q now f) (d:G No wr t):mX s t o k j p r i e m n q now f:=
 ⟨d.has a.box (λc=>c),d.has a.res (λc=>c),d.owns a.row (λ_ _ c=>c),a.new,a.mod.trans (d.mono λ_ _ c=>c.elim),a.at_.aD d,a.len⟩
def Hj(j w':U) (e c:Nat) (d:List Int) (f:Bool) (now:Int) (i:V):Prop:=∃a,i=l #[y K a.row,y K a.P,y K a.st,y K a.pa,y K a.cl,y K a.un]/\de j w' e c (fL now d) now f (λk=>k=a)
theorem mX.next{k wr q w6:U} {j n c:Nat} {p:O} {m v':V} {e:List B} {x t:Nat} {r:List Int} {now:Int} {z:Option ((O×List B)×List Int)} (aa:mX k wr j n c p m e x (t+1) r false now z) (ah:j<k.heap.size/\n<k.heap.size/\k.heap.size<c) {f:B} (Q:de wr q j n (fL now r) now false (λw=>w=f))
  (J:Obj) (ag:w6.ownsRow 0 202 6 v' (e.length+1) ((e.flatMap dm)++dm f)) (ae:(q.alloc J).grownBy w6 m.ownBlock) (hs:dY (q.alloc J) m v'):∃H t2,mX k (w6.setCell ⟨c,7,F⟩ v') j n c p v' (e++[f]) x t H t2 now z:=by
 obtain⟨aj,ak,am⟩:=ah;obtain⟨M,ab,ao,A,N,D,ad⟩:=aa;have hc:=M.lt;have ap:=N.size;have u:=Q.1;have R:G (λa=>m.ownBlock=E a) q w6:=((G.refl _ q).alloc J).grown ae (λa o=>.inl o);have I:G (λa=>m.ownBlock=E a\/a=c) q (w6.setCell ⟨c,7,F⟩ v'):=(R.mono (λ_ _ w=>.inl w)).setCell (p:=⟨c,7,F⟩) (.inl (.inr rfl)) _;have s:∀a,a<=k.heap.size->¬(m.ownBlock=E a\/a=c):=λa o=>by
  rintro(d|d)
  ·have:=(A a d).1;omega
  ·omega
 have P:∀a,v'.ownBlock=E a->k.heap.size<a/\a≠c:=λa o=>by
  obtain L|L:=hs a o
  ·exact A a L
  ·have:=u.size;rw[bj] at L;omega
 have af:fg wr j n now z (λi=>aw (fL now i) λf i=>aw (kJ now t (e++[f]) i) λai i=>E ((p,ai),i)) r false:=⟨D.rd,λd=>by
  rw[D.yes d]
  show aw (aw (fL now r) λf i=>kJ now t (e++[f]) i) _=_
  obtain _|⟨w,i⟩:=fL now r<;>rfl,D.no⟩
 obtain⟨H,t2,S,Y⟩:=af.next Q.2
 refine⟨H,t2,?_,?_,?_,P,(N.trans u).trans' I (λa o hl=>absurd o (s a (by omega))),S.mod I (s j (by omega)) (s n (by omega)),?_⟩
 ·have hb:X w6 c (j4 p m).toArray 196:=R.has (u.has M (by show ¬c=j;omega)) (λd=>(A c d).2 rfl);exact hb.set 7 v'
 ·exact I.has (u.has ab (by show ¬k.heap.size=j;omega)) (s _ (bK _))
 ·have d:(e++[f]).flatMap dm=e.flatMap dm++dm f:=by rw[lG];simp
  rw[d,aJ];exact gT ag (a:=⟨c,7,F⟩) (λd=>(P c (by simpa using d)).2 rfl) _
 ·have aq:=ad.2 rfl;have:e.length+1<=x+1:=by omega
  refine⟨by simp;omega,λd=>?_⟩;have:=Hi (Y d).1;simp;omega
theorem Hk{c:U} {a:Nat} {x0 x1 x2 x3 x4 x5 x6 x7 x8:V} (q:X c a #[y K 0,y K 0,y K 0,y K 0,y K 0,y K 0,y K 0,C F 0 0,y K 0] 196):G (λe=>e=a) c (((((((((c.setCell ⟨a,0,F⟩ (x0)).setCell ⟨a,1,F⟩ (x1)).setCell ⟨a,2,F⟩ (x2)).setCell ⟨a,3,F⟩ (x3)).setCell ⟨a,4,F⟩ (x4)).setCell ⟨a,5,F⟩ (x5)).setCell ⟨a,6,F⟩ (x6)).setCell ⟨a,7,F⟩ (x7)).setCell ⟨a,8,F⟩ (x8))/\(((((((((c.setCell ⟨a,0,F⟩ (x0)).setCell ⟨a,1,F⟩ (x1)).setCell ⟨a,2,F⟩ (x2)).setCell ⟨a,3,F⟩ (x3)).setCell ⟨a,4,F⟩ (x4)).setCell ⟨a,5,F⟩ (x5)).setCell ⟨a,6,F⟩ (x6)).setCell ⟨a,7,F⟩ (x7)).setCell ⟨a,8,F⟩ (x8)).cell? ⟨a,0,F⟩=E (x0)/\(((((((((c.setCell ⟨a,0,F⟩ (x0)).setCell ⟨a,1,F⟩ (x1)).setCell ⟨a,2,F⟩ (x2)).setCell ⟨a,3,F⟩ (x3)).setCell ⟨a,4,F⟩ (x4)).setCell ⟨a,5,F⟩ (x5)).setCell ⟨a,6,F⟩ (x6)).setCell ⟨a,7,F⟩ (x7)).setCell ⟨a,8,F⟩ (x8)).cell? ⟨a,1,F⟩=E (x1)/\(((((((((c.setCell ⟨a,0,F⟩ (x0)).setCell ⟨a,1,F⟩ (x1)).setCell ⟨a,2,F⟩ (x2)).setCell ⟨a,3,F⟩ (x3)).setCell ⟨a,4,F⟩ (x4)).setCell ⟨a,5,F⟩ (x5)).setCell ⟨a,6,F⟩ (x6)).setCell ⟨a,7,F⟩ (x7)).setCell ⟨a,8,F⟩ (x8)).cell? ⟨a,2,F⟩=E (x2)/\(((((((((c.setCell ⟨a,0,F⟩ (x0)).setCell ⟨a,1,F⟩ (x1)).setCell ⟨a,2,F⟩ (x2)).setCell ⟨a,3,F⟩ (x3)).setCell ⟨a,4,F⟩ (x4)).setCell ⟨a,5,F⟩ (x5)).setCell ⟨a,6,F⟩ (x6)).setCell ⟨a,7,F⟩ (x7)).setCell ⟨a,8,F⟩ (x8)).cell? ⟨a,3,F⟩=E (x3)/\(((((((((c.setCell ⟨a,0,F⟩ (x0)).setCell ⟨a,1,F⟩ (x1)).setCell ⟨a,2,F⟩ (x2)).setCell ⟨a,3,F⟩ (x3)).setCell ⟨a,4,F⟩ (x4)).setCell ⟨a,5,F⟩ (x5)).setCell ⟨a,6,F⟩ (x6)).setCell ⟨a,7,F⟩ (x7)).setCell ⟨a,8,F⟩ (x8)).cell? ⟨a,4,F⟩=E (x4)/\(((((((((c.setCell ⟨a,0,F⟩ (x0)).setCell ⟨a,1,F⟩ (x1)).setCell ⟨a,2,F⟩ (x2)).setCell ⟨a,3,F⟩ (x3)).setCell ⟨a,4,F⟩ (x4)).setCell ⟨a,5,F⟩ (x5)).setCell ⟨a,6,F⟩ (x6)).setCell ⟨a,7,F⟩ (x7)).setCell ⟨a,8,F⟩ (x8)).cell? ⟨a,5,F⟩=E (x5)/\(((((((((c.setCell ⟨a,0,F⟩ (x0)).setCell ⟨a,1,F⟩ (x1)).setCell ⟨a,2,F⟩ (x2)).setCell ⟨a,3,F⟩ (x3)).setCell ⟨a,4,F⟩ (x4)).setCell ⟨a,5,F⟩ (x5)).setCell ⟨a,6,F⟩ (x6)).setCell ⟨a,7,F⟩ (x7)).setCell ⟨a,8,F⟩ (x8)).cell? ⟨a,6,F⟩=E (x6)/\(((((((((c.setCell ⟨a,0,F⟩ (x0)).setCell ⟨a,1,F⟩ (x1)).setCell ⟨a,2,F⟩ (x2)).setCell ⟨a,3,F⟩ (x3)).setCell ⟨a,4,F⟩ (x4)).setCell ⟨a,5,F⟩ (x5)).setCell ⟨a,6,F⟩ (x6)).setCell ⟨a,7,F⟩ (x7)).setCell ⟨a,8,F⟩ (x8)).cell? ⟨a,7,F⟩=E (x7)/\(((((((((c.setCell ⟨a,0,F⟩ (x0)).setCell ⟨a,1,F⟩ (x1)).setCell ⟨a,2,F⟩ (x2)).setCell ⟨a,3,F⟩ (x3)).setCell ⟨a,4,F⟩ (x4)).setCell ⟨a,5,F⟩ (x5)).setCell ⟨a,6,F⟩ (x6)).setCell ⟨a,7,F⟩ (x7)).setCell ⟨a,8,F⟩ (x8)).cell? ⟨a,8,F⟩=E (x8):=by
 have f:X (c.setCell ⟨a,0,F⟩ (x0)) a #[x0,y K 0,y K 0,y K 0,y K 0,y K 0,y K 0,C F 0 0,y K 0] 196:=q.set 0 (x0);have i:X ((c.setCell ⟨a,0,F⟩ (x0)).setCell ⟨a,1,F⟩ (x1)) a #[x0,x1,y K 0,y K 0,y K 0,y K 0,y K 0,C F 0 0,y K 0] 196:=f.set 1 (x1);have j:X (((c.setCell ⟨a,0,F⟩ (x0)).setCell ⟨a,1,F⟩ (x1)).setCell ⟨a,2,F⟩ (x2)) a #[x0,x1,x2,y K 0,y K 0,y K 0,y K 0,C F 0 0,y K 0] 196:=i.set 2 (x2)
 have k:X ((((c.setCell ⟨a,0,F⟩ (x0)).setCell ⟨a,1,F⟩ (x1)).setCell ⟨a,2,F⟩ (x2)).setCell ⟨a,3,F⟩ (x3)) a #[x0,x1,x2,x3,y K 0,y K 0,y K 0,C F 0 0,y K 0] 196:=j.set 3 (x3);have m:X (((((c.setCell ⟨a,0,F⟩ (x0)).setCell ⟨a,1,F⟩ (x1)).setCell ⟨a,2,F⟩ (x2)).setCell ⟨a,3,F⟩ (x3)).setCell ⟨a,4,F⟩ (x4)) a #[x0,x1,x2,x3,x4,y K 0,y K 0,C F 0 0,y K 0] 196:=k.set 4 (x4)
 have n:X ((((((c.setCell ⟨a,0,F⟩ (x0)).setCell ⟨a,1,F⟩ (x1)).setCell ⟨a,2,F⟩ (x2)).setCell ⟨a,3,F⟩ (x3)).setCell ⟨a,4,F⟩ (x4)).setCell ⟨a,5,F⟩ (x5)) a #[x0,x1,x2,x3,x4,x5,y K 0,C F 0 0,y K 0] 196:=m.set 5 (x5)
 have o:X (((((((c.setCell ⟨a,0,F⟩ (x0)).setCell ⟨a,1,F⟩ (x1)).setCell ⟨a,2,F⟩ (x2)).setCell ⟨a,3,F⟩ (x3)).setCell ⟨a,4,F⟩ (x4)).setCell ⟨a,5,F⟩ (x5)).setCell ⟨a,6,F⟩ (x6)) a #[x0,x1,x2,x3,x4,x5,x6,C F 0 0,y K 0] 196:=n.set 6 (x6)
 have p:X ((((((((c.setCell ⟨a,0,F⟩ (x0)).setCell ⟨a,1,F⟩ (x1)).setCell ⟨a,2,F⟩ (x2)).setCell ⟨a,3,F⟩ (x3)).setCell ⟨a,4,F⟩ (x4)).setCell ⟨a,5,F⟩ (x5)).setCell ⟨a,6,F⟩ (x6)).setCell ⟨a,7,F⟩ (x7)) a #[x0,x1,x2,x3,x4,x5,x6,x7,y K 0] 196:=o.set 7 (x7)
 have d:X (((((((((c.setCell ⟨a,0,F⟩ (x0)).setCell ⟨a,1,F⟩ (x1)).setCell ⟨a,2,F⟩ (x2)).setCell ⟨a,3,F⟩ (x3)).setCell ⟨a,4,F⟩ (x4)).setCell ⟨a,5,F⟩ (x5)).setCell ⟨a,6,F⟩ (x6)).setCell ⟨a,7,F⟩ (x7)).setCell ⟨a,8,F⟩ (x8)) a #[x0,x1,x2,x3,x4,x5,x6,x7,x8] 196:=p.set 8 (x8)
 refine⟨((((((((((G.refl (λe=>e=a) c).setCell (p:=⟨a,0,F⟩) (.inl rfl) _).setCell (p:=⟨a,1,F⟩) (.inl rfl) _).setCell (p:=⟨a,2,F⟩) (.inl rfl) _).setCell (p:=⟨a,3,F⟩) (.inl rfl) _).setCell (p:=⟨a,4,F⟩) (.inl rfl) _).setCell (p:=⟨a,5,F⟩) (.inl rfl) _).setCell (p:=⟨a,6,F⟩) (.inl rfl) _).setCell (p:=⟨a,7,F⟩) (.inl rfl) _).setCell (p:=⟨a,8,F⟩) (.inl rfl) _),d.cell 0,d.cell 1,d.cell 2,d.cell 3,d.cell 4,d.cell 5,d.cell 6,d.cell 7,d.cell 8⟩
theorem Hm{c:U} {e u:Nat} {D:List Int} {now:Int} (J:aT c e u D now false):Calls T 142 #[b (E ⟨e,0,F⟩)] c λd w'=>∃p x r,d=g (l (j4 p r).toArray)/\w'.ownsRow 0 202 6 r x.length (x.flatMap dm)/\(∀j,r.ownBlock=E j->c.heap.size<=j)/\G (· =e) c w'/\cz w' e u (lS now D) now false (λs=>s=(p,x)):=by
 have bA:=J.kz;have bu:=J.lt;have b5:=J.len;have aA:c.heap.size≠e:=by omega
 have b3:c.heap.size≠u:=by omega
 have aD:G No c (c.alloc (v #[y K 0,y K 0,y K 0,y K 0,y K 0,y K 0,y K 0,C F 0 0,y K 0] 196)):=(G.refl _ _).alloc _;have aX:fg (c.alloc (v #[y K 0,y K 0,y K 0,y K 0,y K 0,y K 0,y K 0,C F 0 0,y K 0] 196)) e u now (lS now D) (λw=>aw (kG w) λp w=>aw (bc w 0 0) λt w=>aw (bc w 0 0) λA w=>aw (kJ now A.toNat [] w) λx w=>E ((p.at t,x),w)) D false:=(J.start (lS now)).aD aD;have am:=i aX;have aU:=i aD
 have aH:=i (X.new c #[y K 0,y K 0,y K 0,y K 0,y K 0,y K 0,y K 0,C F 0 0,y K 0] 196);have a6:c.heap.size+1<=(c.alloc (v #[y K 0,y K 0,y K 0,y K 0,y K 0,y K 0,y K 0,C F 0 0,y K 0] 196)).heap.size:=by simp
 have aQ:=i a6;clear J aD aX a6;generalize a1:lS now D=ar at *;have bL:=i a1;clear a1;go_enter func142,ntmps142;go_wp2_with fail;refine(x' (k am).rd).mono ?_;rintro d cl ⟨p,rfl,bm,O⟩;obtain⟨b8,t1,aY,av⟩:=(k am).next O.2
 have ao:=i aY;have aM:=i av;have aV:=i (((k aU).mono (S':=(· =e)) λ_ _ s=>s.elim).trans O.1);have aI:=i (O.1.has (k aH) aA);have aR:=i (bF (k aQ) O.1.size);clear O aY av am aU aH bm aQ;unfold lM;go_wp2_with fail;refine(jF (k ao).rd).mono ?_;rintro d ak ⟨t,rfl,bl,M⟩;obtain⟨b9,t2,aZ,ab⟩:=(k ao).next M.2
 have af:G No ak (ak.alloc (v #[y K p.rows,y K p.w,y K p.front,y K p.I,y K p.R,y K p.n,y K p.f,C F 0 0,y K t] 196)):=(G.refl _ _).alloc _;have ap:=i (aZ.aD af);have aN:=i ab;have aW:=i (((k aV).trans M.1).trans (af.mono (S':=(· =e)) λ_ _ s=>s.elim));have aK:=i (af.has (M.1.has (k aI) aA) (λs=>s))
 have aL:=i (X.new ak #[y K p.rows,y K p.w,y K p.front,y K p.I,y K p.R,y K p.n,y K p.f,C F 0 0,y K t] 196);have aS:=i (bF (k aR) M.1.size);clear M aZ ab ao aV aI bl aR af;go_wp2_with fail;generalize b2:ak.heap.size=m at *;have bq:c.heap.size<m:=by have:=k aS;omega
 refine(jF (k ap).rd).mono ?_;rintro d w3 ⟨A,rfl,fn,N⟩;obtain⟨bE,t3,a0,ax⟩:=(k ap).next N.2
 have R:mX c w3 e u m (p.at t) (C F 0 0) [] D.length A.toNat bE t3 now ar:=by
  refine⟨N.1.has (k aL) (by show ¬m=e;omega),N.1.has (k aK) aA,cJ _ _ _ _,λj bv=>by simp[az] at bv,(k aW).trans N.1,a0,by simp,λd=>?_⟩;have ai:=ax d;have ah:=(k aN) ai.2;have aE:=(k aM) ah.2;have ci:=qH ai.1;have ch:=qH ah.1;have cg:=uE.le aE.1;simp;omega
 have R:=i R;clear N a0 ax ap aW aK aL aS aN aM;go_wp2_with fail;go_loopw [4] (λP wr=>∃(A:Int) (r:V) (f:List B) (ae:List Int) (z:Bool),P=y K A/\A<=9223372036854775807/\Hid (mX c wr e u m (p.at t) r f D.length A.toNat ae z now ar)) (λP _=>(intOf P).toNat)
 case atStart=>exact⟨A,_,_,_,_,rfl,fn.2,R⟩
 case round=>
  obtain⟨n',r,f,ae,z,rfl,b6,a⟩:=hrel;clear R;obtain⟨bM,bP,aB,bx,bz⟩:=(k a).at_.rd.has;have bY:wr.cell? ⟨e,2,F⟩=E (W z):=aB.cell 2;have bW:=aB.lt;clear aB bx bz;by_cases ad:0<n'/\z=false
  ·obtain⟨bw,rfl⟩:=ad;have b4:n'>0:=bw;obtain⟨n,a3⟩:∃n,n'.toNat=n+1:=⟨n'.toNat - 1,by omega⟩;rw[a3] at a;have a:=i (k a);have b7:K.wrap (n' - 1)=n' - 1:=by rw[jB];omega
   obtain⟨o,q,rfl⟩:=aC (k a).row;have bN:wr.cell? ⟨m,7,F⟩=E (C o f.length q):=(k a).box.cell 7;have bO:=(k a).box.frozen;have bi:=(k a).box.lt;have S:=i ((k a).still (G.refl No wr).drew);have a9:=i (show Calls T 139 #[b (E ⟨e,0,F⟩)] wr.drew λd w'=>∃r,d=g r/\Hj wr.drew w' e u ae false now r from(xz (k S).at_.rd).mono (λd w' ⟨P,bn,bZ,bo⟩=>⟨_,bn,P,rfl,bo⟩))
   have b1:f.length<=1099511627776:=by have:=(k a).len.2 rfl;omega
   have ba:=i (show e<c.heap.size/\u<c.heap.size/\c.heap.size<m from⟨bA,bu,bq⟩);have aq:=i (λn (d:(C o f.length q).ownBlock=E n)=>(k a).new n d);have bs:¬m=e:=by omega
   have a4:∀n,(C o f.length q).ownBlock=E n->¬n=e:=λn d ab=>by have:=((k a).new n d).1;omega
   have Y:=i a4;have bb:=i (show E m≠(C o f.length q).ownBlock from λd=>((k a).new m d.symm).2 rfl);obtain⟨bD,bH,aE,ah,ai⟩:=info_parts zt;clear a a4;go_upto_region 5 with fail
   go_region_law (first
    |(refine lQ rfl 139 _ _ rfl #[b (E ⟨e,0,F⟩)] (by simp[Z,aP]) (λH=>by kernel_rfl) _ (k a9) ?_;intro ck Q bp;obtain⟨aF,rfl,aj⟩:=bp;have bf:=i aj;have aa:=i (aj.1.has (k S).box bs);have bd:=i (aj.1.owns (k S).row (k Y));have ca:Q.cell? ⟨m,7,F⟩=E (C o f.length q):=(k aa).cell 7;have cc:=(k aa).frozen;have ce:=(k aa).lt;clear aj)
    |(refine pW rfl (.tmp 24) (.tmp 27) 194 rfl 202 bD _ 6 48 underlying194 bH aE ah ai rfl (by decide) (C o f.length q) f.length _ (by simp[Z,aP]) (by exact(((G.refl No Q).alloc _).owns (k bd) (λ_ _ s=>s))) (C (E ⟨Q.heap.size,0,F⟩) 1 1) 1 (dm aF) (by simp[Z,aP]) (by exact zu Q aF) rfl (by intro cj hu;simp[dm] at hu;obtain rfl|rfl|rfl|rfl|rfl|rfl:=hu<;>rfl) (by unfold maxLen;omega) (by omega) ?_;intro v' bJ a5 a2 bB;obtain⟨bh,bk,rfl⟩:=aC a5;have au:=i (X.grown (((G.refl No Q).alloc _).has (k aa) (λs=>s)) a2 (k bb));have cb:bJ.cell? ⟨m,7,F⟩=E (C o f.length q):=(k au).cell 7;have cd:=(k au).frozen;have cf:=(k au).lt))
   all_goals go_wp2_with fail
   all_goals
    obtain⟨bG,t9,bC⟩:=(k S).next (k ba) (k bf) _ a5 a2 bB
    refine⟨⟨n' - 1,C bh (f.length+1) bk,f++[aF],bG,t9,rfl,by omega,i ?_⟩,by simp[intOf];omega⟩;rw[show(n' - 1).toNat=n by omega];exact bC
  ·obtain⟨o,q,rfl⟩:=aC (k a).row;have bQ:wr.cell? ⟨m,0,F⟩=E (y K p.rows):=(k a).box.cell 0;have av:wr.cell? ⟨m,1,F⟩=E (y K p.w):=(k a).box.cell 1;have ab:wr.cell? ⟨m,2,F⟩=E (y K p.front):=(k a).box.cell 2;have ax:wr.cell? ⟨m,3,F⟩=E (y K p.I):=(k a).box.cell 3;have bR:wr.cell? ⟨m,4,F⟩=E (y K p.R):=(k a).box.cell 4;have bS:wr.cell? ⟨m,5,F⟩=E (y K p.n):=(k a).box.cell 5
   have bT:wr.cell? ⟨m,6,F⟩=E (y K p.f):=(k a).box.cell 6;have bU:wr.cell? ⟨m,7,F⟩=E (C o f.length q):=(k a).box.cell 7;have bV:wr.cell? ⟨m,8,F⟩=E (y K t):=(k a).box.cell 8;have cm:wr.cell? ⟨c.heap.size,0,F⟩=E (y K 0):=(k a).res.cell 0;have cn:wr.cell? ⟨c.heap.size,1,F⟩=E (y K 0):=(k a).res.cell 1;have co:wr.cell? ⟨c.heap.size,2,F⟩=E (y K 0):=(k a).res.cell 2
   have cp:wr.cell? ⟨c.heap.size,3,F⟩=E (y K 0):=(k a).res.cell 3;have cq:wr.cell? ⟨c.heap.size,4,F⟩=E (y K 0):=(k a).res.cell 4;have cr:wr.cell? ⟨c.heap.size,5,F⟩=E (y K 0):=(k a).res.cell 5;have ct:wr.cell? ⟨c.heap.size,6,F⟩=E (y K 0):=(k a).res.cell 6;have cu:wr.cell? ⟨c.heap.size,7,F⟩=E (C F 0 0):=(k a).res.cell 7;have cv:wr.cell? ⟨c.heap.size,8,F⟩=E (y K 0):=(k a).res.cell 8
   have cw:=(k a).res.frozen;have cx:=(k a).res.lt;have bi:=(k a).box.lt;have aO:=i (Hk (x0:=y K p.rows) (x1:=y K p.w) (x2:=y K p.front) (x3:=y K p.I) (x4:=y K p.R) (x5:=y K p.n) (x6:=y K p.f) (x7:=C o f.length q) (x8:=y K t) (k a).res);have Y:=i (show ¬e=c.heap.size/\¬u=c.heap.size from⟨by omega,by omega⟩)
   have a8:=i (show n'.toNat=0\/z=true from by
    cases z with
    |true=>exact .inr rfl
    |false=>exact .inl (by have:=ad;simp at this;omega))
   have aq:=i (λn (d:(C o f.length q).ownBlock=E n)=>(k a).new n d);have bt:¬n'>0\/(n'>0/\z=true):=by
    by_cases L:n'>0
    ·refine .inr ⟨L,?_⟩
     cases z with
     |true=>rfl
     |false=>exact absurd ⟨L,rfl⟩ ad
    ·exact .inl L
   clear ad
   have a7:=i (show ∀H,H=(((((((((wr.setCell ⟨c.heap.size,0,F⟩ (y K p.rows)).setCell ⟨c.heap.size,1,F⟩ (y K p.w)).setCell ⟨c.heap.size,2,F⟩ (y K p.front)).setCell ⟨c.heap.size,3,F⟩ (y K p.I)).setCell ⟨c.heap.size,4,F⟩ (y K p.R)).setCell ⟨c.heap.size,5,F⟩ (y K p.n)).setCell ⟨c.heap.size,6,F⟩ (y K p.f)).setCell ⟨c.heap.size,7,F⟩ (C o f.length q)).setCell ⟨c.heap.size,8,F⟩ (y K t))->∃I x r,g (l #[y K p.rows,y K p.w,y K p.front,y K p.I,y K p.R,y K p.n,y K p.f,C o f.length q,y K t])=g (l (j4 I r).toArray)/\H.ownsRow 0 202 6 r x.length (x.flatMap dm)/\(∀j,r.ownBlock=E j->c.heap.size<=j)/\G (· =e) c H/\cz H e u ar now false (λs=>s=(I,x)) from by
    rintro H rfl
    have ag:=(k aO).1
    refine⟨p.at t,f,C o f.length q,rfl,ag.owns (k a).row (λn d=>by have:=(k aq) n d;omega),λn d=>by have:=(k aq) n d;omega,(k a).mod.trans' ag (λn a3 hl=>by omega),?_⟩
    have ay:=(k a).at_.mod ag (k Y).1 (k Y).2
    refine fg.fin (l:=ae) (t:=z) ⟨ay.rd,λd=>?_,ay.no⟩
    obtain I|I:=k a8
    ·have:=ay.yes d
     rw[I] at this
     exact this
    ·rw[I] at d;simp at d)
   obtain L|⟨L,rfl⟩:=bt
   all_goals
    go_wp2_with fail;obtain⟨ag,d0,d1,d2,d3,d4,d5,d6,d7,d8⟩:=k aO;refine bodyPost_ret (by simp[results,results142,go_sem,d0,d1,d2,d3,d4,d5,d6,d7,d8];try rfl) rfl ?_;exact(k a7) _ rfl
def cO(j:U) (i:Nat) (f:V) (a:o):Prop:=
 if a.kind=7 then ∃c d,f=.iface 196 (l (j4 a.p (C c a.S.length d)).toArray)/\j.ownsRow 0 202 6 (C c a.S.length d) a.S.length (a.S.flatMap dm)/\∀e,(C c a.S.length d).ownBlock=E e->i<=e
 else f=dh a
theorem cO.mod{w w':U} {e:Nat} {j:V} {f:o} {S:Nat->Prop} (a:cO w e j f) (r:G S w w') (hs:∀c,e<=c->¬S c):cO w' e j f:=by
 unfold cO at a ⊢;split
 ·rename_i d;rw[if_pos d] at a;obtain⟨k,m,n,p,i⟩:=a;exact⟨k,m,n,r.owns p (λc q=>hs c (i c q)),i⟩
 ·rename_i d;rw[if_neg d] at a;exact a
theorem cO.low{j:U} {e f:Nat} {i:V} {d:o} (a:cO j e i d) (hl:f<=e):cO j f i d:=by
 unfold cO at a ⊢;split
 ·rename_i c;rw[if_pos c] at a;obtain⟨k,m,n,p,q⟩:=a;exact⟨k,m,n,p,λs r=>bF hl (q s r)⟩
 ·rename_i c;rw[if_neg c] at a;exact a
def j7(w':U) (f e j:Nat) (k:Option ((o×Int)×List Int)) (i:Int) (m:V):Prop:=match k with
 |some ((d,a),c)=>i=d.fl/\cO w' j m d/\aT w' f e c a false
 |none=>∃c a,aT w' f e c a true
theorem j7.mod{w w':U} {i c e:Nat} {f:Option ((o×Int)×List Int)} {j:Int} {q:V} {S:Nat->Prop} (a:j7 w i c e f j q) (d:G S w w') (hs:∀n,e<=n->¬S n) (k:¬S i) (m:¬S c):j7 w' i c e f j q:=by
 obtain _|⟨⟨s,t⟩,p⟩:=f
 ·obtain⟨p,r,a⟩:=a;exact⟨p,r,a.mod d k m⟩
 ·exact⟨a.1,a.2.1.mod d hs,a.2.2.mod d k m⟩
theorem j7.low{m:U} {j e f i:Nat} {c:Option ((o×Int)×List Int)} {d:Int} {k:V} (a:j7 m j e f c d k) (hl:i<=f):j7 m j e i c d k:=by
 obtain _|⟨⟨n,p⟩,q⟩:=c
 ·exact a
 ·exact⟨a.1,a.2.1.low hl,a.2.2⟩
theorem cz.pr{w':U} {k f i:Nat} {d:Option ((o×Int)×List Int)} {now:Int} {c:o} {m:V} (a:cz w' k f d now false (λn=>n=(c,now))) {e:Int} (hf:e=c.fl) (hv:cO w' i m c):j7 w' k f i d e m:=by
 obtain _|⟨n,j⟩:=d
 ·obtain⟨j,a⟩:=a;exact⟨j,now,a⟩
 ·obtain⟨rfl,a⟩:=a;exact⟨hf,hv,a⟩
theorem fg.cont{m:Type} {k:U} {i f:Nat} {now:Int} {d:Option (m×List Int)} {e c':List Int->Option (m×List Int)} {a:List Int} {j:Bool} (c:fg k i f now d e a j) (n:e a=c' a):fg k i f now d c' a j:=⟨c.rd,λo=>(c.yes o).trans n,c.no⟩
structure jn (w wr:U) (rb gb sb xb:Nat) (f:Int):Prop where
 box:X wr xb #[y K f,.nilIface] 125
 res:X wr sb #[y K 0,.nilIface] 125
 mod:G (· =rb) w wr
 ord:rb<sb/\gb<sb/\sb=w.heap.size/\sb<xb
theorem jn.step{k wr m:U} {c j e f:Nat} {i:Int} (a:jn k wr c j e f i) (d:G (· =c) wr m):jn k m c j e f i:=
 ⟨d.has a.box (by have:=a.ord;show ¬f=c;omega),d.has a.res (by have:=a.ord;show ¬e=c;omega),a.mod.trans d,a.ord⟩
theorem jn.still{f wr i:U} {d c e j:Nat} {a:Int} (k:jn f wr d c e j a) (m:G No wr i):jn f i d c e j a:=k.step (m.mono λ_ _ n=>n.elim)
def sJ(d w':U) (a i:Nat) (e:Option ((o×Int)×List Int)) (f:Int) (c:V):Prop:=c.oneCell'=true/\G (· =a) d w'/\j7 w' a i d.heap.size e f c
theorem jn.fin{s e:U} {m j a d:Nat} {f:Int} {v:V} {p:Option ((o×Int)×List Int)} (k:jn s e m j a d f) (t:v.oneCell'=true) (w:j7 e m j (d+1) p f v):(((e.setCell ⟨d,1,F⟩ v).setCell ⟨a,0,F⟩ (y K f)).setCell ⟨a,1,F⟩ v).cell? ⟨a,0,F⟩=E (y K f)/\(((e.setCell ⟨d,1,F⟩ v).setCell ⟨a,0,F⟩ (y K f)).setCell ⟨a,1,F⟩ v).cell? ⟨a,1,F⟩=E v/\
  sJ s (((e.setCell ⟨d,1,F⟩ v).setCell ⟨a,0,F⟩ (y K f)).setCell ⟨a,1,F⟩ v) m j p f v:=by
 obtain⟨x,z,A,B⟩:=k.ord;have r:G (λi=>i=d\/i=a) e (((e.setCell ⟨d,1,F⟩ v).setCell ⟨a,0,F⟩ (y K f)).setCell ⟨a,1,F⟩ v):=(((G.refl _ e).setCell (p:=⟨d,1,F⟩) (.inl (.inl rfl)) _).setCell (p:=⟨a,0,F⟩) (.inl (.inr rfl)) _).setCell (p:=⟨a,1,F⟩) (.inl (.inr rfl)) _;have u:X (e.setCell ⟨d,1,F⟩ v) a #[y K 0,.nilIface] 125:=k.res.dB (a:=⟨d,1,F⟩) (by show a≠d;omega) v;have n:=(u.set 0 (y K f)).set 1 v
 refine⟨n.cell 0,n.cell 1,t,k.mod.trans' r (λi q hl=>by obtain c|c:=q<;>omega),(w.mod r (λi q c=>by obtain c|c:=c<;>omega) (λc=>by obtain c|c:=c<;>omega) (λc=>by obtain c|c:=c<;>omega)).low (by omega)⟩
theorem aT.u'{c:U} {a d:Nat} {f:List Int} {now:Int} {j:Bool} (e:aT c a d f now j):c.cell? ⟨a,1,F⟩=E (y K now):=by
 obtain⟨_,_,i,_⟩:=e.has;exact i.cell 1
theorem aT.oq{c:U} {a e:Nat} {i:List Int} {now:Int} {k:Bool} (f:aT c a e i now k):(∀j,c.frozen? ⟨a,j,F⟩=false)/\a<c.heap.size:=by
 obtain⟨_,_,d,_⟩:=f.has;exact⟨d.frozen,d.lt⟩
theorem aT.uK{d:U} {a f:Nat} {i:List Int} {now e:Int} {k:Bool} (c:aT d a f i now k) (q:Fit e):aT (d.setCell ⟨a,1,F⟩ (y K e)) a f i e k:=by
 obtain⟨m,n,w,x,z⟩:=c.has;have j:G (· =a) d (d.setCell ⟨a,1,F⟩ (y K e)):=(G.refl (λt=>t=a) d).setCell (p:=⟨a,1,F⟩) (.inl rfl) _;refine⟨⟨m,n,w.set 1 _,x,λs A r=>?_⟩,c.ne,aG c.lt j.size,q,c.len,c.qf⟩;obtain⟨u,o,p⟩:=z s A r;exact⟨u,o,qg j p c.ne⟩
theorem aT.va{d:U} {a f:Nat} {i:List Int} {now:Int} {w:Bool} (c:aT d a f i now w):aT (d.setCell ⟨a,2,F⟩ (W true)) a f i now true/\G (· =a) d (d.setCell ⟨a,2,F⟩ (W true)):=by
 obtain⟨j,k,s,t,u⟩:=c.has;have e:G (· =a) d (d.setCell ⟨a,2,F⟩ (W true)):=(G.refl (λq=>q=a) d).setCell (p:=⟨a,2,F⟩) (.inl rfl) _;refine⟨⟨⟨j,k,s.set 2 _,t,λp x o=>?_⟩,c.ne,aG c.lt e.size,c.fit,c.len,c.qf⟩,e⟩;obtain⟨r,m,n⟩:=u p x o;exact⟨r,m,qg e n c.ne⟩
theorem aT.pw{d:U} {a e:Nat} {i:List Int} {now:Int} {c:Bool} (f:aT d a e i now c):d.cell? ⟨a,2,F⟩=E (W c):=by
 obtain⟨_,_,j,_⟩:=f.has;exact j.cell 2
theorem jn.Hn{p d:U} {j f a q:Nat} {c:Int} {T:Option ((o×Int)×List Int)} (i:jn p d j f a q c) (s:j7 d j f (q+1) T c .nilIface):((d.setCell ⟨a,0,F⟩ (y K c)).setCell ⟨a,1,F⟩ .nilIface).cell? ⟨a,0,F⟩=E (y K c)/\((d.setCell ⟨a,0,F⟩ (y K c)).setCell ⟨a,1,F⟩ .nilIface).cell? ⟨a,1,F⟩=E .nilIface/\
  sJ p ((d.setCell ⟨a,0,F⟩ (y K c)).setCell ⟨a,1,F⟩ .nilIface) j f T c .nilIface:=by
 obtain⟨t,u,w,x⟩:=i.ord;have n:G (λe=>e=a) d ((d.setCell ⟨a,0,F⟩ (y K c)).setCell ⟨a,1,F⟩ .nilIface):=((G.refl (λe=>e=a) d).setCell (p:=⟨a,0,F⟩) (.inl rfl) _).setCell (p:=⟨a,1,F⟩) (.inl rfl) _;have k:=(i.res.set 0 (y K c)).set 1 .nilIface;exact⟨k.cell 0,k.cell 1,rfl,i.mod.trans' n (λe r hl=>by omega),(s.mod n (λe r m=>by omega) (λm=>by omega) (λm=>by omega)).low (by omega)⟩
structure zv (w wx:U) (rb gb xb:Nat) (f now n:Int) (T:Option ((o×Int)×List Int)):Prop where
 Ho:jn w wx rb gb w.heap.size xb f
 nJ:j7 wx rb gb (xb+1) T f (.iface 159 (l #[y K (wrap64 (now+n))]))
 now:wx.cell? ⟨rb,1,F⟩=E (y K (wrap64 (now+n)))
 lt:rb<wx.heap.size
theorem Hp{k m:U} {a i u:Nat} {f now:Int} {D:List Int} {L:Bool} {p:Option ((o×Int)×List Int)} (x:fg m a i now p (λj=>aw (bc j 0 0) λt j=>E ((mQ f (wrap64 (now+t)),wrap64 (now+t)),j)) D L) (z:jn k m a i k.heap.size u f) (q:U) (s:G No m q):Calls T 131 #[b (E ⟨a,0,F⟩)] q λr c=>∃d,r=g (y K d)/\c.cell? ⟨a,1,F⟩=E (y K now)/\((∀J,c.frozen? ⟨a,J,F⟩=false)/\a<c.heap.size)/\Hid (∀n,n=wrap64 (now+d)->zv k (c.setCell ⟨a,1,F⟩ (y K n)) a i u f now d p):=by
 have hA:=x.aD s;refine(jF hA.rd).mono ?_;rintro r c ⟨d,rfl,M,hu⟩;obtain⟨H,t2,e, -⟩:=hA.next hu.2
 refine⟨d,rfl,e.rd.u',e.rd.oq,λn A=>?_⟩;subst A;have w:Fit (wrap64 (now+d)):=by unfold wrap64;omega
 have hl:=e.rd.uK w;have I:G (· =a) c (c.setCell ⟨a,1,F⟩ (y K (wrap64 (now+d)))):=(G.refl (λB=>B=a) c).setCell (p:=⟨a,1,F⟩) (.inl rfl) _;refine⟨((z.still s).step hu.1).step I,?_,hl.u',hl.oq.2⟩
 cases t2 with
 |false=>rw[e.yes rfl];exact⟨rfl,rfl,hl⟩
 |true=>rw[e.no rfl];exact⟨H,_,hl⟩
theorem Hq{d:U} {t S:Nat} {ay:List Int} {now:Int} (ak:aT d t S ay now false):Calls T 132 #[b (E ⟨t,0,F⟩)] d λs w'=>∃f ar,s=g (l #[y K f,ar])/\sJ d w' t S (iy now ay) f ar:=by
 have a6:=ak.kz;have a3:=ak.lt;have aO:G No d (d.alloc (v #[y K 0,.nilIface] 125)):=(G.refl _ _).alloc _;have aB:=i (show fg (d.alloc (v #[y K 0,.nilIface] 125)) t S now (iy now ay) (λc=>aw (qv c) λak c=>cM now ak c) ay false from(ak.start (iy now)).aD aO);have aV:=i (X.new d #[y K 0,.nilIface] 125);have aX:=i aO
 have aW:=i (show d.heap.size+1<=(d.alloc (v #[y K 0,.nilIface] 125)).heap.size by simp);clear ak aO;generalize iy now ay=aE at *;go_enter func132,ntmps132;go_wp2_with fail;refine(ui (k aB).rd).mono ?_;rintro s M ⟨p,rfl,bt⟩;obtain⟨a8,aF,a9⟩:=bt;obtain⟨H,t1,aZ,a7⟩:∃H t1,fg M t S now aE (λc=>cM now p c) H t1/\(p≠0->t1=false):=by
  obtain⟨rfl,s,q⟩|⟨c,rfl,q⟩:=a9
  ·exact⟨[],true,⟨q,λs=>by simp at s,λ_=>(k aB).yes rfl⟩,λa1=>absurd s a1⟩
  ·exact⟨c,false,⟨q,λ_=>(k aB).yes rfl,λs=>by simp at s⟩,λ_=>rfl⟩
 have hand:bits .and K p 31=p % 32:=bits_mask K 63 (by decide) rH 5 (by decide) p a8.1 (by omega);have ba:jn d (M.alloc (v #[y K (p % 32),.nilIface] 125)) t S d.heap.size M.heap.size (p % 32):=by
  have bP:=aF.size;have a1:=k aW;refine⟨X.new _ _ _,(aF.has (k aV) (by show ¬d.heap.size=t;omega)).alloc _,((((k aX).mono (S':=(· =t)) λ_ _ p=>p.elim).trans aF).alloc _),a6,a3,rfl,by omega⟩
 have o:=i ba;clear ba;have r:=i (aZ.aD ((G.refl No M).alloc (v #[y K (p % 32),.nilIface] 125)));have I:=i a7;clear a9 aZ aF aB aV aX aW a7;go_upto_region 5 with fail;have bs:M.heap.size+1<=(M.alloc (v #[y K (p % 32),.nilIface] 125)).heap.size:=by simp
 generalize M.alloc (v #[y K (p % 32),.nilIface] 125)=ab at *;generalize M.heap.size=m at *;clear hand a6 a3;obtain⟨f,hf⟩:∃f,p % 32=f:=⟨_,rfl⟩;obtain⟨D,aM⟩:∃D,p / 32=D:=⟨_,rfl⟩;have bL:0<=D/\D<=7:=by omega
 have J:=i aM;have Q:=i hf;have I:=i (show 1<=D->t1=false from λaL=>(k I) (by rintro rfl;omega));rw[hf] at o ⊢;rw[aM];clear aM hf a8;by_cases bw:D=1
 ·subst bw;obtain rfl:=(k I) (by omega);have n:=i ((k r).cont (c':=λc=>aw (kG c) λj c=>E ((ph f j,now),c)) (by show cM now p H=_;unfold cM;rw[k J,k Q];rw[if_pos rfl];try rfl));clear r;go_wp2_with fail;refine(x' (k n).rd).mono ?_;rintro s e ⟨j,rfl,R,x⟩;obtain⟨ap,t2,u, -⟩:=(k n).next x.2
  have B:=i u.fin;have w:=i ((k o).step x.1);unfold lM;clear x u n R o;have a:=k w;have ae:e.cell? ⟨m,0,F⟩=E (y K f):=a.box.cell 0;have N:e.cell? ⟨m,1,F⟩=E .nilIface:=a.box.cell 1;have O:=a.box.frozen;have P:=a.box.lt;have af:e.cell? ⟨d.heap.size,0,F⟩=E (y K 0):=a.res.cell 0;have ag:e.cell? ⟨d.heap.size,1,F⟩=E .nilIface:=a.res.cell 1;have ah:=a.res.frozen;have ai:=a.res.lt
  have ao:¬d.heap.size=m:=by have:=a.ord;omega
  have z:=i (a.fin (v:=.iface 189 (l #[y K j.rows,y K j.w,y K j.front,y K j.I,y K j.R,y K j.n,y K j.f])) rfl ((k B).pr rfl rfl));clear a;go_wp2_with fail;obtain⟨d0,d1,q⟩:=k z;refine bodyPost_ret (by simp[results,results132,go_sem,d0,d1];try rfl) rfl ?_;exact⟨f,_,rfl,q⟩
 by_cases bx:D=2
 ·subst bx;obtain rfl:=(k I) (by omega);have n:=i ((k r).cont (c':=λc=>aw (fL now c) λL c=>E ((qw f L,now),c)) (by show cM now p H=_;unfold cM;rw[k J,k Q];rw[if_neg (by decide)];rw[if_pos rfl];try rfl));clear r;go_wp2_with fail;refine(xz (k n).rd).mono ?_;rintro s e ⟨L,rfl,fs,hs⟩;obtain⟨ap,t2,u, -⟩:=(k n).next hs.2
  have B:=i u.fin;have w:=i ((k o).step hs.1);unfold dm;clear hs u n fs o;have a:=k w;have ae:e.cell? ⟨m,0,F⟩=E (y K f):=a.box.cell 0;have N:e.cell? ⟨m,1,F⟩=E .nilIface:=a.box.cell 1;have O:=a.box.frozen;have P:=a.box.lt;have af:e.cell? ⟨d.heap.size,0,F⟩=E (y K 0):=a.res.cell 0;have ag:e.cell? ⟨d.heap.size,1,F⟩=E .nilIface:=a.res.cell 1;have ah:=a.res.frozen;have ai:=a.res.lt
  have ao:¬d.heap.size=m:=by have:=a.ord;omega
  have z:=i (a.fin (v:=.iface 202 (l #[y K L.row,y K L.P,y K L.st,y K L.pa,y K L.cl,y K L.un])) rfl ((k B).pr rfl rfl));clear a;go_wp2_with fail;obtain⟨d0,d1,q⟩:=k z;refine bodyPost_ret (by simp[results,results132,go_sem,d0,d1];try rfl) rfl ?_;exact⟨f,_,rfl,q⟩
 by_cases bz:D=3
 ·subst bz;obtain rfl:=(k I) (by omega);have n:=i ((k r).cont (c':=λc=>aw (gX c) λj c=>E ((qx f j.1 j.2,now),c)) (by show cM now p H=_;unfold cM;rw[k J,k Q];rw[if_neg (by decide)];rw[if_neg (by decide)];rw[if_pos rfl];try rfl));clear r;go_wp2_with fail;refine(rJ (k n).rd).mono ?_;rintro s e ⟨c,A,rfl,R,x⟩;obtain⟨ap,t2,u, -⟩:=(k n).next x.2
  have B:=i u.fin;have w:=i ((k o).step x.1);clear x u n R o;have a:=k w;have ae:e.cell? ⟨m,0,F⟩=E (y K f):=a.box.cell 0;have N:e.cell? ⟨m,1,F⟩=E .nilIface:=a.box.cell 1;have O:=a.box.frozen;have P:=a.box.lt;have af:e.cell? ⟨d.heap.size,0,F⟩=E (y K 0):=a.res.cell 0;have ag:e.cell? ⟨d.heap.size,1,F⟩=E .nilIface:=a.res.cell 1;have ah:=a.res.frozen;have ai:=a.res.lt
  have ao:¬d.heap.size=m:=by have:=a.ord;omega
  have z:=i (a.fin (v:=.iface 214 (l #[y K c,y K A])) rfl ((k B).pr rfl rfl));clear a;go_wp2_with fail;obtain⟨d0,d1,q⟩:=k z;refine bodyPost_ret (by simp[results,results132,go_sem,d0,d1];try rfl) rfl ?_;exact⟨f,_,rfl,q⟩
 by_cases bA:D=4
 ·subst bA;obtain rfl:=(k I) (by omega);have n:=i ((k r).cont (c':=λc=>aw (gX c) λj c=>aw (gX c) λq c=>E ((qy f j.1 j.2 q.1 q.2,now),c)) (by show cM now p H=_;unfold cM;rw[k J,k Q];rw[if_neg (by decide)];rw[if_neg (by decide)];rw[if_neg (by decide)];rw[if_pos rfl];try rfl));clear r;go_wp2_with fail;refine(rJ (k n).rd).mono ?_;rintro s e ⟨c,A,rfl,R,x⟩;obtain⟨ap,t2,u, -⟩:=(k n).next x.2
  have aQ:G No e (e.alloc (v #[y K c,y K A] 36)):=(G.refl _ _).alloc _;have aS:=i (u.aD aQ);have av:=i (((k o).step x.1).still aQ);have au:=i (X.new e #[y K c,y K A] 36)
  have aY:=i (show ¬e.heap.size=t/\¬e.heap.size=m from by
   have aL:=(k o).ord
   have bn:=x.1.size
   have a2:=(k o).box.lt
   exact⟨by omega,by omega⟩)
  clear x u n R o aQ;go_upto_region 13 with fail;generalize e.alloc (v #[y K c,y K A] 36)=ad at *;generalize e.heap.size=aA at *;have bS:ad.cell? ⟨aA,0,F⟩=E (y K c):=(k au).cell 0;have bU:ad.cell? ⟨aA,1,F⟩=E (y K A):=(k au).cell 1;have bW:=(k au).lt;have N:ad.cell? ⟨m,1,F⟩=E .nilIface:=(k av).box.cell 1;have O:=(k av).box.frozen;have P:=(k av).box.lt;have bQ:¬m=aA:=λs=>(k aY).2 s.symm
  have aU:=i ((k aS).aD (G.refl No ad).drew);have bl:=i ((k av).still (G.refl No ad).drew);have bd:=i (k au).drew;have bi:=i (show Calls T 140 #[b (E ⟨t,0,F⟩)] ad.drew λs w'=>∃ar,s=g ar/\∃aq aj,ar=l #[y K aq,y K aj]/\de ad.drew w' t S (gX ap) now t2 (λp=>p=(aq,aj)) from(rJ (k aU).rd).mono (λs w' ⟨aq,aj,aL,bn,a2⟩=>⟨_,aL,aq,aj,rfl,a2⟩));clear aS av au
  go_region_law (refine lQ rfl 140 _ _ rfl #[b (E ⟨t,0,F⟩)] (by simp[Z,aP]) (λaI=>by kernel_rfl) _ (k bi) ?_;intro b2 aa am;obtain⟨aq,aj,rfl,am⟩:=am;obtain⟨bR,t4,a0, -⟩:=(k aU).next am.2;have B:=i a0.fin;have w:=i ((k bl).step am.1);have aD:=am.1.has (k bd) (k aY).1;have bT:aa.cell? ⟨aA,0,F⟩=E (y K c):=aD.cell 0;have bV:aa.cell? ⟨aA,1,F⟩=E (y K A):=aD.cell 1;have bY:=aD.lt;have b4:aa.cell? ⟨m,1,F⟩=E .nilIface:=(k w).box.cell 1;have b5:=(k w).box.frozen;have b6:=(k w).box.lt;clear am a0 aD)
  all_goals
   have a:=k w;have ae:aa.cell? ⟨m,0,F⟩=E (y K f):=a.box.cell 0;have N:aa.cell? ⟨m,1,F⟩=E .nilIface:=a.box.cell 1;have O:=a.box.frozen;have P:=a.box.lt;have af:aa.cell? ⟨d.heap.size,0,F⟩=E (y K 0):=a.res.cell 0;have ag:aa.cell? ⟨d.heap.size,1,F⟩=E .nilIface:=a.res.cell 1;have ah:=a.res.frozen;have ai:=a.res.lt;have ao:¬d.heap.size=m:=by have:=a.ord;omega
   have z:=i (a.fin (v:=.iface 216 (l #[y K c,y K A,y K aq,y K aj])) rfl ((k B).pr rfl rfl));clear a;go_wp2_with fail;obtain⟨d0,d1,q⟩:=k z;refine bodyPost_ret (by simp[results,results132,go_sem,d0,d1];try rfl) rfl ?_;exact⟨f,_,rfl,q⟩
 by_cases bB:D=5
 ·subst bB;obtain rfl:=(k I) (by omega);have n:=i ((k r).cont (c':=λc=>aw (mv c) λj c=>E ((qA f j.1 j.2.1 j.2.2,now),c)) (by show cM now p H=_;unfold cM;rw[k J,k Q];rw[if_neg (by decide)];rw[if_neg (by decide)];rw[if_neg (by decide)];rw[if_neg (by decide)];rw[if_pos rfl];try rfl));clear r;go_wp2_with fail;refine(xy (k n).rd).mono ?_;rintro s e ⟨c,A,bm,rfl,R,x⟩;obtain⟨ap,t2,u, -⟩:=(k n).next x.2
  have B:=i u.fin;have w:=i ((k o).step x.1);clear x u n R o;have a:=k w;have ae:e.cell? ⟨m,0,F⟩=E (y K f):=a.box.cell 0;have N:e.cell? ⟨m,1,F⟩=E .nilIface:=a.box.cell 1;have O:=a.box.frozen;have P:=a.box.lt;have af:e.cell? ⟨d.heap.size,0,F⟩=E (y K 0):=a.res.cell 0;have ag:e.cell? ⟨d.heap.size,1,F⟩=E .nilIface:=a.res.cell 1;have ah:=a.res.frozen;have ai:=a.res.lt
  have ao:¬d.heap.size=m:=by have:=a.ord;omega
  have z:=i (a.fin (v:=.iface 212 (l #[y K c,y K A,y K bm])) rfl ((k B).pr rfl rfl));clear a;go_wp2_with fail;obtain⟨d0,d1,q⟩:=k z;refine bodyPost_ret (by simp[results,results132,go_sem,d0,d1];try rfl) rfl ?_;exact⟨f,_,rfl,q⟩
 by_cases bC:D=6
 ·subst bC;obtain rfl:=(k I) (by omega);have n:=i ((k r).cont (c':=λc=>aw (bc c 0 0) λY c=>E ((mQ f (wrap64 (now+Y)),wrap64 (now+Y)),c)) (by show cM now p H=_;unfold cM;rw[k J,k Q];rw[if_neg (by decide)];rw[if_neg (by decide)];rw[if_neg (by decide)];rw[if_neg (by decide)];rw[if_neg (by decide)];rw[if_pos rfl];try rfl));clear r;have bk:=i (λ(aI:U) (bp:G No ab aI)=>Hp (k n) (k o) aI bp)
  have rn:ab.cell? ⟨t,1,F⟩=E (y K now):=(k n).rd.u';have bb:=(k n).rd.oq;clear n;go_upto_region 18 with fail;go_cut [] from 66 to 74 (λbG=>Hid (∃Y,zv d bG t S m f now Y aE))
  case first=>
   go_region_with (go_at_call 131;refine((k bk) _ ?_).mono ?_;(first|exact G.refl _ _|exact(G.refl _ _).drew|exact(G.refl _ _).drewN _|exact((G.refl _ _).drewN _).drew);rintro s b3 ⟨bE,rfl,bM,⟨bH,bJ⟩,bo⟩)
   all_goals (go_wp2_with fail;go_meet;exact⟨bE,(k bo) _ (by rw[jB];unfold wrap64;rfl)⟩)
  case rest=>
   obtain⟨Y,ax⟩:=k hcut;have w:=i ax.Ho;have B:=i ax.nJ;have b1:wc.cell? ⟨t,1,F⟩=E (y K (wrap64 (now+Y))):=ax.now;have bZ:=ax.lt;clear hcut ax o rn bb;have a:=k w;have ae:wc.cell? ⟨m,0,F⟩=E (y K f):=a.box.cell 0;have N:wc.cell? ⟨m,1,F⟩=E .nilIface:=a.box.cell 1;have O:=a.box.frozen;have P:=a.box.lt;have af:wc.cell? ⟨d.heap.size,0,F⟩=E (y K 0):=a.res.cell 0
   have ag:wc.cell? ⟨d.heap.size,1,F⟩=E .nilIface:=a.res.cell 1;have ah:=a.res.frozen;have ai:=a.res.lt;have ao:¬d.heap.size=m:=by have:=a.ord;omega
   have z:=i (a.fin (v:=.iface 159 (l #[y K (wrap64 (now+Y))])) rfl (k B));clear a;go_wp2_with fail;obtain⟨d0,d1,q⟩:=k z;refine bodyPost_ret (by simp[results,results132,go_sem,d0,d1];try rfl) rfl ?_;exact⟨f,_,rfl,q⟩
 by_cases bD:D=7
 ·subst bD;obtain rfl:=(k I) (by omega);have n:=i ((k r).cont (c':=λc=>aw (lS now c) λp c=>E ((mR f p.1 p.2,now),c)) (by show cM now p H=_;unfold cM;rw[k J,k Q];rw[if_neg (by decide)];rw[if_neg (by decide)];rw[if_neg (by decide)];rw[if_neg (by decide)];rw[if_neg (by decide)];rw[if_neg (by decide)];rw[if_pos rfl];try rfl));clear r;go_wp2_with fail;refine(Hm (k n).rd).mono ?_
  rintro s e ⟨j,aR,ar,rfl,aN,hv,a4,a5⟩;obtain⟨ap,t2,u, -⟩:=(k n).next a5
  have B:=i u.fin;have w:=i ((k o).step a4);obtain⟨aK,A,rfl⟩:=aC aN;have bf:=i (show cO e (m+1) (.iface 196 (l (j4 j (C aK aR.length A)).toArray)) (mR f j aR) from⟨aK,A,rfl,aN,λbu bq=>bF bs (hv bu bq)⟩);clear a5 u n aN hv a4 o;unfold j4 lM at *;have a:=k w;have ae:e.cell? ⟨m,0,F⟩=E (y K f):=a.box.cell 0;have N:e.cell? ⟨m,1,F⟩=E .nilIface:=a.box.cell 1;have O:=a.box.frozen;have P:=a.box.lt
  have af:e.cell? ⟨d.heap.size,0,F⟩=E (y K 0):=a.res.cell 0;have ag:e.cell? ⟨d.heap.size,1,F⟩=E .nilIface:=a.res.cell 1;have ah:=a.res.frozen;have ai:=a.res.lt;have ao:¬d.heap.size=m:=by have:=a.ord;omega
  have z:=i (a.fin (v:=.iface 196 (l #[y K j.rows,y K j.w,y K j.front,y K j.I,y K j.R,y K j.n,y K j.f,C aK aR.length A,y K j.ep])) rfl ((k B).pr rfl (k bf)));clear a;go_wp2_with fail;obtain⟨d0,d1,q⟩:=k z;refine bodyPost_ret (by simp[results,results132,go_sem,d0,d1];try rfl) rfl ?_;exact⟨f,_,rfl,q⟩
 have bv:D=0:=by omega
 subst bv
 have bh:=i (show aE=F from by
  cases t1 with
  |true=>exact(k r).no rfl
  |false=>
   rw[(k r).yes rfl]
   show cM now p H=F
   unfold cM
   rw[k J]
   rfl)
 have rn:ab.cell? ⟨t,2,F⟩=E (W t1):=(k r).rd.pw;have bb:=(k r).rd.oq;have aH:=i (k r).rd.va;have a:=(k o).step (k aH).2;have af:ab.cell? ⟨d.heap.size,0,F⟩=E (y K 0):=(k o).res.cell 0;have ag:ab.cell? ⟨d.heap.size,1,F⟩=E .nilIface:=(k o).res.cell 1;have ah:=(k o).res.frozen;have ai:=(k o).res.lt;have ae:ab.cell? ⟨m,0,F⟩=E (y K f):=(k o).box.cell 0
 have N:ab.cell? ⟨m,1,F⟩=E .nilIface:=(k o).box.cell 1;have O:=(k o).box.frozen;have P:=(k o).box.lt;have bN:¬d.heap.size=t:=by have:=a.ord;omega
 have bO:¬m=t:=by have:=a.ord;omega
 have z:=i (a.Hn (T:=aE) (by rw[k bh];exact⟨H,now,(k aH).1⟩));clear a r o aH;go_wp2_with fail;obtain⟨d0,d1,q⟩:=k z;refine bodyPost_ret (by simp[results,results132,go_sem,d0,d1];try rfl) rfl ?_;exact⟨f,_,rfl,q⟩
end Go.Proofs.YthhibagcpjeihaaGreat
