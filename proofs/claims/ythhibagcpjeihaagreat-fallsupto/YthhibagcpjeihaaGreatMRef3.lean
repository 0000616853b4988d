import Derived.Test.YthhibagcpjeihaaGreatMCellsToEnc
open Go.Proofs.Tryz
open Go.Value renaming int->y,pointer->b,slice->C
open Go.IntKind renaming i64->K
open Option renaming none->F,some->E
open Go renaming World->U,Value->V
open Go.Proofs.Tryz renaming prog->T
open Go.Ending renaming returned->g
open Nat renaming not_lt_zero->dZ
open Go.World renaming block_lt_of_cell?->jA
open List renaming getElem_of_mem->iP,findIdx?_eq_none_iff->oR
namespace Go.Proofs.YthhibagcpjeihaaGreat
open Go.RowKit
open M
set_option linter.unusedVariables false
set_option linter.unusedSimpArgs false
set_option maxRecDepth 100000
set_option maxHeartbeats 2000000
structure e where
 f:aM
 g:Nat
 cap:Nat
def aV(a:e):Array V:=
 #[y K a.f.num,y K a.f.p.rows,y K a.f.p.w,y K a.f.p.front,y K a.f.p.I,y K a.f.p.R,y K a.f.p.n,y K a.f.p.f,
  C (E ⟨a.g,0,F⟩) a.f.S.length a.cap,y K a.f.ep]
structure dn (w:U) (gf cap:Nat) (xs:List e):Prop where
 cur:∃cur,X w gf cur 134/\cur.size=cap* 10/\∀i (h:i<xs.length) j,j<10->cur[i* 10+j]? =(aV xs[i])[j]?
 le:xs.length<=cap
 max:cap<=maxLen
theorem dn.cell{c:U} {gf cap:Nat} {xs:List e} (d:dn c gf cap xs) (a:Nat) (hi:a<xs.length) (j:Nat) (k:j<10):c.cell? ⟨gf,a* 10+j,F⟩=(aV xs[a])[j]? :=by
 obtain⟨m,f,n,i⟩:=d.cur;rw[f.cell];exact i a hi j k
theorem dn.lt{a:U} {gf cap:Nat} {xs:List e} (c:dn a gf cap xs):gf<a.heap.size:=by
 obtain⟨f,d,_⟩:=c.cur;exact d.lt
theorem dn.mod{w w':U} {gf cap:Nat} {xs:List e} {S:Nat->Prop} (a:dn w gf cap xs) (k:G S w w') (j:¬S gf):dn w' gf cap xs:=by
 obtain⟨c,d,f,i⟩:=a.cur;exact⟨⟨c,k.has d j,f,i⟩,a.le,a.max⟩
def xH(d:U) (c:V) (xs:List e):Prop:=
 (xs=[]/\c=C F 0 0)\/∃a cap,c=C (E ⟨a,0,F⟩) xs.length cap/\dn d a cap xs
def cT(xs:List e) (c:Int):Int:=match xs.findIdx? (λd=>d.f.num==c) with|some a=>(a:Int)|none=> -1
theorem D8{xs:List e} {c:Int} (a:Nat) (hi:a<xs.length) (f:xs[a].f.num=c) (hb:∀j,∀d:j<xs.length,j<a->xs[j].f.num≠c):cT xs c=a:=by
 unfold cT;have:xs.findIdx? (λi=>i.f.num==c)=E a:=by
  rw[List.findIdx?_eq_some_iff_getElem];exact⟨hi,by simpa using f,λj d=>by simpa using hb j (by omega) d⟩
 rw[this]
theorem D9{xs:List e} {a:Int} (f:∀j,∀c:j<xs.length,xs[j].f.num≠a):cT xs a= -1:=by
 unfold cT;have:xs.findIdx? (λd=>d.f.num==a)=F:=by
  rw[oR];intro d i;obtain⟨j,c,rfl⟩:=iP i;simpa using f j c
 rw[this]
theorem Ea(w:Nat) (xs:List e) (u:V) (m:Int) (j:U) (hv:j.cell? ⟨w,0,F⟩=E u) (D:xH j u xs) (hl:xs.length<=1000):Calls T 52 #[b (E ⟨w,0,F⟩),y K m] j λq w'=>q=g (y K (cT xs m))/\w'=j:=by
 obtain⟨rfl,rfl⟩|⟨z,cap,rfl,t⟩:=D
 ·go_enter func52,ntmps52;go_wp2_with fail;go_loopw [5] (λn wr=>n=y K 0/\wr=j) (λ_ _=>0)
  case atStart=>exact⟨rfl,rfl⟩
  case round=>
   obtain⟨rfl,rfl⟩:=hrel;go_wp2;go_ret;exact⟨rfl,rfl⟩
 ·have o:=i t;clear t;go_enter func52,ntmps52;go_wp2_with fail;go_loopw [5] (λn wr=>∃a:Nat,n=y K a/\a<=xs.length/\Hid (∀c,∀f:c<xs.length,c<a->xs[c].f.num≠m)/\wr=j) (λn _=>xs.length - (intOf n).toNat)
  case atStart=>exact⟨0,rfl,by omega,λc f A=>absurd A (dZ _),rfl⟩
  case round=>
   obtain⟨a,rfl,hi,d,rfl⟩:=hrel;by_cases r:a<xs.length
   ·have B:(a:Int)<(xs.length:Int):=by omega
    have H:(0:Int)<=a:=by omega
    have G:wr.cell? ⟨z,a* 10,F⟩=E (y K xs[a].f.num):=(k o).cell a r 0 (by omega);have I:K.wrap ((a:Int)+1)=((a+1:Nat):Int):=by rw[aB _ (by omega) (by omega)];rfl
    by_cases s:xs[a].f.num=m
    ·have p:=i (D8 a r s (k d));clear o d;go_wp2;go_ret;exact⟨by rw[k p];rfl,rfl⟩
    ·have x:=i (show ∀c,∀f:c<xs.length,c<a+1->xs[c].f.num≠m from λc f J=>by
      by_cases q:c=a
      ·subst q;exact s
      ·exact(k d) c f (by omega))
     clear o d;go_wp2;exact⟨⟨a+1,rfl,by omega,x,trivial⟩,by simp[intOf];omega⟩
   ·have B:¬(a:Int)<(xs.length:Int):=by omega
    have p:=i (D9 (λc f=>(k d) c f (by omega)));clear o d;go_wp2;go_ret;exact⟨by rw[k p];rfl,rfl⟩
def jG(p:O) (a:List B):Nat->Int
 |0=>cY a
 |c+1=>nE p a c
theorem Eb(p:O) (c:List B) (a:Nat):jG p c (a+1)=min (jG p c a) (p.aZ a - dN (a:Int) c):=by
 cases a with
 |zero=>rfl
 |succ a=>rfl
theorem xI(gf o u cap:Nat) (p:O) (c:List B) (d:Nat) (hc:d<4) (e:U) (A:aE e u cap c) (hl:c.length<=1000) (hf:e.cell? ⟨gf,o+8,F⟩=E (C (E ⟨u,0,F⟩) c.length cap)) (aj:0<=p.I/\p.I<=200/\0<=p.R/\p.R<=200/\0<=p.n/\p.n<=200/\0<=p.f/\p.f<=200) (L:∀j,j<4->e.cell? ⟨gf,o+4+j,F⟩=E (y K (p.aZ j))):
  Calls T 61 #[b (E ⟨gf,o,F⟩),y K d] e λn w'=>n=g (y K (M.leftOf p c d))/\G No e w':=by
 have J:=i (rA gf o u cap c e A hl hf)
 have x:=i λq (w:G No e q) (j:Int)=>CG gf o u cap c j q (A.mod w (λr=>r)) hl (by
  unfold World.cell? at hf ⊢
  rw[w.block gf (jA e _ hf) (λr=>r)]
  exact hf)
 have s:=i λq (w:G No e q) (j:Nat) (R:j<4)=>(show q.cell? ⟨gf,o+4+j,F⟩=E (y K (p.aZ j)) by
  have H:=L j R
  have S:=jA e _ H
  unfold World.cell? at H ⊢
  rw[w.block gf S (λr=>r)]
  exact H)
 clear A hf L;go_enter func61,ntmps61;go_wp2_with fail;refine(k J).mono ?_;rintro n Y ⟨rfl,rfl⟩;clear J;go_wp2_with fail;go_loopw [5,6] (λX I wr=>∃a:Nat,X=y K (jG p c a)/\I=y K a/\a<=d+1/\Hid (G No Y wr)) (λ_ I _=>d+1 - (intOf I).toNat)
 case atStart=>exact⟨0,rfl,rfl,by omega,G.refl _ _⟩
 case round=>
  obtain⟨a,rfl,rfl,hi,f⟩:=hrel;by_cases af:a<=d
  ·have Q:(a:Int)<=(d:Int):=by omega
   have ae:(0:Int)<=a:=by omega
   have ah:(a:Int)<4:=by omega
   have ai:K.wrap ((a:Int)+1)=((a+1:Nat):Int):=by rw[aB _ (by omega) (by omega)];rfl
   have ab:=(k s) _ (k f) a (by omega);have hb:=xe (a:Int) c;have N:0<=p.aZ a/\p.aZ a<=200:=by
    have:a=0\/a=1\/a=2\/a=3:=by omega
    obtain rfl|rfl|rfl|rfl:=this<;>simp only[O.aZ]<;>omega
   have hv:K.wrap (p.aZ a - (dN (a:Int) c:Nat))=p.aZ a - (dN (a:Int) c:Nat):=aB _ (by omega) (by omega);have t:=i (Eb p c a);by_cases ag:p.aZ a - (dN (a:Int) c:Nat)<jG p c a
   ·have m:=i (show p.aZ a - (dN (a:Int) c:Nat)=jG p c (a+1) by rw[k t];omega);clear t hb N;go_wp2_with fail;go_region_with (go_at_call 91;refine((k x) _ (k f).drew a).mono ?_;rintro n aa ⟨rfl,D⟩;have P:=(k s) _ ((k f).drew.trans D) a (by omega))
    all_goals go_wp2
    all_goals exact⟨⟨a+1,by rw[k m],rfl,by omega,(k f).drew.trans (by assumption)⟩,by simp[intOf];omega⟩
   ·have m:=i (show jG p c a=jG p c (a+1) by rw[k t];omega);clear t hb N;go_wp2_with fail;go_region_with (go_at_call 91;refine((k x) _ (k f).drew a).mono ?_;rintro n aa ⟨rfl,D⟩;have P:=(k s) _ ((k f).drew.trans D) a (by omega))
    all_goals go_wp2
    all_goals exact⟨⟨a+1,by rw[k m],rfl,by omega,(k f).drew.trans (by assumption)⟩,by simp[intOf];omega⟩
  ·have Q:¬(a:Int)<=(d:Int):=by omega
   have n:a=d+1:=by omega
   subst n;have m:=i (show M.leftOf p c d=max (jG p c (d+1)) 0 from rfl);clear x s;by_cases ad:jG p c (d+1)<0
   ·have z:=i (show max (jG p c (d+1)) 0=0 by omega);go_wp2;go_ret;exact⟨by rw[k m,k z];rfl,k f⟩
   ·have z:=i (show max (jG p c (d+1)) 0=jG p c (d+1) by omega);go_wp2;go_ret;exact⟨by rw[k m,k z];rfl,k f⟩
end Go.Proofs.YthhibagcpjeihaaGreat
