import Derived.Test.YthhibagcpjeihaaGreatMPg5ToBook6S
import Derived.Test.YthhibagcpjeihaaGreatMRef14ToRef18
import Derived.Test.YthhibagcpjeihaaGreatMFMapToBook4S
import Derived.Test.YthhibagcpjeihaaGreatMPTape2ToBulkL
import Derived.Deep.CutBlock
open Go.Proofs.Tryz
open Go.Value renaming int->y,pointer->b,slice->C,bool->W,agg->l,tuple->h,ownBlock->az
open Go.IntKind renaming i64->K
open Option renaming none->F,some->E
open Go renaming World->U,Value->V
open Go.Proofs.Tryz renaming prog->T
open Go.Ending renaming returned->g
open Go.Obj renaming cells->v
open Array renaming getElem?_eq_getElem->bX
open List renaming getElem?_eq_getElem->cK
open Go.World renaming size_alloc->bj,ownsRow_nil->cJ
open Nat renaming zero_add->bg,not_lt_zero->dZ
open Go.Addr renaming add_mid->dx
namespace Go.Proofs.YthhibagcpjeihaaGreat
open Go.RowKit
open M
set_option linter.unusedVariables false
set_option linter.unusedSimpArgs false
set_option maxRecDepth 100000
set_option maxHeartbeats 2000000
theorem Kc{p:O} {e a c:Int} (d:(bY p e a c).2≠0):(bY p e a c).1=0:=by
 unfold bY at *;split
 ·rfl
 ·split
  ·rfl
  ·split
   ·rfl
   ·rename_i f i j;rw[if_neg f,if_neg i,if_neg j] at d;exact absurd rfl d
theorem Kd{p:O} {e:List B} (i:L p e) (c a d:Int):0<=(bY p c a d).1/\(bY p c a d).1.toNat<=e.length:=by
 unfold bY;split
 ·simp
 ·split
  ·simp
  ·split
   ·simp
   ·rename_i j k f;have:=aM.wf.gV i (r:=c) (c:=a) (by simpa using f);simp only at this ⊢;omega
theorem Ke{j:U} {f w s:Nat} {p:O} {n:List B} {es:List t} (k:bo j f p n w es s) (q:L p n) (d a c size:Int):Calls T 92 #[b (E ⟨f,0,F⟩),l #[y K d,y K a,y K c],y K size] j λo w'=>Told j w' o (eP p n d a c size):=by
 unfold eP;by_cases hs:size<1\/size>30
 ·rw[if_pos hs];exact Ie f d a c size hs j
 rw[if_neg hs];have u:∀e,G No j e->Calls T 114 #[b (E ⟨f,0,F⟩),l #[y K d,y K a,y K c]] e λo w'=>o=g (h #[y K (bY p d a c).1,y K (bY p d a c).2])/\G No e w':=
  λe i=>Ez (⟨i.has k.has (λr=>r),i.map k.map (λr=>r),k.ok,k.rel⟩:bo e f p n w es s) q d a c
 by_cases m:(bY p d a c).2≠0
 ·rw[if_pos m];refine Ig f d a c size _ (by omega) m j (λe i=>?_);have:=u e i;rw[Kc m] at this;exact this
 rw[if_neg m];obtain⟨x,z⟩:=Kd q d a c;have A:(bY p d a c).2=0:=by omega
 refine Jp k q d a c size (by omega) (bY p d a c).1.toNat z (λe i=>?_) _ rfl;have:=u e i;rw[A] at this;rw[Int.toNat_of_nonneg x];exact this
def iY(f:Nat->Option (O×List B)) (a i d e size:Int):fG:=
 if ¬(1<=a/\a<=20) then⟨[],0,0,0,false,2⟩
 else match f a.toNat with
  |none=>⟨[],0,0,0,false,2⟩
  |some c=>eP c.1 c.2 i d e size
theorem AP(j:Nat) (n o f c size:Int) (a:U) (hF:∀d,G No a d->Calls T 59 #[b (E ⟨j,0,F⟩),y K n] d λc w'=>c=g (b F)/\w'=d):Calls T 63 #[b (E ⟨j,0,F⟩),y K n,l #[y K o,y K f,y K c],y K size] a λq w'=>Told a w' q ⟨[],0,0,0,false,2⟩:=by
 have p:=i hF;have m:G No a ((a.alloc (v #[y K o,y K f,y K c] 43)).alloc (v #[C F 0 0,y K 0,y K 0,y K 0,W false] 146)):=((G.refl _ a).alloc _).alloc _;have e:=i m;clear hF m;go_enter func63,ntmps63;go_wp2_with fail;refine((k p) _ (k e)).mono ?_;rintro s u ⟨rfl,rfl⟩;go_wp2;refine bodyPost_ret (by simp[results,results63,go_sem];try rfl) rfl ?_
 exact⟨⟨C F 0 0,rfl,cJ _ _ _ _,λt r=>by simp[az] at r⟩,k e⟩
theorem Kf(J D:Nat) (M q p f size:Int) (R:fG) (a:U) (hF:∀e,G No a e->Calls T 59 #[b (E ⟨J,0,F⟩),y K M] e λf w'=>f=g (b (E ⟨D,0,F⟩))/\w'=e) (H:∀e,G No a e->Calls T 92 #[b (E ⟨D,0,F⟩),l #[y K q,y K p,y K f],y K size] e λr w'=>Told e w' r R):Calls T 63 #[b (E ⟨J,0,F⟩),y K M,l #[y K q,y K p,y K f],y K size] a λr w'=>Told a w' r R:=by
 have x:=i hF;have A:=i H;have L:G No a ((a.alloc (v #[y K q,y K p,y K f] 43)).alloc (v #[C F 0 0,y K 0,y K 0,y K 0,W false] 146)):=((G.refl _ a).alloc _).alloc _;have o:=i L;have u:=X.new (a.alloc (v #[y K q,y K p,y K f] 43)) #[C F 0 0,y K 0,y K 0,y K 0,W false] 146;rw[bj] at u;have B:=i u;clear hF H L u;go_enter func63,ntmps63;go_wp2_with fail;refine((k x) _ (k o)).mono ?_;rintro Y ae ⟨rfl,rfl⟩
 go_wp2_with fail;refine((k A) _ (k o)).mono ?_;rintro aa j ⟨⟨ad,rfl,s,I⟩,t⟩;obtain⟨Q,S,rfl⟩:=aC s;have c:=t.has (k B) (λP=>P);have O:=i ((k o).trans t);have N:=i s;have z:=i (λd m=>(show a.heap.size+2<=d from by have:=I d m;simpa using this));have d0:j.cell? ⟨a.heap.size+1,0,F⟩=E (C F 0 0):=c.cell 0;have d1:j.cell? ⟨a.heap.size+1,1,F⟩=E (y K 0):=c.cell 1
 have d2:j.cell? ⟨a.heap.size+1,2,F⟩=E (y K 0):=c.cell 2;have d3:j.cell? ⟨a.heap.size+1,3,F⟩=E (y K 0):=c.cell 3;have d4:j.cell? ⟨a.heap.size+1,4,F⟩=E (W false):=c.cell 4;have f1:=c.frozen;have ab:=c.lt;clear t c s I x A o B;go_wp2;refine bodyPost_ret (by simp[results,results63,go_sem,d0,d1,d2,d3,d4];try rfl) rfl ?_
 have n:∀w,No (⟨a.heap.size+1,w,F⟩:Addr).block\/a.heap.size<=(⟨a.heap.size+1,w,F⟩:Addr).block:=λw=>.inr (by simp);refine⟨⟨_,rfl,?_,λd m=>by have:=(k z) d m;omega⟩,(((((k O).setCell (n 0) _).setCell (n 1) _).setCell (n 2) _).setCell (n 3) _).setCell (n 4) _⟩;exact((((G.refl (λd=>d=a.heap.size+1) j).at 0 _).at 1 _).at 2 _|>.at 3 _|>.at 4 _).owns (k N) (λd m f=>by have:=(k z) d m;omega)
theorem AQ{f:U} {A:Nat->Nat} {e:Nat} {now:Int} {m:Nat->Option (O×List B)} (k:oh f A e now m) (a j i c size:Int):Calls T 63 #[b (E ⟨e,0,F⟩),y K a,l #[y K j,y K i,y K c],y K size] f λs w'=>Told f w' s (iY m a j i c size):=by
 obtain⟨pt,k⟩:=k;unfold iY;by_cases o:1<=a/\a<=20
 case neg=>
  rw[if_pos o];exact AP e a j i c size f (λd _=>xN e a o d)
 rw[if_neg (by simpa using o)];have u:((a.toNat:Nat):Int)=a:=by omega
 have hF:∀d,G No f d->Calls T 59 #[b (E ⟨e,0,F⟩),y K a] d λc w'=>c=g (aL (pt a.toNat))/\w'=d:=λd n=>by
  have:=uA (k.mod n (λ_ _ p=>p)) a.toNat (by omega);rw[u] at this;exact this
 cases q:m a.toNat with
 |none=>
  rw[k.gone _ (by omega) q] at hF;exact AP e a j i c size f hF
 |some p=>
  obtain⟨D,z⟩:=p;obtain⟨r,w,x,t⟩:=k.here _ D z (by omega) q;rw[w] at hF;simp only
  exact Kf e r a j i c size _ f hF (λd n=>by
   obtain⟨N,es,M,H,I,J,L,_⟩:=t.aD n
   exact Ke ⟨H,I,J,L⟩ x j i c size)
set_option maxHeartbeats 8000000
def iG:Array V:=#[C F 0 0,y K 0,y K 0,y K 0,W false]
theorem AR{a:U} {w:Nat->Nat} {r:Nat} {x:V} {xs:List e} {now:Int} (p:aF a w r x xs now) (n j f c size:Int) (q:cT xs n= -1):Calls T 64 #[b (E ⟨r,0,F⟩),y K n,l #[y K j,y K f,y K c],y K size] a λt w'=>Told a w' t ⟨[],0,0,0,false,2⟩:=by
 have m:G No a ((a.alloc (v #[y K j,y K f,y K c] 43)).alloc (v #[C F 0 0,y K 0,y K 0,y K 0,W false] 146)):=((G.refl _ a).alloc _).alloc _;have d:=(p.mod m (λ_ _ z=>z)).find n;rw[q] at d;have d:=i d;have o:=X.new (a.alloc (v #[y K j,y K f,y K c] 43)) #[C F 0 0,y K 0,y K 0,y K 0,W false] 146;rw[bj] at o
 have s:=i (show Told a (((a.alloc (v #[y K j,y K f,y K c] 43)).alloc (v #[C F 0 0,y K 0,y K 0,y K 0,W false] 146))) (g (h #[l #[C F 0 0,y K 0,y K 0,y K 0,W false],y K 2])) ⟨[],0,0,0,false,2⟩ from
  ⟨⟨C F 0 0,rfl,cJ _ _ _ _,λA u=>by simp[az] at u⟩,m⟩)
 clear p q m o;go_enter func64,ntmps64;go_wp2_with fail;refine(k d).mono ?_;rintro c B ⟨rfl,rfl⟩;go_wp2;refine bodyPost_ret (by simp[results,results64,go_sem];try rfl) rfl ?_;exact k s
def AU(a:Nat):V:=C (E ⟨a,0,F⟩) 4 4
structure iH (w:U) (F:Nat->Prop) (xv:V) (ls:List Nat):Prop where
 row:w.ownsRow 0 65 1 xv ls.length (ls.map AU)
 nh:∀g,xv.ownBlock=E g->¬F g
 each:∀i (h:i<ls.length),¬F ls[i]/\xv.ownBlock≠E ls[i]/\∃hs:Array V,X w ls[i] hs 66/\hs.size=4/\∀(j:Nat) (v:V),hs[j]? =E v->∃m,bw 68 3 w v m/\gE 3 (pz i).toList w v m/\m<=1000000/\∀g,v.ownBlock=E g->¬F g/\xv.ownBlock≠E g
theorem iH.nil(e:U) (a:Nat->Prop):iH e a (C F 0 0) []:=⟨cJ _ _ _ _,λf d=>by simp[az] at d,λi c=>absurd c (dZ _)⟩
theorem iH.mod{w w':U} {j F':Nat->Prop} {p:V} {ls:List Nat} (e:iH w j p ls) (f:G j w w') (hF:∀k,k<w.heap.size->F' k->j k):iH w' F' p ls:=by
 have t:=λa c=>iX e.row a c;refine⟨f.owns e.row e.nh,λa c d=>e.nh a c (hF a (t a c) d),λu hi=>?_⟩;obtain⟨n,q,hs,o,r,s⟩:=e.each u hi;refine⟨λd=>n (hF _ o.lt d),q,hs,f.has o n,r,λx D hv=>?_⟩;obtain⟨z,m,A,B,i⟩:=s x D hv;exact⟨z,m.mod f (λa c=>(i a c).1),A.mod f (λa c=>⟨m.lt a c,(i a c).1⟩),B,λa c=>⟨λd=>(i a c).1 (hF a (m.lt a c) d),(i a c).2⟩⟩
theorem iH.at{e:U} {k:Nat->Prop} {j:V} {ls:List Nat} (d:iH e k j ls) {a:Nat} (hi:a<ls.length):∃c cap i,j=C (E ⟨c,0,F⟩) ls.length cap/\c<e.heap.size/\ls[a]? =E i/\e.cell? ⟨c,a,F⟩=E (C (E ⟨i,0,F⟩) 4 4):=by
 have m:=d.row;obtain⟨o,p|⟨f,cap,n,hv,_⟩⟩:=d.row
 ·omega
 ·refine⟨f,cap,ls[a],hv,iX d.row f (by rw[hv];rfl),cK hi,?_⟩;have:=m.cells (by rw[hv];rfl) a (AU ls[a]) (by rw[List.getElem?_map,cK hi];rfl);rw[dx,bg] at this;exact this
theorem iH.head{i:U} {r:Nat->Prop} {B:V} {ls:List Nat} (s:iH i r B ls) {n f o:Nat} (x:ls[n]? =E o) (H:f<4):∃a e k,e<=1000000/\o<i.heap.size/\i.cell? ⟨o,f,F⟩=E (C a e k)/\∀j,j<e->∃d,a=E ⟨d,0,F⟩/\d<i.heap.size/\i.rangeAt d (j* 3) (pz n).toList:=by
 obtain⟨hi,c⟩:=List.getElem?_eq_some_iff.1 x;obtain⟨_,_,hs,m,G,t⟩:=s.each n hi;rw[c] at m;obtain⟨p,hv⟩:∃p,hs[f]? =E p:=⟨_,bX (by omega)⟩;obtain⟨e,q,z,A,_⟩:=t f p hv;obtain⟨a,k,rfl⟩:=q.slice;refine⟨a,e,k,A,m.lt,(m.cell f).trans hv,λj w=>?_⟩;obtain⟨d,cap,D,c,u,_⟩:=q.block (by omega);injection c with c _ _;exact⟨d,c,u.lt,z d (by rw[c];rfl) j w⟩
end Go.Proofs.YthhibagcpjeihaaGreat
