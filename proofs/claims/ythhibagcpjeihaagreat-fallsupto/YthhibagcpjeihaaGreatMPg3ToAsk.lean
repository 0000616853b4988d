import Derived.Test.YthhibagcpjeihaaGreatMPg1ToWr5
import Derived.Deep.DeepCutAuto
import Derived.Deep.MidRow
import Derived.Test.YthhibagcpjeihaaGreatMLook1ToSwap2
open Go.Proofs.Tryz
open Go.Value renaming int->y,pointer->b,slice->C,bool->W,agg->l,tuple->h,ownBlock->az
open Go.IntKind renaming i64->K
open Option renaming none->F,some->E
open Go renaming World->U,Value->V
open Go.Proofs.Tryz renaming prog->T
open Go.Ending renaming returned->g
open Go.Obj renaming cells->v
open List renaming getElem?_eq_getElem->cK,take_length->eA,getD_eq_getElem?_getD->nT,flatMap_append->lG,countP_cons->kh,foldl_cons->kE,countP_append->nL,mem_cons_self->nG,mem_cons_of_mem->oM
open Go.World renaming size_alloc->bj,ownsRow_nil->cJ
open Nat renaming le_refl->bK
namespace Go.Proofs.YthhibagcpjeihaaGreat
open Go.RowKit
open M
set_option linter.unusedVariables false
set_option linter.unusedSimpArgs false
set_option maxRecDepth 100000
set_option maxHeartbeats 4000000
def eE(e d:Int) (c:List B):Int×Int:=match c.getLast? with
 |none=>(e,d)
 |some a=>(a.row,a.P)
structure fG where
 S:List B
 r:Int
 c:Int
 ep:Int
 more:Bool
 err:Int
def eP(p:O) (e:List B) (c a d size:Int):fG:=
 if size<1\/size>30 then⟨[],0,0,0,false,12⟩
 else if (bY p c a d).2≠0 then⟨[],0,0,0,false,(bY p c a d).2⟩
 else⟨(e.drop (bY p c a d).1.toNat).take size.toNat,(eE c a ((e.drop (bY p c a d).1.toNat).take size.toNat)).1,(eE c a ((e.drop (bY p c a d).1.toNat).take size.toNat)).2,p.ep,
  decide ((bY p c a d).1.toNat+((e.drop (bY p c a d).1.toNat).take size.toNat).length<e.length),0⟩
structure Told (w w':U) (e:Ending) (R:fG):Prop where
 ex:∃v,e=g (h #[l #[v,y K R.r,y K R.c,y K R.ep,W R.more],y K R.err])/\w'.ownsRow 0 63 6 v R.S.length (R.S.flatMap aX)/\∀k,v.ownBlock=E k->w.heap.size<=k
 mod:G No w w'
theorem Ie(j:Nat) (n k c size:Int) (hs:size<1\/size>30) (a:U):Calls T 92 #[b (E ⟨j,0,F⟩),l #[y K n,y K k,y K c],y K size] a λc w'=>Told a w' c ⟨[],0,0,0,false,12⟩:=by
 have d:∀f i,Told a ((a.alloc f).alloc i) (g (h #[l #[C F 0 0,y K 0,y K 0,y K 0,W false],y K 12])) ⟨[],0,0,0,false,12⟩:=λf i=>
  ⟨⟨C F 0 0,rfl,cJ _ _ _ _,λq m=>by simp[az] at m⟩,((G.refl _ a).alloc _).alloc _⟩
 obtain e|e:=Int.lt_or_le size 1
 ·clear hs;go_enter func92,ntmps92;go_wp2;refine bodyPost_ret (by simp[results,results92,go_sem];try rfl) rfl ?_;exact d _ _
 ·have p:size>30:=by omega
  have o:¬size<1:=by omega
  clear hs e;go_enter func92,ntmps92;go_wp2;refine bodyPost_ret (by simp[results,results92,go_sem];try rfl) rfl ?_;exact d _ _
theorem Ig(t:Nat) (n m d size e:Int) (hs:1<=size/\size<=30) (w:e≠0) (a:U) (u:∀o,G No a o->Calls T 114 #[b (E ⟨t,0,F⟩),l #[y K n,y K m,y K d]] o λD w'=>D=g (h #[y K 0,y K e])/\G No o w'):Calls T 92 #[b (E ⟨t,0,F⟩),l #[y K n,y K m,y K d],y K size] a λd w'=>Told a w' d ⟨[],0,0,0,false,e⟩:=by
 have z:=i u;have M:(e !=0)=true:=by simpa using w
 have J:¬size<1:=by omega
 have L:¬size>30:=by omega
 have x:G No a ((a.alloc (v #[y K n,y K m,y K d] 43)).alloc (v #[C F 0 0,y K 0,y K 0,y K 0,W false] 146)):=((G.refl _ a).alloc _).alloc _;have s:=i x;have q:=X.new (a.alloc (v #[y K n,y K m,y K d] 43)) #[C F 0 0,y K 0,y K 0,y K 0,W false] 146;rw[bj] at q;have B:=i q;clear u hs w x q;go_enter func92,ntmps92;go_wp2_with fail;refine((k z) _ (k s)).mono ?_;rintro I j ⟨rfl,p⟩
 have c:=p.has (k B) (λe=>e);have A:=i ((k s).trans p);have d0:j.cell? ⟨a.heap.size+1,0,F⟩=E (C F 0 0):=c.cell 0;have d1:j.cell? ⟨a.heap.size+1,1,F⟩=E (y K 0):=c.cell 1;have d2:j.cell? ⟨a.heap.size+1,2,F⟩=E (y K 0):=c.cell 2;have d3:j.cell? ⟨a.heap.size+1,3,F⟩=E (y K 0):=c.cell 3;have d4:j.cell? ⟨a.heap.size+1,4,F⟩=E (W false):=c.cell 4;have f1:=c.frozen;have O:=c.lt;clear p c;go_wp2
 refine bodyPost_ret (by simp[results,results92,go_sem,d0,d1,d2,d3,d4];try rfl) rfl ?_;refine⟨⟨C F 0 0,rfl,cJ _ _ _ _,λN H=>by simp[az] at H⟩,?_⟩;have f:∀r,No (⟨a.heap.size+1,r,F⟩:Addr).block\/a.heap.size<=(⟨a.heap.size+1,r,F⟩:Addr).block:=λr=>.inr (by simp);exact(((((k A).setCell (f 0) _).setCell (f 1) _).setCell (f 2) _).setCell (f 3) _).setCell (f 4) _
attribute [local go_sem ↓] rr ru
theorem Ih(d:Nat) (cs:Array V) (i:TypeId) (R C:Int) (c:U) (a:X c d cs i) (e:cs[0]? =E (y K R)) (f:cs[1]? =E (y K C)) (p:K.wrap (R* C)=R* C):Calls T 112 #[b (E ⟨d,0,F⟩)] c λm w'=>m=g (y K (R* C))/\∃n,w'=c.drewN n:=by
 have j:=a.cell 0;have k:=a.cell 1;rw[e] at j;rw[f] at k;have o:=a.lt;clear a e f;go_enter func112,ntmps112;go_wp2;go_quiet (fail);go_wp2;go_ret;exact⟨rfl,_,rfl⟩
structure fX (w wr:U) (b m clock pb:Nat) (p:O) (l:List B) (es:List t) (D:List B) (r c:Int) (more:Bool) (v:V) (i:Nat) (j:Nat):Prop where
 fl:bo wr b p l m es clock
 cq:X wr pb #[v,y K (eE r c (D.take j)).1,y K (eE r c (D.take j)).2,y K p.ep,W more] 146
 row:wr.ownsRow 0 63 6 v i ((D.take i).flatMap aX)
 new:∀k,v.ownBlock=E k->w.heap.size<=k/\k≠pb/\k≠w.heap.size+1
 res:X wr (w.heap.size+1) #[C F 0 0,y K 0,y K 0,y K 0,W false] 146
 gI:w.heap.size<=pb/\pb≠w.heap.size+1
 mod:G No w wr
theorem fX.still{u wr w2:U} {f o k q:Nat} {p:O} {n:List B} {es:List t} {e:List B} {r i:Int} {more:Bool} {s:V} {m j:Nat} (a:fX u wr f o k q p n es e r i more s m j) (d:G No wr w2):fX u w2 f o k q p n es e r i more s m j:=
 ⟨⟨d.has a.fl.has (λc=>c),d.map a.fl.map (λc=>c),a.fl.ok,a.fl.rel⟩,d.has a.cq (λc=>c),d.owns a.row (λ_ _ c=>c),a.new,d.has a.res (λc=>c),a.gI,a.mod.trans d⟩
theorem zJ(e d:Int) (a:List B) (c:Nat) (hi:c<a.length):eE e d (a.take (c+1))=(a[c].row,a[c].P):=by
 rw[take_succ a c hi];unfold eE;rw[List.getLast?_append];simp
theorem fX.put{j wr w3:U} {n q x e:Nat} {p:O} {D:List B} {es:List t} {i:List B} {H w:Int} {more:Bool} {m v':V} {d:Nat} (c:fX j wr n q x e p D es i H w more m d d) (hi:d<i.length) (u:Obj) (L:w3.ownsRow 0 63 6 v' (d+1) (((i.take d).flatMap aX)++aX i[d])) (I:(wr.alloc u).grownBy w3 m.ownBlock) (hs:dY (wr.alloc u) m v') (hb:n<j.heap.size) (J:q<j.heap.size):
  fX j (w3.setCell ⟨e,0,F⟩ v') n q x e p D es i H w more v' (d+1) d:=by
 have z:G (λa=>m.ownBlock=E a) wr w3:=((G.refl _ wr).alloc u).grown I (λa k=>.inl k);have P:=c.cq.lt;have Q:=c.res.lt;have o:G (λa=>m.ownBlock=E a\/a=e) wr (w3.setCell ⟨e,0,F⟩ v'):=(z.mono (λ_ _ N=>.inl N)).setCell (p:=⟨e,0,F⟩) (.inl (.inr rfl)) _;have s:∀a,a<j.heap.size->¬(m.ownBlock=E a\/a=e):=λa k=>by
  rintro(f|f)
  ·have:=(c.new a f).1;omega
  ·have:=c.gI.1;omega
 have A:∀a,v'.ownBlock=E a->j.heap.size<=a/\a≠e/\a≠j.heap.size+1:=λa k=>by
  obtain r|r:=hs a k
  ·exact c.new a r
  ·have:=c.mod.size;simp at r;omega
 refine⟨⟨o.has c.fl.has (s n hb),o.map c.fl.map (s q J),c.fl.ok,c.fl.rel⟩,?_,?_,A,o.has c.res ?_,c.gI,c.mod.trans' o (λa k hl=>s a hl k)⟩
 ·have M:X w3 e _ 146:=z.has c.cq (λf=>(c.new e f).2.1 rfl);exact M.set 0 v'
 ·have:(i.take (d+1)).flatMap aX=(i.take d).flatMap aX++aX i[d]:=by rw[take_succ i d hi,lG];simp
  rw[this]
  exact gT L (by
   intro f
   exact(A e (by simpa using f)).2.1 rfl) _
 ·rintro(f|f)
  ·exact(c.new _ f).2.2 rfl
  ·exact c.gI.2 f.symm
theorem fX.end_{j wr:U} {k o u f:Nat} {p:O} {w:List B} {es:List t} {e:List B} {s q:Int} {more:Bool} {x:V} {c:Nat} (a:fX j wr k o u f p w es e s q more x (c+1) c) (hi:c<e.length) (hb:k<j.heap.size) (z:o<j.heap.size):fX j ((wr.setCell ⟨f,1,F⟩ (y K e[c].row)).setCell ⟨f,2,F⟩ (y K e[c].P)) k o u f p w es e s q more x (c+1) (c+1):=by
 have i:G (λd=>d=f) wr ((wr.setCell ⟨f,1,F⟩ (y K e[c].row)).setCell ⟨f,2,F⟩ (y K e[c].P)):=((G.refl _ wr).at 1 _).at 2 _;have r:∀d,d<j.heap.size->¬d=f:=λd n m=>by have:=a.gI.1;omega
 refine⟨⟨i.has a.fl.has (r k hb),i.map a.fl.map (r o z),a.fl.ok,a.fl.rel⟩,?_,i.owns a.row (λd n m=>(a.new d n).2.1 m),a.new,i.has a.res (λm=>a.gI.2 m.symm),a.gI,a.mod.trans' i (λd n hl=>r d hl n)⟩;rw[zJ s q e c hi];exact(a.cq.set 1 _).set 2 _
set_option maxHeartbeats 2000000
structure Ask (f:B->Bool):Prop where
 full:∀s,f s=true->s.st≠0
 at_:∀s x,f (B.at s x)=f s
theorem Ask.free{c:B->Bool} (d:Ask c) {a:B} (e:a.st=0):c a=false:=by
 cases hf:c a with
 |false=>rfl
 |true=>exact absurd e (d.full a hf)
def gJ(a:B->Bool) (c:B):Nat:=if a c=true then 1 else 0
theorem zK(a:B->Bool) (c:List B) (j:Nat) (e:j<c.length) (d:B):(c.set j d).countP a+gJ a c[j]=c.countP a+gJ a d:=by
 have:=countP_set a c j e d;unfold gJ
 cases f:a c[j]<;>cases i:a d<;>simp[f,i] at this ⊢ <;>omega
theorem Ii(d:B->Bool) (c:List B) (a:Nat) (e:a<c.length):(c.take (a+1)).countP d=(c.take a).countP d+gJ d c[a]:=by
 rw[take_succ c a e,nL];unfold gJ
 cases hf:d c[a]<;>simp[hf]
theorem count_empty{a:B->Bool} (c:Ask a) (d:O):(q d).countP a=0:=by
 rw[List.countP_eq_zero];intro f hs;simp only[q,List.mem_map] at hs;obtain⟨e,_,rfl⟩:=hs;rw[c.free rfl];simp
theorem zL{d:B->Bool} (i:Ask d) {p e:O} {c:List B} (k:L p c) (m:e.sized=true) (n:e.limited=true):∀a,a<=c.length->(stay e (c.take a)).countP d+(aQ e (c.take a)).countP d=(c.take a).countP d
 |0,_=>by
  show(q e).countP d+0=0;rw[count_empty i]
 |a+1,hi=>by
  have s:=zL i k m n a (by omega);have hS:=qj k m n a (by omega);rw[mG e c a (by omega),kD e c a (by omega),nL,Ii d c a (by omega)];unfold jU;by_cases hc:c[a].st≠0/\e.has c[a].row c[a].P=true
  ·rw[if_pos hc,if_neg (λf=>f.2 hc.2)];obtain⟨r,f0,_,_⟩:=hS.free k (by omega) hc.2;have:=zK d (stay e (c.take a)) _ r c[a];have o:gJ d (stay e (c.take a))[e.idx c[a].row c[a].P]=0:=by unfold gJ;rw[i.free f0];rfl
   simp only[List.countP_nil];omega
  ·rw[if_neg hc];by_cases j:c[a].st=0
   ·rw[if_neg (λf=>f.1 j)];have o:gJ d c[a]=0:=by unfold gJ;rw[i.free j];rfl
    simp only[List.countP_nil];omega
   ·rw[if_pos ⟨j,λf=>hc ⟨j,f⟩⟩];have:List.countP d [c[a]]=gJ d c[a]:=by
     unfold gJ
     cases hf:d c[a]<;>simp[hf]
    omega
theorem zM{c:B->Bool} (e:Ask c) {k:O}:∀(hs a:List B),(∀d∈hs,d.wf/\d.st≠0)->gY k a hs.length->(hs.foldl bQ a).countP c=a.countP c+hs.countP c
 |[],a,_,_=>by simp
 |d::hs,a,i,o=>by
  have j:gY k a (hs.length+1):=o;have f:=i d (nG);have q:=zM e hs (bQ a d) (λr p=>i r (oM _ p)) (j.step f.1 f.2);have hl:=rN j;have m:a.getD (firstFree a) jc=a[firstFree a]:=by
   rw[nT,cK hl];rfl
  have u:=zK c a (firstFree a) hl (B.at d a[firstFree a]);have s:gJ c a[firstFree a]=0:=by unfold gJ;rw[e.free (rO hl)];rfl
  have t:gJ c (B.at d a[firstFree a])=gJ c d:=by unfold gJ;rw[e.at_]
  have n:(bQ a d).countP c=a.countP c+gJ c d:=by
   unfold bQ;rw[m];omega
  rw[kE,q,n,kh];unfold gJ;omega
theorem Ij{c:B->Bool} (e:Ask c) {p q:O} {a:List B} (d:L p a) (f:q.sized=true) (i:q.limited=true) (j:¬q.rows* q.w<(ba a:Int)):(eY q a).countP c=a.countP c:=by
 unfold eY;rw[zM e _ _ (qk d) (rP d f i j)];have:=zL e d f i a.length (bK _);rw[eA] at this;exact this
end Go.Proofs.YthhibagcpjeihaaGreat
