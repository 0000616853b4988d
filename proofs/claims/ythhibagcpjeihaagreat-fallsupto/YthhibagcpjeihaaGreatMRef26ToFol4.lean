import Derived.Test.YthhibagcpjeihaaGreatMRef14ToRef18
import Derived.Test.YthhibagcpjeihaaGreatMFMapToBook4S
import Derived.OwnWalk
import Derived.Deep.MidRow
open Go.Proofs.Tryz
open Go.Value renaming int->y,pointer->b,slice->C,bool->W,agg->l
open Go.IntKind renaming i64->K
open Option renaming none->F,some->E
open Go renaming World->U,Value->V
open Go.Proofs.Tryz renaming prog->T
open Go.Ending renaming returned->g
open Go.Obj renaming cells->v
open List renaming getElem?_eq_getElem->cK,eq_nil_of_length_eq_zero->fS,length_take->dj,length_cons->dP,take_length->eA,getElem_of_mem->iP,take_add_one->lq
open Go.World renaming size_alloc->bj
open Int renaming tmod_eq_emod_of_nonneg->qi
namespace Go.Proofs.YthhibagcpjeihaaGreat
open Go.RowKit
open M
set_option linter.unusedVariables false
set_option linter.unusedSimpArgs false
set_option maxRecDepth 100000
set_option maxHeartbeats 8000000
def gQ(a:e):Int:=60+30* ((a.f.S.length:Int) - (cY a.f.S:Int))
def bB(xs:List e):Int:=200+(xs.map gQ).sum
theorem Kg(xs:List e) (a:Nat) (hi:a<xs.length):bB (xs.take (a+1))=bB (xs.take a)+gQ xs[a]:=by
 unfold bB;rw[lq,cK hi,Option.toList_some,List.map_append,List.sum_append,List.map_cons,List.map_nil,List.sum_cons,List.sum_nil];omega
theorem Kh(a:e) (c:a.f.S.length<=120):60<=gQ a/\gQ a<=3660:=by
 unfold gQ;have:=pZ a.f.S;omega
theorem vL:∀(xs:List e),(∀a∈xs,a.f.S.length<=120)->200<=bB xs/\bB xs<=200+3660* (xs.length:Int)
 |[],_=>by simp[bB]
 |a::xs,c=>by
  have i:=vL xs (λf hy=>c f (by simp[hy]));have j:=Kh a (c a (by simp));have d:bB (a::xs)=bB xs+gQ a:=by unfold bB;simp;omega
  rw[d];simp only[dP];omega
theorem Ki{a:U} {d:Nat} {now:Int} (c:X a d #[C F 0 0,y K now] 72):Calls T 31 #[b (E ⟨d,0,F⟩)] a λe w'=>e=g (y K 200)/\G No a w':=by
 have hc:=c.cell;clear c;go_enter func31,ntmps31;go_wp2_with fail;go_loopw [3,4] (λf i wr=>f=y K 200/\i=y K 0/\wr=a) (λ_ _ _=>0)
 case atStart=>exact⟨rfl,rfl,rfl⟩
 case round=>
  obtain⟨rfl,rfl,rfl⟩:=hrel;go_wp2;go_ret;exact⟨rfl,G.refl _ _⟩
theorem Kj{r:U} {af:Nat->Nat} {x gf cap:Nat} {xs:List e} {now:Int} (j:aF r af x (C (E ⟨gf,0,F⟩) xs.length cap) xs now) (H:0<xs.length):Calls T 31 #[b (E ⟨x,0,F⟩)] r λs w'=>s=g (y K (bB xs))/\G No r w':=by
 have ao:=j.dU;have z:=i j;obtain⟨ae,M⟩:=j.parts rfl H;have D:=i M;have Q:=i j.has;have q:∀c∈xs,c.f.S.length<=120:=λc t=>by
  obtain⟨a,hi,rfl⟩:=iP t;exact gF (j.S a hi).2.2
 have q:=i q;clear j M ae H;go_enter func31,ntmps31;go_wp2_with fail;go_loopw [3,4] (λag w wr=>∃a:Nat,w=y K a/\a<=xs.length/\ag=y K (bB (xs.take a))/\Hid (G No r wr)) (λ_ w _=>xs.length - (intOf w).toNat)
 case atStart=>exact⟨0,rfl,by omega,by simp[bB],i (G.refl _ _)⟩
 case round=>
  obtain⟨a,rfl,hi,rfl,m⟩:=hrel;have aM:wr.cell? ⟨x,0,F⟩=E (C (E ⟨gf,0,F⟩) xs.length cap):=((k m).has (k Q) (λc=>c)).cell 0;by_cases d:a<xs.length
  ·have ad:(a:Int)<(xs.length:Int):=by omega
   have aD:(0:Int)<=a:=by omega
   have aI:K.wrap ((a:Int)+1)=((a+1:Nat):Int):=by rw[aB _ (by omega) (by omega)];rfl
   have f:=(k D).mod (k m) (λc=>c);have ap:wr.cell? ⟨gf,a* 10,F⟩=E (y K xs[a].f.num):=f.cell a d 0 (by omega);have aq:wr.cell? ⟨gf,a* 10+1,F⟩=E (y K xs[a].f.p.rows):=f.cell a d 1 (by omega);have ar:wr.cell? ⟨gf,a* 10+2,F⟩=E (y K xs[a].f.p.w):=f.cell a d 2 (by omega);have au:wr.cell? ⟨gf,a* 10+3,F⟩=E (y K xs[a].f.p.front):=f.cell a d 3 (by omega)
   have av:wr.cell? ⟨gf,a* 10+4,F⟩=E (y K xs[a].f.p.I):=f.cell a d 4 (by omega);have aw:wr.cell? ⟨gf,a* 10+5,F⟩=E (y K xs[a].f.p.R):=f.cell a d 5 (by omega);have ax:wr.cell? ⟨gf,a* 10+6,F⟩=E (y K xs[a].f.p.n):=f.cell a d 6 (by omega);have ay:wr.cell? ⟨gf,a* 10+7,F⟩=E (y K xs[a].f.p.f):=f.cell a d 7 (by omega)
   have aA:wr.cell? ⟨gf,a* 10+8,F⟩=E (C (E ⟨xs[a].g,0,F⟩) xs[a].f.S.length xs[a].cap):=f.cell a d 8 (by omega);have aC:wr.cell? ⟨gf,a* 10+9,F⟩=E (y K xs[a].f.ep):=f.cell a d 9 (by omega);obtain⟨N,os,wf⟩:=(k z).S a d;have aK:xs[a].f.S.length<=120:=gF wf;have aE:=pZ xs[a].f.S;have aa:=vL (xs.take a) (λc t=>(k q) c (List.mem_of_mem_take t));have ab:((xs.take a).length:Int)<=20:=by rw[dj];omega
   have I:=Kg xs a d;have J:gQ xs[a]=60+30* ((xs[a].f.S.length:Int) - (cY xs[a].f.S:Int)):=rfl;rw[J] at I;have O:=N.mod (k m) (λc=>c);have p:=X.new wr (aV xs[a]) 134;have B:=i ((k m).alloc (v (aV xs[a]) 134));have P:=O.mod ((G.refl No wr).alloc (v (aV xs[a]) 134)) (λc=>c)
   have A:=i λu=>rA wr.heap.size 0 xs[a].g xs[a].cap xs[a].f.S ((wr.alloc (v (aV xs[a]) 134)).drewN u) (P.mod ((G.refl No _).drewN u) (λc=>c)) (by omega) ((p.drewN u).cell 8);have S:=p.cell;have Y:=p.lt;unfold aV at A B S Y;generalize bB (xs.take a)=wt at *;generalize L:bB (xs.take (a+1))=ah at *;have R:=i L;clear L;generalize aH:cY xs[a].f.S=n at *;generalize aL:xs[a].f.S.length=o at *
   have ai:K.wrap (wt+60)=wt+60:=aB _ (by omega) (by omega);have aj:K.wrap ((o:Int) - (n:Int))=(o:Int) - (n:Int):=aB _ (by omega) (by omega);have ak:K.wrap (30* ((o:Int) - (n:Int)))=30* ((o:Int) - (n:Int)):=aB _ (by omega) (by omega);have am:K.wrap (wt+60+30* ((o:Int) - (n:Int)))=ah:=by rw[aB _ (by omega) (by omega)];omega
   clear f N os wf O P p aa ab I J z D q;go_wp2_with fail;go_quiet ((go_at_call 58;exact Calls.quiet_of_same ((k A) _)));go_wp2;exact⟨⟨a+1,rfl,by omega,by rw[k R],(k B).drewN _⟩,by simp[intOf];omega⟩
  ·have ad:¬(a:Int)<(xs.length:Int):=by omega
   have s:a=xs.length:=by omega
   subst s;rw[eA];go_wp2;go_ret;exact⟨rfl,k m⟩
theorem AV{c:U} {k:Nat->Nat} {f:Nat} {d:V} {xs:List e} {now:Int} (a:aF c k f d xs now) (hv:xs=[]->d=C F 0 0):Calls T 31 #[b (E ⟨f,0,F⟩)] c λi w'=>i=g (y K (bB xs))/\G No c w':=by
 obtain⟨rfl,rfl⟩|⟨m,cap,rfl,_,_⟩:=a.jk
 ·exact Ki a.has
 ·by_cases j:0<xs.length
  ·exact Kj a j
  ·have:=hv (fS (by omega))
   cases this
theorem vM{j:U} {f:Nat->Nat} {k:Nat} {i:V} {xs:List e} {now:Int} (a:aF j f k i xs now):200<=bB xs/\bB xs<=100000:=by
 have m:=vL xs (λn c=>by
  obtain⟨d,hi,rfl⟩:=iP c
  exact gF (a.S d hi).2.2)
 have:=a.dU;omega
set_option maxHeartbeats 4000000
theorem AW(a c:Int) (hc: -9223372036854775808<=a/\a<=9223372036854775807) (k:0<c/\c<=1099511627776) (d:U):Calls T 13 #[y K a,y K c] d λe w'=>e=g (y K (iM a c))/\w'=d:=by
 unfold iM;have m:c≠0:=by omega
 by_cases f:a<0
 ·have i:K.wrap (a+1)=a+1:=ey _ (by omega) (by omega);have j:K.wrap (-(a+1))= -(a+1):=ey _ (by omega) (by omega);go_enter func13,ntmps13;go_wp2;go_ret;refine⟨?_,rfl⟩;rw[<-qi (by omega),Int.neg_tmod];rfl
 ·go_enter func13,ntmps13;go_wp2;go_ret;exact⟨rfl,rfl⟩
theorem Kk(a d e:Nat->Int) (f:U):Calls T 37 #[l (cw a d e),l (cw a d e)] f λz w'=>z=g (W true)/\G No f w':=by
 have u:=i ((X.new f (cw a d e) 91).alloc (v (cw a d e) 91))
 have w:=i (show X ((f.alloc (v (cw a d e) 91)).alloc (v (cw a d e) 91)) (f.heap.size+1) (cw a d e) 91 from by
  have:=X.new (f.alloc (v (cw a d e) 91)) (cw a d e) 91
  rw[bj] at this
  exact this)
 have x:=i (((G.refl No f).alloc (v (cw a d e) 91)).alloc (v (cw a d e) 91));generalize t:cw a d e=s at *;go_enter func37,ntmps37;go_wp2_with fail;generalize (f.alloc (v s 91)).alloc (v s 91)=B at *;go_loopw [5] (λp wr=>∃c:Nat,p=y K c/\c<=4/\Hid (G No f wr)/\Hid (G No B wr)) (λp _=>4 - (intOf p).toNat)
 case atStart=>exact⟨0,rfl,by omega,x,G.refl _ _⟩
 case round=>
  obtain⟨c,rfl,hi,r,o⟩:=hrel;by_cases j:c<4
  ·have A:(c:Int)<4:=by omega
   have L:(0:Int)<=c:=by omega
   have M:K.wrap ((c:Int)+1)=((c+1:Nat):Int):=by rw[aB _ (by omega) (by omega)];rfl
   have m:=(k o).has (k u) (λq=>q);have n:=(k o).has (k w) (λq=>q);rw[<-t] at m n;have D:wr.cell? ⟨f.heap.size,c,F⟩=E (y K (a c)):=by rw[m.cell,zE _ _ _ _ j]
   have I:wr.cell? ⟨f.heap.size,4+c,F⟩=E (y K (d c)):=by rw[m.cell,zF _ _ _ _ j]
   have N:wr.cell? ⟨f.heap.size,8+c,F⟩=E (y K (e c)):=by rw[m.cell,vo _ _ _ _ j]
   have H:wr.cell? ⟨f.heap.size+1,c,F⟩=E (y K (a c)):=by rw[n.cell,zE _ _ _ _ j]
   have J:wr.cell? ⟨f.heap.size+1,4+c,F⟩=E (y K (d c)):=by rw[n.cell,zF _ _ _ _ j]
   have O:wr.cell? ⟨f.heap.size+1,8+c,F⟩=E (y K (e c)):=by rw[n.cell,vo _ _ _ _ j]
   have d1:(a c !=a c)=false:=by simp
   have d2:(d c !=d c)=false:=by simp
   have d3:(e c !=e c)=false:=by simp
   clear m n t;go_wp2_with fail;go_quiet (fail);go_wp2;exact⟨⟨c+1,rfl,by omega,(k r).drewN _,(k o).drewN _⟩,by simp[intOf];omega⟩
  ·have A:¬(c:Int)<4:=by omega
   go_wp2;go_ret;exact⟨rfl,k r⟩
theorem Kl{now:Int} {fl:Nat->Option (O×List B)} {c:N} (m:0<=now/\now<=4611686018427387000) (q:∀o p e,o<21->fl o=E (p,e)->L p e) (a:(aA now fl c).1=0):gN now (J now c):=by
 unfold aA at a;by_cases k:c.kind<1\/c.kind>9
 ·rw[if_pos k] at a;exact absurd a (by simp)
 rw[if_neg k] at a;by_cases f:c.kind=8
 ·rw[if_pos f] at a;by_cases n:1<=c.time/\c.time<=100
  ·exact zA f n m
  ·rw[if_neg n] at a;exact absurd a (by simp)
 rw[if_neg f] at a;by_cases hf:1<=c.m/\c.m<=20
 case neg=>rw[if_pos hf] at a;exact absurd a (by simp)
 rw[if_neg (by simpa using hf)] at a
 cases i:fl c.m.toNat with
 |none=>
  rw[i] at a;simp only at a;by_cases d:c.kind=1
  ·rw[if_pos d] at a;by_cases hs:c.p.sized=true/\c.p.limited=true
   ·exact zy d hf hs.1 hs.2
   ·rw[if_neg hs] at a;exact absurd a (by simp)
  ·rw[if_neg d] at a;exact absurd a (by simp)
 |some r=>
  obtain⟨p,e⟩:=r;rw[i] at a;simp only at a;by_cases d:c.kind=1
  ·rw[if_pos d] at a;exact absurd a (by simp)
  rw[if_neg d] at a;by_cases j:aH p e c now=0
  ·exact zC (by omega) hf (q _ p e (by omega) i) m j
  ·rw[if_neg j] at a;exact absurd a j
open Go.ChangeMaps (setBlock)
set_option maxHeartbeats 2000000
structure Km (w:U) (ow om:Nat->Nat) (kb:Nat) (tl:Nat->Option (List ia)):Prop where
 un:∀i,i<8->tl i=F->w.cell? ⟨kb,22+i,F⟩=E (.map F)
 is:∀i,i<8->∀es,tl i=E es->∃m clock,w.cell? ⟨kb,22+i,F⟩=E (.map (E m))/\om m=i+1/\w.heap[m]? =E (uR es clock)/\GC es
 aU:∀k,om k≠0->k<w.heap.size/\ow k=0
def lv(a:O×List B) (c:Nat):Int:=min (iQ a.1 a.2 c) 9
end Go.Proofs.YthhibagcpjeihaaGreat
