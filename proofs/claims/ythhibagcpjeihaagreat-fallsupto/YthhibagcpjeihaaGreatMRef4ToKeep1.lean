import Derived.Test.YthhibagcpjeihaaGreatMRef3
import Derived.Test.YthhibagcpjeihaaGreatMLook1ToSwap2
import Derived.Test.YthhibagcpjeihaaGreatMBaseToPut2
import Derived.Test.YthhibagcpjeihaaGreatMChangeToPass2
import Derived.Deep.DeepCutAuto
open Go.Proofs.Tryz
open Go.Value renaming int->y,pointer->b,slice->C,bool->W,agg->l,tuple->h,ownBlock->az
open Go.IntKind renaming i64->K
open Option renaming none->F,some->E
open Go renaming World->U,Value->V
open Go.Proofs.Tryz renaming prog->T,underlying61->nW
open Go.Ending renaming returned->g
open Go.Obj renaming cells->v
open List renaming getElem?_eq_getElem->cK,getElem_mem->dD,append_nil->dR,getD_eq_getElem?_getD->nT,getElem_set_self->lH,set_getElem_self->lI,flatMap_append->lG,flatMap_cons->lh,take_add_one->lq,getElem_set_ne->nX
open Go.Act renaming eval->Z
open Array renaming getElem?_toList->dE,getElem?_setIfInBounds_ne->jS,getElem?_setIfInBounds_self_of_lt->ry
open Go.World renaming ownsRow_nil->cJ,block_lt_of_cell?->jA
open Nat renaming zero_add->bg,le_refl->bK,mul_le_mul_right->mq
open Go.Addr renaming add_mid->dx
open Int renaming mul_nonneg->iK
namespace Go.Proofs.YthhibagcpjeihaaGreat
open Go.RowKit
open M
set_option linter.unusedVariables false
set_option linter.unusedSimpArgs false
set_option maxRecDepth 100000
set_option maxHeartbeats 4000000
theorem qn(p:O) (a:U):Calls T 82 #[eb p] a λc w'=>c=g (W p.sized)/\G No a w':=by
 unfold eb O.sized;by_cases d:p.rows>=1
 ·by_cases e:p.rows<=20
  ·by_cases f:p.w>=1
   ·by_cases i:p.w<=6
    ·by_cases j:p.front>=0
     ·by_cases k:p.front<=p.rows
      all_goals (go_enter func82,ntmps82;go_wp2;go_ret;exact⟨by simp;omega,(G.refl _ _).alloc _⟩)
     ·go_enter func82,ntmps82;go_wp2;go_ret;exact⟨by simp;omega,(G.refl _ _).alloc _⟩
    ·go_enter func82,ntmps82;go_wp2;go_ret;exact⟨by simp;omega,(G.refl _ _).alloc _⟩
   ·go_enter func82,ntmps82;go_wp2;go_ret;exact⟨by simp;omega,(G.refl _ _).alloc _⟩
  ·go_enter func82,ntmps82;go_wp2;go_ret;exact⟨by simp;omega,(G.refl _ _).alloc _⟩
 ·go_enter func82,ntmps82;go_wp2;go_ret;exact⟨by simp;omega,(G.refl _ _).alloc _⟩
theorem ur(a:N) (c:U):Calls T 111 #[l (Q a)] c λd w'=>d=g (y K (bP a))/\G No c w':=by
 unfold Q bP;by_cases e:a.cls<0
 ·rw[if_pos (.inl e)];go_enter func111,ntmps111;go_wp2;go_ret;exact⟨rfl,(G.refl _ _).alloc _⟩
 by_cases f:a.cls>=4
 ·rw[if_pos (.inr f)];go_enter func111,ntmps111;go_wp2;go_ret;exact⟨rfl,(G.refl _ _).alloc _⟩
 rw[if_neg (by omega)];by_cases i:a.aI<1
 ·rw[if_pos (.inl i)];go_enter func111,ntmps111;go_wp2;go_ret;exact⟨rfl,(G.refl _ _).alloc _⟩
 by_cases j:a.aI>1000
 ·rw[if_pos (.inr j)];go_enter func111,ntmps111;go_wp2;go_ret;exact⟨rfl,(G.refl _ _).alloc _⟩
 rw[if_neg (by omega)];go_enter func111,ntmps111;go_wp2;go_ret;exact⟨rfl,(G.refl _ _).alloc _⟩
theorem uu(e:B) (c:Int) (k:U):Calls T 87 #[l (dc e),y K c] k λm w'=>m=g (y K (cC e.st e.pa c))/\G No k w':=by
 obtain⟨row,o,st,d,n,p⟩:=e;unfold dc cC;simp only;by_cases i:st=1
 ·subst i;rw[if_neg (by omega)];by_cases a:d=c
  ·rw[if_neg (by simp[a])];have f:(d !=c)=false:=by simp[a]
   go_enter func87,ntmps87;go_wp2;go_ret;exact⟨rfl,(G.refl _ _).alloc _⟩
  ·rw[if_pos a];have f:(d !=c)=true:=by simp[a]
   go_enter func87,ntmps87;go_wp2;go_ret;exact⟨rfl,(G.refl _ _).alloc _⟩
 by_cases j:st=2
 ·subst j;rw[if_neg (by omega)];by_cases a:d=c
  ·rw[if_neg (by simp[a])];have f:(d !=c)=false:=by simp[a]
   go_enter func87,ntmps87;go_wp2;go_ret;exact⟨rfl,(G.refl _ _).alloc _⟩
  ·rw[if_pos a];have f:(d !=c)=true:=by simp[a]
   go_enter func87,ntmps87;go_wp2;go_ret;exact⟨rfl,(G.refl _ _).alloc _⟩
 ·rw[if_pos (by omega)];have d1:(st !=1)=true:=by simp[i]
  have d2:(st !=2)=true:=by simp[j]
  go_enter func87,ntmps87;go_wp2;go_ret;exact⟨rfl,(G.refl _ _).alloc _⟩
theorem uw(p:O) (f:U):Calls T 83 #[eb p] f λs w'=>s=g (W p.limited)/\G No f w':=by
 have q:=i (X.new f #[y K p.rows,y K p.w,y K p.front,y K p.I,y K p.R,y K p.n,y K p.f] 39);have r:=i ((G.refl No f).alloc (v #[y K p.rows,y K p.w,y K p.front,y K p.I,y K p.R,y K p.n,y K p.f] 39));unfold eb O.limited;go_enter func83,ntmps83;go_wp2_with fail
 go_loopw [3] (λo wr=>((o=y K 0/\Hid (True))\/(o=y K 1/\Hid (0<=p.I/\p.I<=200))\/(o=y K 2/\Hid (0<=p.I/\p.I<=200/\0<=p.R/\p.R<=p.I))\/(o=y K 3/\Hid (0<=p.I/\p.I<=200/\0<=p.R/\p.R<=p.I/\0<=p.n/\p.n<=p.R))\/(o=y K 4/\Hid (0<=p.I/\p.I<=200/\0<=p.R/\p.R<=p.I/\0<=p.n/\p.n<=p.R/\0<=p.f/\p.f<=p.n)))/\Hid (G No f wr)/\Hid (X wr f.heap.size #[y K p.rows,y K p.w,y K p.front,y K p.I,y K p.R,y K p.n,y K p.f] 39)) (λo _=>4 - (intOf o).toNat)
 case atStart=>exact⟨.inl ⟨rfl,trivial⟩,r,q⟩
 case round=>
  obtain⟨t,c,j⟩:=hrel;clear r q;have u:wr.cell? ⟨f.heap.size,3,F⟩=E (y K p.I):=(k j).cell 3;have w:wr.cell? ⟨f.heap.size,4,F⟩=E (y K p.R):=(k j).cell 4;have x:wr.cell? ⟨f.heap.size,5,F⟩=E (y K p.n):=(k j).cell 5;have z:wr.cell? ⟨f.heap.size,6,F⟩=E (y K p.f):=(k j).cell 6;obtain⟨rfl,a⟩|⟨rfl,a⟩|⟨rfl,a⟩|⟨rfl,a⟩|⟨rfl,a⟩:=t
  ·by_cases d:p.I<0
   ·have d1:decide (p.I<0)=true:=by simpa using d
    go_wp2_with fail;go_quiet (fail);go_wp2;go_ret;exact⟨by have:=k a;simp;omega,(k c).drewN _⟩
   have d1:decide (p.I<0)=false:=by simpa using d
   by_cases e:p.I>200
   ·have d2:decide (p.I>200)=true:=by simpa using e
    go_wp2_with fail;go_quiet (fail);go_wp2;go_ret;exact⟨by have:=k a;simp;omega,(k c).drewN _⟩
   have d2:decide (p.I>200)=false:=by simpa using e
   have n:=i (show 0<=p.I/\p.I<=200 by omega);clear a;go_wp2_with fail;go_quiet (fail);go_wp2;exact⟨⟨.inr (.inl ⟨rfl,n⟩),(k c).drewN _,(k j).drewN _⟩,by simp[intOf]⟩
  ·by_cases d:p.R<0
   ·have d1:decide (p.R<0)=true:=by simpa using d
    go_wp2_with fail;go_quiet (fail);go_wp2;go_ret;exact⟨by have:=k a;simp;omega,(k c).drewN _⟩
   have d1:decide (p.R<0)=false:=by simpa using d
   by_cases e:p.R>200
   ·have d2:decide (p.R>200)=true:=by simpa using e
    go_wp2_with fail;go_quiet (fail);go_wp2;go_ret;exact⟨by have:=k a;simp;omega,(k c).drewN _⟩
   have d2:decide (p.R>200)=false:=by simpa using e
   by_cases m:p.R>p.I
   ·have d3:decide (p.R>p.I)=true:=by simpa using m
    go_wp2_with fail;go_quiet (fail);go_wp2;go_ret;exact⟨by have:=k a;simp;omega,(k c).drewN _⟩
   have d3:decide (p.R>p.I)=false:=by simpa using m
   have n:=i (show 0<=p.I/\p.I<=200/\0<=p.R/\p.R<=p.I by have:=k a;omega);clear a;go_wp2_with fail;go_quiet (fail);go_wp2;exact⟨⟨.inr (.inr (.inl ⟨rfl,n⟩)),(k c).drewN _,(k j).drewN _⟩,by simp[intOf]⟩
  ·by_cases d:p.n<0
   ·have d1:decide (p.n<0)=true:=by simpa using d
    go_wp2_with fail;go_quiet (fail);go_wp2;go_ret;exact⟨by have:=k a;simp;omega,(k c).drewN _⟩
   have d1:decide (p.n<0)=false:=by simpa using d
   by_cases e:p.n>200
   ·have d2:decide (p.n>200)=true:=by simpa using e
    go_wp2_with fail;go_quiet (fail);go_wp2;go_ret;exact⟨by have:=k a;simp;omega,(k c).drewN _⟩
   have d2:decide (p.n>200)=false:=by simpa using e
   by_cases m:p.n>p.R
   ·have d3:decide (p.n>p.R)=true:=by simpa using m
    go_wp2_with fail;go_quiet (fail);go_wp2;go_ret;exact⟨by have:=k a;simp;omega,(k c).drewN _⟩
   have d3:decide (p.n>p.R)=false:=by simpa using m
   have n:=i (show 0<=p.I/\p.I<=200/\0<=p.R/\p.R<=p.I/\0<=p.n/\p.n<=p.R by have:=k a;omega);clear a;go_wp2_with fail;go_quiet (fail);go_wp2;exact⟨⟨.inr (.inr (.inr (.inl ⟨rfl,n⟩))),(k c).drewN _,(k j).drewN _⟩,by simp[intOf]⟩
  ·by_cases d:p.f<0
   ·have d1:decide (p.f<0)=true:=by simpa using d
    go_wp2_with fail;go_quiet (fail);go_wp2;go_ret;exact⟨by have:=k a;simp;omega,(k c).drewN _⟩
   have d1:decide (p.f<0)=false:=by simpa using d
   by_cases e:p.f>200
   ·have d2:decide (p.f>200)=true:=by simpa using e
    go_wp2_with fail;go_quiet (fail);go_wp2;go_ret;exact⟨by have:=k a;simp;omega,(k c).drewN _⟩
   have d2:decide (p.f>200)=false:=by simpa using e
   by_cases m:p.f>p.n
   ·have d3:decide (p.f>p.n)=true:=by simpa using m
    go_wp2_with fail;go_quiet (fail);go_wp2;go_ret;exact⟨by have:=k a;simp;omega,(k c).drewN _⟩
   have d3:decide (p.f>p.n)=false:=by simpa using m
   have n:=i (show 0<=p.I/\p.I<=200/\0<=p.R/\p.R<=p.I/\0<=p.n/\p.n<=p.R/\0<=p.f/\p.f<=p.n by have:=k a;omega);clear a;go_wp2_with fail;go_quiet (fail);go_wp2;exact⟨⟨.inr (.inr (.inr (.inr ⟨rfl,n⟩))),(k c).drewN _,(k j).drewN _⟩,by simp[intOf]⟩
  ·go_wp2;go_ret;exact⟨by have:=k a;simp;omega,k c⟩
structure mI (p:O) (w wr:U) (v:V) (m:Nat):Prop where
 mod:G No w wr
 box:X wr w.heap.size #[y K p.rows,y K p.w,y K p.front,y K p.I,y K p.R,y K p.n,y K p.f] 39
 row:wr.ownsRow 0 63 6 v m (((q p).take m).flatMap aX)
 new:∀k,v.ownBlock=E k->w.heap.size<k
theorem Ec(p:O) (R C:Nat) (i:p.rows=(R:Int)) (e:p.w=(C:Int)) (a c:Nat) (k:1<=a/\a<=R) (hc:1<=c/\c<=C):((q p).take ((a - 1)* C+(c - 1)+1)).flatMap aX=((q p).take ((a - 1)* C+(c - 1))).flatMap aX++[y K a,y K c,y K 0,y K 0,y K 0,y K 0]:=by
 have hlen:(q p).length=R* C:=by
  unfold q;rw[List.length_map,List.length_range,i,e];exact Int.toNat_natCast (R* C)
 have j:(a - 1)* C+(c - 1)<R* C:=by
  have:(a - 1)* C<=(R - 1)* C:=mq _ (by omega);have d:R* C=(R - 1)* C+C:=by
   obtain⟨f,rfl⟩:∃f,R=f+1:=⟨R - 1,by omega⟩;rw[Nat.add_sub_cancel,Nat.add_mul,Nat.one_mul]
  omega
 rw[lq,cK (by omega)];simp only[Option.toList_some,lG,lh,List.flatMap_nil,dR];congr 1;have d:(q p)[(a - 1)* C+(c - 1)]'(by omega)=⟨a,c,0,0,0,0⟩:=by
  unfold q;rw[List.getElem_map,List.getElem_range,e];have d1:(((a - 1)* C+(c - 1):Nat):Int) / (C:Int)=((a - 1:Nat):Int):=by
   rw[<-Int.natCast_ediv,Nat.mul_comm,Nat.mul_add_div (by omega),Nat.div_eq_of_lt (by omega),Nat.add_zero]
  have d2:(((a - 1)* C+(c - 1):Nat):Int) % (C:Int)=((c - 1:Nat):Int):=by
   rw[<-Int.natCast_emod,Nat.mul_comm,Nat.mul_add_mod,Nat.mod_eq_of_lt (by omega)]
  rw[d1,d2];congr 1<;>omega
 rw[d];rfl
theorem mI.step{p:O} {n wr w3:U} {m v':V} {R C f c e:Nat} (t:p.rows=(R:Int)) (s:p.w=(C:Int)) (x:1<=f/\f<=R) (hc:1<=c/\c<=C) (o:e=(f - 1)* C+(c - 1)) (d:mI p n wr m e) (k:Obj) (w:w3.ownsRow 0 63 6 v' (e+1) ((((q p).take e).flatMap aX)++[y K f,y K c,y K 0,y K 0,y K 0,y K 0])) (u:(wr.alloc k).grownBy w3 m.ownBlock) (hs:dY (wr.alloc k) m v'):
  mI p n w3 v' (e+1):=by
 have r:G (λa=>n.heap.size<a) wr w3:=((G.refl _ wr).alloc k).grown u (λa j=>.inl (d.new a j));refine⟨d.mod.trans' r (λz hi hl=>by omega),r.has d.box (by omega),?_,λa j=>?_⟩
 ·rw[o,Ec p R C t s f c x hc,<-o];exact w
 ·obtain i|i:=hs a j
  ·exact d.new a i
  ·have:=d.box.lt;simp at i;omega
theorem ux(p:O) (S:p.sized=true) (j:U):Calls T 84 #[eb p] j λao w'=>∃f cap,ao=g (C (E ⟨f,0,F⟩) (q p).length cap)/\aE w' f cap (q p)/\j.heap.size<f/\G No j w':=by
 have hb:=S;simp only[O.sized,decide_eq_true_eq] at hb;obtain⟨e,D⟩:∃e:Nat,p.rows=(e:Int):=⟨p.rows.toNat,by omega⟩;obtain⟨c,A⟩:∃c:Nat,p.w=(c:Int):=⟨p.w.toNat,by omega⟩;have aW:1<=e/\e<=20:=by omega
 have aV:1<=c/\c<=6:=by omega
 have hlen:(q p).length=e* c:=by
  unfold q;rw[List.length_map,List.length_range,D,A];exact Int.toNat_natCast (e* c)
 have t:mI p j (j.alloc (v #[y K p.rows,y K p.w,y K p.front,y K p.I,y K p.R,y K p.n,y K p.f] 39)) (C F 0 0) 0:=
  ⟨(G.refl No j).alloc _,X.new j _ _,by simpa using cJ _ _ _ _,λa4 ax=>by simp[az] at ax⟩
 have t:=i t;have ae:=i hlen
 have P:=i λ(wr:U) (ad:V) (B:mI p j wr ad (e* c))=>(show ∃f cap,ad=C (E ⟨f,0,F⟩) (q p).length cap/\aE wr f cap (q p)/\j.heap.size<f/\G No j wr from by
  have J:=B.row
  rw[List.take_of_length_le (by rw[hlen];exact bK _),<-hlen] at J
  have a0:0<(q p).length:=by rw[hlen];exact Nat.mul_pos (by omega) (by omega)
  have aD:=J
  obtain⟨_,Y|⟨f,cap,aU,hv,_⟩⟩:=aD
  ·omega
  ·subst hv
   exact⟨f,cap,rfl,(tW J).2,B.new f rfl,B.mod⟩)
 have z:=i D;have w:=i A;clear hlen S hb D A;obtain⟨aL,aM,aN,aO,aQ⟩:=info_parts pY;unfold eb;go_enter func84,ntmps84;go_wp2_with fail;go_loopw [3,4] (λL M wr=>∃(a:Nat) (n:Option Addr) (o:Nat),M=y K a/\1<=a/\a<=e+1/\L=C n ((a - 1)* c) o/\Hid (mI p j wr (C n ((a - 1)* c) o) ((a - 1)* c))) (λ_ M _=>e+1 - (intOf M).toNat)
 case atStart=>exact⟨1,F,0,rfl,by omega,by omega,by simp,by simpa using t⟩
 case round=>
  obtain⟨a,n,o,rfl,aF,a1,rfl,r⟩:=hrel;clear t;have au:=(k r).box.cell;by_cases Y:a<=e
  ·have ap:(a:Int)<=p.rows:=by rw[k z];omega
   have a2:K.wrap ((a:Int)+1)=((a+1:Nat):Int):=by rw[aB _ (by omega) (by omega)];rfl
   go_wp2_with fail;go_loopw [3,5] (λL N aS=>∃(d:Nat) (n:Option Addr) (o:Nat),N=y K d/\1<=d/\d<=c+1/\L=C n ((a - 1)* c+(d - 1)) o/\Hid (mI p j aS (C n ((a - 1)* c+(d - 1)) o) ((a - 1)* c+(d - 1)))) (λ_ N _=>c+1 - (intOf N).toNat)
   case atStart=>exact⟨1,n,o,rfl,by omega,by omega,by simp,by simpa using r⟩
   case round=>
    obtain⟨d,Q,R,rfl,av,aY,rfl,s⟩:=hrel;clear r au;have aX:=(k s).box.cell;by_cases aq:d<=c
    ·have ar:(d:Int)<=p.w:=by rw[k w];omega
     have aZ:K.wrap ((d:Int)+1)=((d+1:Nat):Int):=by rw[aB _ (by omega) (by omega)];rfl
     have aA:(a - 1)* c+(d - 1)<=120:=by
      have:(a - 1)* c<=19* 6:=Nat.mul_le_mul (by omega) (by omega);omega
     have m:(a - 1)* c+(d+1 - 1)=(a - 1)* c+(d - 1)+1:=by omega
     have aH:1<=a/\a<=e:=⟨aF,Y⟩;have H:1<=d/\d<=c:=⟨av,aq⟩;have ay:∃u,u=(a - 1)* c+(d - 1):=⟨_,rfl⟩;obtain⟨u,I⟩:=ay;rw[<-I] at s aA m ⊢;have ah:=i (((G.refl No wr).alloc (v #[y K a,y K d,y K 0,y K 0,y K 0,y K 0] 63)).owns (k s).row (λ_ _ aT=>aT))
     have ai:=i (show Reads (wr.alloc (v #[y K a,y K d,y K 0,y K 0,y K 0,y K 0] 63)) (C (E ⟨wr.heap.size,0,F⟩) 1 1) 1 [y K a,y K d,y K 0,y K 0,y K 0,y K 0] from
      .inr ⟨⟨wr.heap.size,0,F⟩,1,rfl,λa3 aR hu=>by
       rw[dx,bg,(X.new wr #[y K a,y K d,y K 0,y K 0,y K 0,y K 0] 63).cell,<-dE]
       exact hu⟩)
     have aj:=i λ(w3:U) (v':V)=>mI.step (w3:=w3) (v':=v') (k z) (k w) aH H I (k s) (v #[y K a,y K d,y K 0,y K 0,y K 0,y K 0] 63);have x:=i m;clear m I
     go_wp2_with (first|(at_builtin;refine eI rfl (.tmp 18) (.tmp 23) 61 rfl 63 aL _ 6 48 nW aM aN aO aQ rfl (by decide) (C Q u R) u _ (by simp[Z]) (by exact k ah) (C (E ⟨wr.heap.size,0,F⟩) 1 1) 1 [y K a,y K d,y K 0,y K 0,y K 0,y K 0] (by simp[Z]) (by exact k ai) rfl (by intro aR hu;simp at hu;obtain rfl|rfl|rfl:=hu<;>rfl) (by unfold maxLen;omega) (by omega) ?_;intro v' w3 aa aw aK;obtain⟨ak,am,rfl⟩:=aC aa))
     exact⟨⟨d+1,ak,am,rfl,by omega,by omega,by rw[k x],by rw[k x];exact(k aj) _ _ aa aw aK⟩,by simp[intOf];omega⟩
    ·have ar:¬(d:Int)<=p.w:=by rw[k w];omega
     have H:d=c+1:=by omega
     subst H;have m:(a - 1)* c+(c+1 - 1)=(a+1 - 1)* c:=by
      obtain⟨ab,rfl⟩:∃ab,a=ab+1:=⟨a - 1,by omega⟩;rw[Nat.add_sub_cancel,Nat.add_sub_cancel,Nat.add_sub_cancel,Nat.add_mul,Nat.one_mul]
     rw[m] at s ⊢;have x:=i m;clear m;go_wp2;exact⟨⟨a+1,Q,R,rfl,by omega,by omega,rfl,s⟩,by simp[intOf];omega⟩
  ·have ap:¬(a:Int)<=p.rows:=by rw[k z];omega
   have aI:a=e+1:=by omega
   subst aI;have m:(e+1 - 1)* c=e* c:=by rw[Nat.add_sub_cancel]
   rw[m] at r ⊢;obtain⟨f,cap,hv,f1,f2,f3⟩:=(k P) _ _ (k r);have af:=i f1;have ag:=i f3;clear r m f1 f3 P ae;go_wp2;go_ret;exact⟨f,cap,by rw[<-hv];rfl,k af,f2,k ag⟩
open Go.ChangeMaps (setBlock)
set_option maxHeartbeats 2000000
theorem Ed(p:Nat) (c:N) (now:Int) (f u:V) (s:c.kind=2) (e:U) (hA:∀a,G No e a->Calls T 99 #[b (E ⟨p,0,F⟩),l #[y K c.j,y K c.ac]] a λd w'=>d=g (W true)/\G No a w') (r:∀a,G No e a->Calls T 100 #[b (E ⟨p,0,F⟩),l (Q c),y K now] a λd w'=>d=g (h #[f,u])/\G No a w'):
  Calls T 77 #[b (E ⟨p,0,F⟩),l (Q c),y K now] e λd w'=>d=g (h #[f,u])/\G No e w':=by
 have w:=i hA;have o:=i r;have m:=i ((G.refl No e).alloc (v (Q c) 41));have j:=i (X.new e (Q c) 41);unfold Q at o m j ⊢;rw[s] at o m j ⊢;clear hA r s;go_enter func77,ntmps77;go_wp2_with fail;refine((k w) _ (k m)).mono ?_;rintro d B ⟨rfl,n⟩;have A:=(n.has (k j) (λf=>f)).cell;have q:=i ((k m).trans n);have z:=i (n.has (k j) (λf=>f));clear n;go_wp2_with fail;refine((k o) _ (k q)).mono ?_
 rintro d w3 ⟨rfl,t⟩;have x:=i ((k q).trans t);clear t;go_wp2;go_ret2;exact⟨rfl,k x⟩
theorem Ee(p:Nat) (c:N) (now:Int) (f u:V) (s:c.kind=3) (e:U) (hA:∀a,G No e a->Calls T 99 #[b (E ⟨p,0,F⟩),l #[y K c.j,y K c.ac]] a λd w'=>d=g (W true)/\G No a w') (r:∀a,G No e a->Calls T 101 #[b (E ⟨p,0,F⟩),l (Q c)] a λd w'=>d=g (h #[f,u])/\G No a w'):Calls T 77 #[b (E ⟨p,0,F⟩),l (Q c),y K now] e λd w'=>d=g (h #[f,u])/\G No e w':=by
 have w:=i hA;have o:=i r;have m:=i ((G.refl No e).alloc (v (Q c) 41));have j:=i (X.new e (Q c) 41);unfold Q at o m j ⊢;rw[s] at o m j ⊢;clear hA r s;go_enter func77,ntmps77;go_wp2_with fail;refine((k w) _ (k m)).mono ?_;rintro d B ⟨rfl,n⟩;have A:=(n.has (k j) (λf=>f)).cell;have q:=i ((k m).trans n);have z:=i (n.has (k j) (λf=>f));clear n;go_wp2_with fail;refine((k o) _ (k q)).mono ?_
 rintro d w3 ⟨rfl,t⟩;have x:=i ((k q).trans t);clear t;go_wp2;go_ret2;exact⟨rfl,k x⟩
theorem Ef(p:Nat) (c:N) (now:Int) (f u:V) (s:c.kind=4) (e:U) (hA:∀a,G No e a->Calls T 99 #[b (E ⟨p,0,F⟩),l #[y K c.j,y K c.ac]] a λd w'=>d=g (W true)/\G No a w') (r:∀a,G No e a->Calls T 102 #[b (E ⟨p,0,F⟩),l (Q c)] a λd w'=>d=g (h #[f,u])/\G No a w'):Calls T 77 #[b (E ⟨p,0,F⟩),l (Q c),y K now] e λd w'=>d=g (h #[f,u])/\G No e w':=by
 have w:=i hA;have o:=i r;have m:=i ((G.refl No e).alloc (v (Q c) 41));have j:=i (X.new e (Q c) 41);unfold Q at o m j ⊢;rw[s] at o m j ⊢;clear hA r s;go_enter func77,ntmps77;go_wp2_with fail;refine((k w) _ (k m)).mono ?_;rintro d B ⟨rfl,n⟩;have A:=(n.has (k j) (λf=>f)).cell;have q:=i ((k m).trans n);have z:=i (n.has (k j) (λf=>f));clear n;go_wp2_with fail;refine((k o) _ (k q)).mono ?_
 rintro d w3 ⟨rfl,t⟩;have x:=i ((k q).trans t);clear t;go_wp2;go_ret2;exact⟨rfl,k x⟩
theorem Eg(n:Nat) (d:N) (now:Int) (e z:V) (w:d.kind=5) (f:U) (hA:∀a,G No f a->Calls T 99 #[b (E ⟨n,0,F⟩),l #[y K d.j,y K d.ac]] a λc w'=>c=g (W true)/\G No a w') (t:∀a,G No f a->Calls T 99 #[b (E ⟨n,0,F⟩),l #[y K d.bN,y K d.bO]] a λc w'=>c=g (W true)/\G No a w')
  (u:∀a,G No f a->Calls T 103 #[b (E ⟨n,0,F⟩),l (Q d)] a λc w'=>c=g (h #[e,z])/\G No a w'):Calls T 77 #[b (E ⟨n,0,F⟩),l (Q d),y K now] f λc w'=>c=g (h #[e,z])/\G No f w':=by
 have B:=i hA;have p:=i u;have D:=i t;have m:=i ((G.refl No f).alloc (v (Q d) 41));have j:=i (X.new f (Q d) 41);unfold Q at p m j ⊢;rw[w] at p m j ⊢;clear hA u t w;go_enter func77,ntmps77;go_wp2_with fail;refine((k B) _ (k m)).mono ?_;rintro c L ⟨rfl,o⟩;have I:=(o.has (k j) (λe=>e)).cell;have r:=i ((k m).trans o);have A:=i (o.has (k j) (λe=>e));clear o;go_wp2_with fail
 refine((k D) _ (k r)).mono ?_;rintro c M ⟨rfl,q⟩;have J:=(q.has (k A) (λe=>e)).cell;have s:=i ((k r).trans q);clear q I;go_wp2_with fail;refine((k p) _ (k s)).mono ?_;rintro c w3 ⟨rfl,x⟩;have H:=i ((k s).trans x);clear x;go_wp2;go_ret2;exact⟨rfl,k H⟩
theorem Eh(p:Nat) (c:N) (now:Int) (f u:V) (s:c.kind=6) (e:U) (hA:∀a,G No e a->Calls T 99 #[b (E ⟨p,0,F⟩),l #[y K c.j,y K c.ac]] a λd w'=>d=g (W true)/\G No a w') (r:∀a,G No e a->Calls T 104 #[b (E ⟨p,0,F⟩),l (Q c)] a λd w'=>d=g (h #[f,u])/\G No a w'):Calls T 77 #[b (E ⟨p,0,F⟩),l (Q c),y K now] e λd w'=>d=g (h #[f,u])/\G No e w':=by
 have w:=i hA;have o:=i r;have m:=i ((G.refl No e).alloc (v (Q c) 41));have j:=i (X.new e (Q c) 41);unfold Q at o m j ⊢;rw[s] at o m j ⊢;clear hA r s;go_enter func77,ntmps77;go_wp2_with fail;refine((k w) _ (k m)).mono ?_;rintro d B ⟨rfl,n⟩;have A:=(n.has (k j) (λf=>f)).cell;have q:=i ((k m).trans n);have z:=i (n.has (k j) (λf=>f));clear n;go_wp2_with fail;refine((k o) _ (k q)).mono ?_
 rintro d w3 ⟨rfl,t⟩;have x:=i ((k q).trans t);clear t;go_wp2;go_ret2;exact⟨rfl,k x⟩
theorem Ei(p:Nat) (c:N) (now:Int) (f u:V) (s:c.kind=7) (e:U) (hA:∀a,G No e a->Calls T 99 #[b (E ⟨p,0,F⟩),l #[y K c.j,y K c.ac]] a λd w'=>d=g (W true)/\G No a w') (r:∀a,G No e a->Calls T 105 #[b (E ⟨p,0,F⟩),l (Q c)] a λd w'=>d=g (h #[f,u])/\G No a w'):Calls T 77 #[b (E ⟨p,0,F⟩),l (Q c),y K now] e λd w'=>d=g (h #[f,u])/\G No e w':=by
 have w:=i hA;have o:=i r;have m:=i ((G.refl No e).alloc (v (Q c) 41));have j:=i (X.new e (Q c) 41);unfold Q at o m j ⊢;rw[s] at o m j ⊢;clear hA r s;go_enter func77,ntmps77;go_wp2_with fail;refine((k w) _ (k m)).mono ?_;rintro d B ⟨rfl,n⟩;have A:=(n.has (k j) (λf=>f)).cell;have q:=i ((k m).trans n);have z:=i (n.has (k j) (λf=>f));clear n;go_wp2_with fail;refine((k o) _ (k q)).mono ?_
 rintro d w3 ⟨rfl,t⟩;have x:=i ((k q).trans t);clear t;go_wp2;go_ret2;exact⟨rfl,k x⟩
theorem Ej(m:Nat) (a:N) (now:Int) (d:U) (hA:∀f,G No d f->Calls T 99 #[b (E ⟨m,0,F⟩),l #[y K a.j,y K a.ac]] f λc w'=>c=g (W false)/\G No f w'):(j:a.kind≠9)->Calls T 77 #[b (E ⟨m,0,F⟩),l (Q a),y K now] d λc w'=>c=g (refuse 5)/\G No d w':=by
 intro j;have o:=i hA;have hd:(a.kind==9)=false:=by simp[j]
 have e:=i ((G.refl No d).alloc (v (Q a) 41));unfold Q at e ⊢;clear hA j;go_enter func77,ntmps77;go_wp2_with fail;refine((k o) _ (k e)).mono ?_;rintro c q ⟨rfl,n⟩;have p:=i ((k e).trans n);clear n;go_wp2;go_ret2;exact⟨rfl,k p⟩
theorem Ek(m:Nat) (a:N) (now:Int) (q:a.kind=5) (e:U) (hA:∀c,G No e c->Calls T 99 #[b (E ⟨m,0,F⟩),l #[y K a.j,y K a.ac]] c λd w'=>d=g (W true)/\G No c w') (p:∀c,G No e c->Calls T 99 #[b (E ⟨m,0,F⟩),l #[y K a.bN,y K a.bO]] c λd w'=>d=g (W false)/\G No c w'):
  Calls T 77 #[b (E ⟨m,0,F⟩),l (Q a),y K now] e λd w'=>d=g (refuse 5)/\G No e w':=by
 have s:=i hA;have t:=i p;have f:=i ((G.refl No e).alloc (v (Q a) 41));have j:=i (X.new e (Q a) 41);unfold Q at f j ⊢;rw[q] at f j ⊢;clear hA p q;go_enter func77,ntmps77;go_wp2_with fail;refine((k s) _ (k f)).mono ?_;rintro d z ⟨rfl,n⟩;have w:=(n.has (k j) (λx=>x)).cell;have o:=i ((k f).trans n);clear n;go_wp2_with fail;refine((k t) _ (k o)).mono ?_;rintro d A ⟨rfl,r⟩;have u:=i ((k o).trans r)
 clear r w;go_wp2;go_ret2;exact⟨rfl,k u⟩
def aq(p:O) (c:List B) (d a:Int):B:=c.getD (p.idx d a) jc
def aH(p:O) (c:List B) (a:N) (now:Int):Int:=
 if a.kind=9 then(if a.p.sized=true/\¬(a.p.rows* a.p.w<(ba c:Int)) then 0 else 4)
 else if p.has a.j a.ac=false\/(a.kind=5/\p.has a.bN a.bO=false) then 5
 else if a.kind=2 then(if bP a≠0 then bP a else if a.time<=now\/a.time>now+100 then 8 else dF (aq p c a.j a.ac).st (M.leftOf p c a.cls.toNat))
 else if a.kind=3 then(if bP a≠0 then bP a else if (aq p c a.j a.ac).st=1/\(aq p c a.j a.ac).pa=a.aI/\(aq p c a.j a.ac).cl=a.cls then 0 else dF (aq p c a.j a.ac).st (M.leftOf p c a.cls.toNat))
 else if a.kind=4 then cC (aq p c a.j a.ac).st (aq p c a.j a.ac).pa a.aI
 else if a.kind=5 then(if cC (aq p c a.j a.ac).st (aq p c a.j a.ac).pa a.aI≠0 then cC (aq p c a.j a.ac).st (aq p c a.j a.ac).pa a.aI else if (aq p c a.bN a.bO).st≠0 then 9 else 0)
 else if a.kind=6 then(if (aq p c a.j a.ac).st≠0 then 9 else 0)
 else(if (aq p c a.j a.ac).st≠3 then 10 else 0)
def fC(a:N):V:=
 if a.kind=9 then mH a.p
 else if a.kind=2 then eM a.j a.ac 1 a.aI a.cls a.time
 else if a.kind=3 then eM a.j a.ac 2 a.aI a.cls 0
 else if a.kind=5 then nQ a.j a.ac a.bN a.bO
 else if a.kind=6 then eM a.j a.ac 3 0 0 0
 else lE a.j a.ac
def dg(p:O) (c:List B) (a:N):List B:=
 if a.kind=9 then eY (eN p a.p) c
 else if a.kind=2 then c.set (p.idx a.j a.ac) ⟨a.j,a.ac,1,a.aI,a.cls,a.time⟩
 else if a.kind=3 then c.set (p.idx a.j a.ac) ⟨a.j,a.ac,2,a.aI,a.cls,0⟩
 else if a.kind=5 then(c.set (p.idx a.j a.ac) (aq p c a.j a.ac).aS).set (p.idx a.bN a.bO) ⟨a.bN,a.bO,(aq p c a.j a.ac).st,(aq p c a.j a.ac).pa,(aq p c a.j a.ac).cl,(aq p c a.j a.ac).un⟩
 else if a.kind=6 then c.set (p.idx a.j a.ac) ⟨a.j,a.ac,3,0,0,0⟩
 else c.set (p.idx a.j a.ac) (aq p c a.j a.ac).aS
def fT(p:O) (a:N):O:=if a.kind=9 then eN p a.p else p.next
def jH(p:O) (c:List B) (a:N) (now:Int):V:=if aH p c a now=0 then cZ (fC a) else refuse (aH p c a now)
theorem kF{p:O} {d:List B} (i:L p d) {c a:Int} (f:p.has c a=true):∃hi:p.idx c a<d.length,aq p d c a=d[p.idx c a]/\d[p.idx c a].row=c/\d[p.idx c a].P=a:=by
 have e:p.idx c a<d.length:=aM.wf.gV i f;have j:=aM.wf.nF i f;refine⟨e,?_,j⟩;unfold aq;rw[nT,cK e];rfl
theorem jV{a:N} (c:bP a=0):0<=a.cls/\a.cls<4/\1<=a.aI/\a.aI<=1000:=by
 unfold bP at c;split at c
 ·omega
 ·split at c
  ·omega
  ·omega
theorem El{r:U} {j:Nat} {p:O} {c:List B} {H:Nat} {es:List t} {ah:Nat} (n:bo r j p c H es ah) (S:L p c) (a:N) (now:Int) (aI:0<=now/\now<=4611686018427387000) (aO:2<=a.kind/\a.kind<=9/\a.kind≠8):Calls T 77 #[b (E ⟨j,0,F⟩),l (Q a),y K now] r λk w'=>k=g (jH p c a now)/\G No r w':=by
 have ad:∀af aa d,G No r d->Calls T 99 #[b (E ⟨j,0,F⟩),l #[y K af,y K aa]] d λk w'=>k=g (W (p.has af aa))/\G No d w':=λaf aa d f=>
  oY j af aa p.rows p.w _ d (f.has n.has (λe=>e)) rfl rfl
 by_cases o:a.kind=9
 ·have hval:∃e i,qm a.p (ba c)=h #[e,i]:=by
   unfold qm;split<;>exact⟨_,_,rfl⟩
  obtain⟨e,i,m⟩:=hval;refine(DZ j a now e i o r (λd f=>?_)).mono ?_
  ·have:=DY j H _ a.p (ba c) d (f.has n.has (λe=>e)) rfl (λs u ty=>by
    have aF:=(f.trans u).map n.map (λe=>e)
    have:=DX s H ah es aF ty
    rw[n.rel.size] at this
    exact this) (λhs=>by
     simp only[O.sized,decide_eq_true_eq] at hs
     have f1:0<=a.p.rows* a.p.w:=iK (by omega) (by omega)
     have f2:a.p.rows* a.p.w<=20* 6:=Int.mul_le_mul (by omega) (by omega) (by omega) (by omega)
     exact aB _ (by omega) (by omega))
   rw[m] at this;exact this
  ·rintro k w' ⟨rfl,q⟩;refine⟨?_,q⟩;rw[<-m];congr 1;unfold jH qm;have x:aH p c a now=(if a.p.sized=true/\¬(a.p.rows* a.p.w<(ba c:Int)) then 0 else 4):=by unfold aH;rw[if_pos o]
   have w:fC a=mH a.p:=by unfold fC;rw[if_pos o]
   rw[x,w];by_cases ae:a.p.sized=true/\¬(a.p.rows* a.p.w<(ba c:Int))
   ·rw[if_pos ae,if_pos ae,if_pos rfl]
   ·rw[if_neg ae,if_neg ae,if_neg (by omega)]
 by_cases ab:p.has a.j a.ac=true
 case neg=>
  have am:p.has a.j a.ac=false:=by simpa using ab
  refine(Ej j a now r (λd f=>by have:=ad a.j a.ac d f;rw[am] at this;exact this) o).mono ?_;rintro k w' ⟨rfl,q⟩;refine⟨?_,q⟩;simp[jH,aH,o,am]
 have hA:=λd f=>by have:=ad a.j a.ac d f;rw[ab] at this;exact this
 obtain⟨hi,ao,ay,ax⟩:=kF S ab;have hs:=n.sees S _ hi;rw[ay,ax,<-ao] at hs;have aL:(aq p c a.j a.ac).wf:=by rw[ao];exact S.cQ _ (dD hi)
 obtain⟨ag,aK⟩:∃ag:Nat,(aq p c a.j a.ac).st=ag:=⟨(aq p c a.j a.ac).st.toNat,by have:=aL.kW;omega⟩;have aj:∀d,G No r d->Calls T 119 #[l (Q a)] d λk w'=>k=g (y K (bP a))/\G No d w':=λd f=>DM a d;have hS:bP a=0->∀d,G No r d->Calls T 120 #[b (E ⟨j,0,F⟩),l (Q a)] d λk w'=>k=g (y K (dF (aq p c a.j a.ac).st (M.leftOf p c a.cls.toNat)))/\G No d w':=λhb d f=>by
  have aN:=jV hb;refine DO j H a.cls.toNat (by omega) _ a (by omega) _ _ _ _ _ d (f.has n.has (λe=>e)) rfl ?_ (hs.on f);have:a.cls.toNat=0\/a.cls.toNat=1\/a.cls.toNat=2\/a.cls.toNat=3:=by omega
  obtain k|k|k|k:=this<;>(rw[k];rfl)
 have ak:∀d,G No r d->Calls T 121 #[b (E ⟨j,0,F⟩),l (Q a)] d λk w'=>k=g (y K (cC (aq p c a.j a.ac).st (aq p c a.j a.ac).pa a.aI))/\G No d w':=λd f=>by
  have ar:=hs.on f;rw[aK] at ar ⊢;exact DP j H ag _ a _ _ _ d (f.has n.has (λe=>e)) rfl ar
 have D:¬(p.has a.j a.ac=false\/(a.kind=5/\p.has a.bN a.bO=false))\/(a.kind=5/\p.has a.bN a.bO=false):=by
  by_cases aw:a.kind=5/\p.has a.bN a.bO=false
  ·exact .inr aw
  ·left;rintro(n|n);rw[ab] at n;exact absurd n (by simp);exact aw n
 obtain D|⟨ai,ap⟩:=D
 case inr=>
  refine(Ek j a now ai r hA (λd f=>by have:=ad a.bN a.bO d f;rw[ap] at this;exact this)).mono ?_;rintro k w' ⟨rfl,q⟩;refine⟨?_,q⟩;simp[jH,aH,ai,ap]
 by_cases z:a.kind=2
 ·have hval:∃e i,iT a now (bP a) (dF (aq p c a.j a.ac).st (M.leftOf p c a.cls.toNat))=h #[e,i]:=by
   unfold iT;(repeat' split)<;>exact⟨_,_,rfl⟩
  obtain⟨e,i,m⟩:=hval;refine(Ed j a now e i z r hA (λd f=>?_)).mono ?_
  ·have:=DQ j a now _ _ aI d (λs u=>aj s (f.trans u)) (λhb s u=>hS hb s (f.trans u));rw[m] at this;exact this
  ·rintro k w' ⟨rfl,q⟩;refine⟨?_,q⟩;rw[<-m];congr 1;have x:aH p c a now=(if bP a≠0 then bP a else if a.time<=now\/a.time>now+100 then 8 else dF (aq p c a.j a.ac).st (M.leftOf p c a.cls.toNat)):=by
    unfold aH;rw[if_neg o,if_neg D,if_pos z]
   have w:fC a=eM a.j a.ac 1 a.aI a.cls a.time:=by unfold fC;rw[if_neg o,if_pos z]
   unfold jH iT;rw[x,w];by_cases hb:bP a=0
   ·by_cases J:a.time<=now\/a.time>now+100
    ·simp only[hb,ne_eq,not_true_eq_false,if_false,if_pos J];simp
    ·simp only[hb,ne_eq,not_true_eq_false,if_false,if_neg J];by_cases I:dF (aq p c a.j a.ac).st (M.leftOf p c a.cls.toNat)=0<;>simp[I]
   ·simp[hb]
 by_cases A:a.kind=3
 ·have hval:∃e i,gB a (bP a) (aq p c a.j a.ac).st (aq p c a.j a.ac).pa (aq p c a.j a.ac).cl (dF (aq p c a.j a.ac).st (M.leftOf p c a.cls.toNat))=h #[e,i]:=by
   unfold gB;(repeat' split)<;>exact⟨_,_,rfl⟩
  obtain⟨e,i,m⟩:=hval;refine(Ee j a now e i A r hA (λd f=>?_)).mono ?_
  ·have:=DV j H _ a _ _ _ _ _ _ d (f.has n.has (λe=>e)) rfl (hs.on f) (λs u=>aj s (f.trans u)) (λhb s u=>hS hb s (f.trans u));rw[m] at this;exact this
  ·rintro k w' ⟨rfl,q⟩;refine⟨?_,q⟩;rw[<-m];congr 1;have x:aH p c a now=(if bP a≠0 then bP a else if (aq p c a.j a.ac).st=1/\(aq p c a.j a.ac).pa=a.aI/\(aq p c a.j a.ac).cl=a.cls then 0 else dF (aq p c a.j a.ac).st (M.leftOf p c a.cls.toNat)):=by
    unfold aH;rw[if_neg o,if_neg D,if_neg z,if_pos A]
   have w:fC a=eM a.j a.ac 2 a.aI a.cls 0:=by unfold fC;rw[if_neg o,if_neg z,if_pos A]
   unfold jH gB;rw[x,w];by_cases hb:bP a=0
   ·by_cases J:(aq p c a.j a.ac).st=1/\(aq p c a.j a.ac).pa=a.aI/\(aq p c a.j a.ac).cl=a.cls
    ·simp only[hb,ne_eq,not_true_eq_false,if_false,if_pos J];simp
    ·simp only[hb,ne_eq,not_true_eq_false,if_false,if_neg J];by_cases I:dF (aq p c a.j a.ac).st (M.leftOf p c a.cls.toNat)=0<;>simp[I]
   ·simp[hb]
 by_cases X:a.kind=4
 ·have hval:∃e i,mD a (cC (aq p c a.j a.ac).st (aq p c a.j a.ac).pa a.aI)=h #[e,i]:=by
   unfold mD;(repeat' split)<;>exact⟨_,_,rfl⟩
  obtain⟨e,i,m⟩:=hval;refine(Ef j a now e i X r hA (λd f=>?_)).mono ?_
  ·have:=DR j a _ d (λs u=>ak s (f.trans u));rw[m] at this;exact this
  ·rintro k w' ⟨rfl,q⟩;refine⟨?_,q⟩;rw[<-m];congr 1;have x:aH p c a now=cC (aq p c a.j a.ac).st (aq p c a.j a.ac).pa a.aI:=by
    unfold aH;rw[if_neg o,if_neg D,if_neg z,if_neg A,if_pos X]
   have w:fC a=lE a.j a.ac:=by unfold fC;rw[if_neg o,if_neg z,if_neg A,if_neg (by omega),if_neg (by omega)]
   unfold jH mD;rw[x,w];by_cases I:cC (aq p c a.j a.ac).st (aq p c a.j a.ac).pa a.aI=0<;>simp[I]
 by_cases P:a.kind=5
 ·have av:p.has a.bN a.bO=true:=by
   by_cases J:p.has a.bN a.bO=true
   ·exact J
   ·exact absurd (.inr ⟨P,by simpa using J⟩) D
  obtain⟨aA,aD,aE,aC⟩:=kF S av;have au:=n.sees S _ aA;rw[aE,aC,<-aD] at au;have hval:∃e i,kC a (cC (aq p c a.j a.ac).st (aq p c a.j a.ac).pa a.aI) (aq p c a.bN a.bO).st=h #[e,i]:=by
   unfold kC;(repeat' split)<;>exact⟨_,_,rfl⟩
  obtain⟨e,i,m⟩:=hval;refine(Eg j a now e i P r hA (λd f=>by have:=ad a.bN a.bO d f;rw[av] at this;exact this) (λd f=>?_)).mono ?_
  ·have:=DS j H _ a _ _ _ _ _ d (f.has n.has (λe=>e)) rfl (λ_=>au.on f) (λs u=>ak s (f.trans u));rw[m] at this;exact this
  ·rintro k w' ⟨rfl,q⟩;refine⟨?_,q⟩;rw[<-m];congr 1;have x:aH p c a now=(if cC (aq p c a.j a.ac).st (aq p c a.j a.ac).pa a.aI≠0 then cC (aq p c a.j a.ac).st (aq p c a.j a.ac).pa a.aI else if (aq p c a.bN a.bO).st≠0 then 9 else 0):=by
    unfold aH;rw[if_neg o,if_neg D,if_neg z,if_neg A,if_neg X,if_pos P]
   have w:fC a=nQ a.j a.ac a.bN a.bO:=by unfold fC;rw[if_neg o,if_neg z,if_neg A,if_pos P]
   unfold jH kC;rw[x,w];by_cases I:cC (aq p c a.j a.ac).st (aq p c a.j a.ac).pa a.aI=0
   ·by_cases R:(aq p c a.bN a.bO).st=0<;>simp[I,R]
   ·simp[I]
 by_cases Y:a.kind=6
 ·have hval:∃e i,mE a (aq p c a.j a.ac).st=h #[e,i]:=by
   unfold mE;(repeat' split)<;>exact⟨_,_,rfl⟩
  obtain⟨e,i,m⟩:=hval;refine(Eh j a now e i Y r hA (λd f=>?_)).mono ?_
  ·have:=DT j H _ a _ _ _ _ d (f.has n.has (λe=>e)) rfl (hs.on f);rw[m] at this;exact this
  ·rintro k w' ⟨rfl,q⟩;refine⟨?_,q⟩;rw[<-m];congr 1;have x:aH p c a now=if (aq p c a.j a.ac).st≠0 then 9 else 0:=by
    unfold aH;rw[if_neg o,if_neg D,if_neg z,if_neg A,if_neg X,if_neg P,if_pos Y]
   have w:fC a=eM a.j a.ac 3 0 0 0:=by unfold fC;rw[if_neg o,if_neg z,if_neg A,if_neg P,if_pos Y]
   unfold jH mE;rw[x,w];by_cases R:(aq p c a.j a.ac).st=0<;>simp[R]
 have aM:a.kind=7:=by omega
 ·have hval:∃e i,mF a (aq p c a.j a.ac).st=h #[e,i]:=by
   unfold mF;(repeat' split)<;>exact⟨_,_,rfl⟩
  obtain⟨e,i,m⟩:=hval;refine(Ei j a now e i aM r hA (λd f=>?_)).mono ?_
  ·have:=DU j H _ a _ _ _ _ d (f.has n.has (λe=>e)) rfl (hs.on f);rw[m] at this;exact this
  ·rintro k w' ⟨rfl,q⟩;refine⟨?_,q⟩;rw[<-m];congr 1;have x:aH p c a now=if (aq p c a.j a.ac).st≠3 then 10 else 0:=by
    unfold aH;rw[if_neg o,if_neg D,if_neg z,if_neg A,if_neg X,if_neg P,if_neg Y]
   have w:fC a=lE a.j a.ac:=by unfold fC;rw[if_neg o,if_neg z,if_neg A,if_neg P,if_neg Y]
   unfold jH mF;rw[x,w];by_cases R:(aq p c a.j a.ac).st=3<;>simp[R]
set_option maxHeartbeats 4000000
theorem aE.set{r:U} {e cap:Nat} {d:List B} (c:aE r e cap d) (a:Nat) (hi:a<d.length) (j:Nat) (z:j<6) (f:V) (q:B) (hs:dc q=(dc d[a]).setIfInBounds j f):aE (r.setCell ⟨e,a* 6+j,F⟩ f) e cap (d.set a q):=by
 obtain⟨s,t,u,m⟩:=c.cur;refine⟨⟨_,t.set (a* 6+j) f,by simpa using u,λp x A o=>?_⟩,by simpa using c.le,c.max⟩;have n:p<d.length:=by simpa using x
 have w:a* 6+j<s.size:=by
  have:=c.le;omega
 by_cases i:p=a
 ·subst i;simp only[lH];rw[hs];by_cases k:j=A
  ·subst k;rw[ry w,ry (by simpa [dc] using z)]
  ·rw[jS (by omega),jS k];exact m _ n _ o
 ·rw[jS (by omega),nX (λc=>i c.symm)];exact m _ n _ o
theorem aE.Em{i:U} {c cap:Nat} {e:List B} (d:aE i c cap e) {a:Addr} (o:c≠a.block) (f:V):aE (i.setCell a f) c cap e:=by
 obtain⟨j,k,m,n⟩:=d.cur;exact⟨⟨j,k.dB o f,m,n⟩,d.le,d.max⟩
structure eg (w:U) (gf mJ g cap:Nat) (p:O) (l:List B):Prop where
 row:aE w g cap l
 len:l.length<=1000
 ne:gf≠g
 slice:w.cell? ⟨gf,mJ+8,F⟩=E (C (E ⟨g,0,F⟩) l.length cap)
 uy:∀j,j<4->w.cell? ⟨gf,mJ+4+j,F⟩=E (y K (p.aZ j))
theorem eo{S:Nat->Prop} {c w':U} (e:G S c w') {a:Addr} {d:V} (hc:c.cell? a=E d) (hs:¬S a.block):w'.cell? a=E d:=by
 have hl:=jA c a hc;unfold World.cell? at hc ⊢;rw[e.block _ hl hs];exact hc
theorem eg.mod{w w':U} {gf e f cap:Nat} {p:O} {i:List B} (a:eg w gf e f cap p i) (d:G No w w'):eg w' gf e f cap p i:=
 ⟨a.row.mod d (λc=>c),a.len,a.ne,eo d a.slice (λc=>c),λk j=>eo d (a.uy k j) (λc=>c)⟩
structure aY (w w':U) (gf mJ g cap:Nat) (p:O) (l l':List B):Prop where
 row:aE w' g cap l'
 mod:G (λk=>k=g) w w'
theorem aY.same{c w':U} {gf e f cap:Nat} {p:O} {a:List B} (j:eg c gf e f cap p a) (i:G No c w'):aY c w' gf e f cap p a a:=
 ⟨j.row.mod i (λd=>d),i.mono (λ_ _ d=>d.elim)⟩
theorem aY.set{n w':U} {gf i c cap:Nat} {p:O} {m d:List B} (k:aY n w' gf i c cap p m d) (a:Nat) (hi:a<d.length) (j:Nat) (o:j<6) (e:V) (f:B) (hs:dc f=(dc d[a]).setIfInBounds j e):aY n (w'.setCell ⟨c,a* 6+j,F⟩ e) gf i c cap p m (d.set a f):=
 ⟨k.row.set a hi j o e f hs,k.mod.setCell (p:=⟨c,a* 6+j,F⟩) (.inl rfl) e⟩
theorem xJ{p:O} (a:p.limited=true):0<=p.I/\p.I<=200/\0<=p.R/\p.R<=200/\0<=p.n/\p.n<=200/\0<=p.f/\p.f<=200:=by
 simp only[O.limited,decide_eq_true_eq] at a;omega
theorem xK(w gf d e cap t:Nat) (p:O) (f:List B) (a:N) (c:U) (m:eg c gf d e cap p f) (hb:bP a≠0):Calls T 86 #[b (E ⟨w,0,F⟩),b (E ⟨gf,d,F⟩),b (E ⟨e,t* 6,F⟩),l (Q a)] c λj w'=>j=g (y K (bP a))/\aY c w' gf d e cap p f f:=by
 have q:=i λs=>ur a s;have o:=i (show(bP a !=0)=true by simpa using hb);have n:=i m;have r:=i ((G.refl No c).alloc (v (Q a) 41));generalize bP a=x at *;clear m hb;unfold Q at *;go_enter func86,ntmps86;go_wp2_with fail;refine((k q) _).mono ?_;rintro j z ⟨rfl,u⟩;have hd:=k o;go_wp2;go_ret;exact⟨rfl,aY.same (k n) ((k r).trans u)⟩
set_option maxHeartbeats 8000000
theorem aE.gm{d:U} {a cap:Nat} {i:List B} (e:aE d a cap i) (c:Nat):d.frozen? ⟨a,c,F⟩=false:=by
 obtain⟨j,f,_⟩:=e.cur;exact f.frozen c
theorem xL(p:O) (c:List B) (a:Nat):0<=M.leftOf p c a:=by unfold M.leftOf;omega
def jW(now time st a:Int):Int:=if time<=now\/time>now+100 then 8 else dF st a
def iV(e c d:Int) (a:B):Int:=if a.st=1/\a.pa=e/\a.cl=c then 0 else dF a.st d
def gC(c:Int) (a:List B) (d:Nat) (e:B):List B:=if c=0 then a.set d e else a
theorem jX{a:Int} (d:a≠0) (c:List B) (e:Nat) (f:B):gC a c e f=c:=if_neg d
theorem qo(c:List B) (a:Nat) (d:B):gC 0 c a d=c.set a d:=rfl
theorem aY.put{n w':U} {gf i c cap:Nat} {p:O} {k d:List B} {a:Nat} {m:B} (o:aY n w' gf i c cap p k (d.set a m)) (hi:a<d.length) (j:Nat) (q:j<6) (f:V) (e:B) (hs:dc e=(dc m).setIfInBounds j f):aY n (w'.setCell ⟨c,a* 6+j,F⟩ f) gf i c cap p k (d.set a e):=by
 have:=o.set a (by simpa using hi) j q f e (by simpa using hs)
 rwa [List.set_set] at this
theorem En(am gf P m cap e:Nat) (p:O) (f:List B) (D A ac I H n time now:Int) (d:Nat) (c:O) (r:U) (q:eg r gf P m cap p f) (a:B) (ak:∃hi:e<f.length,f[e]=a) (aj:p.limited=true) (ay:d<4) (aK:1<=n/\n<=1000) (aL: -9223372036854775808<=time/\time<=9223372036854775807) (aI:0<=now/\now<=4611686018427387000) (ai:r.cell? ⟨am,1,F⟩=E (y K now)):
  Calls T 86 #[b (E ⟨am,0,F⟩),b (E ⟨gf,P,F⟩),b (E ⟨m,e* 6,F⟩),l #[y K 2,y K D,y K A,y K ac,y K I,y K H,y K n,y K d,y K time,y K c.rows,y K c.w,y K c.front,y K c.I,y K c.R,y K c.n,y K c.f]] r λN w'=>N=g (y K (jW now time a.st (M.leftOf p f d)))/\aY r w' gf P m cap p f (gC (jW now time a.st (M.leftOf p f d)) f e ⟨a.row,a.P,1,n,d,time⟩):=by
 have ag:=i λw=>(show Calls T 111 #[l #[y K 2,y K D,y K A,y K ac,y K I,y K H,y K n,y K d,y K time,y K c.rows,y K c.w,y K c.front,y K c.I,y K c.R,y K c.n,y K c.f]] w λN w'=>N=g (y K 0)/\G No w w' from by
  have:=ur ⟨2,D,A,ac,I,H,n,d,time,c⟩ w
  rw[show bP ⟨2,D,A,ac,I,H,n,d,time,c⟩=0 from by unfold bP;rw[if_neg (by simp only;omega),if_neg (by simp only;omega)]] at this
  exact this)
 have Y:=i λw (Q:G No r w)=>xI gf P m cap p f d ay w ((q.mod Q).row) q.len (q.mod Q).slice (xJ aj) (q.mod Q).uy;have ap:=i λw (Q:G No r w)=>eo Q ai (λo=>o);have u:=i q;have ah:=i ((G.refl No r).alloc (v #[y K 2,y K D,y K A,y K ac,y K I,y K H,y K n,y K d,y K time,y K c.rows,y K c.w,y K c.front,y K c.I,y K c.R,y K c.n,y K c.f] 41))
 have ab:=i (X.new r #[y K 2,y K D,y K A,y K ac,y K I,y K H,y K n,y K d,y K time,y K c.rows,y K c.w,y K c.front,y K c.I,y K c.R,y K c.n,y K c.f] 41);have t:=i ak;clear q ai aj ak;go_enter func86,ntmps86;go_wp2_with fail;refine((k ag) _).mono ?_;rintro N aa ⟨rfl,R⟩;have x:=i ((k ah).trans R);have hb:=(R.has (k ab) (λo=>o)).cell;have aA:=(R.has (k ab) (λo=>o)).lt;have af:=R.has (k ab) (λo=>o)
 have J:=(k u).row.mod (k x) (λo=>o);have au:aa.cell? ⟨m,e* 6+2,F⟩=E (y K a.st):=by obtain⟨hi,j⟩:=k t;rw[<-j];exact J.st e hi
 have av:aa.cell? ⟨m,e* 6+3,F⟩=E (y K a.pa):=by obtain⟨hi,j⟩:=k t;rw[<-j];exact J.pa e hi
 have aw:aa.cell? ⟨m,e* 6+4,F⟩=E (y K a.cl):=by obtain⟨hi,j⟩:=k t;rw[<-j];exact J.cl e hi
 have ax:aa.cell? ⟨m,e* 6+5,F⟩=E (y K a.un):=by obtain⟨hi,j⟩:=k t;rw[<-j];exact J.un e hi
 have aD:=(k ap) _ (k x);clear R J ag ah;by_cases t1:time<=now
 ·have d1:decide (time<=now)=true:=by simpa using t1
  have s:=i (show jW now time a.st (M.leftOf p f d)=8 from if_pos (.inl t1));clear Y;go_wp2_with fail;go_quiet (fail);go_wp2;go_ret;rw[k s,jX (by omega)];exact⟨rfl,aY.same (k u) ((k x).drewN _)⟩
 have d1:decide (time<=now)=false:=by simpa using t1
 have aM:K.wrap (time - now)=time - now:=ey _ (by omega) (by omega);by_cases t2:time - now>100
 ·have d2:decide (time - now>100)=true:=by simpa using t2
  have s:=i (show jW now time a.st (M.leftOf p f d)=8 from if_pos (.inr (by omega)));clear Y;go_wp2_with fail;go_quiet (fail);go_wp2;go_ret;rw[k s,jX (by omega)];exact⟨rfl,aY.same (k u) ((k x).drewN _)⟩
 have d2:decide (time - now>100)=false:=by simpa using t2
 have z:=i (show jW now time a.st (M.leftOf p f d)=dF a.st (M.leftOf p f d) from if_neg (λq=>by obtain q|q:=q;exact t1 q;exact t2 (by omega)));go_wp2_with fail;go_quiet (fail);clear aD;go_wp2_with fail;go_quiet (fail);by_cases hs:a.st=0
 case neg=>
  have ds:(a.st !=0)=true:=by simpa using hs
  have s:=i (show jW now time a.st (M.leftOf p f d)=9 from by rw[k z];unfold dF;rw[if_pos hs]);clear Y z;go_wp2;go_ret;rw[k s,jX (by omega)];exact⟨rfl,aY.same (k u) ((k x).drewN _)⟩
 have ds:(a.st !=0)=false:=by simpa using hs
 have ao:=i λaC=>af.drewN aC;go_wp2_with fail;refine((k Y) _ ((k x).drewN _)).mono ?_;rintro N S ⟨rfl,ae⟩;have ad:=i (((k x).drewN _).trans ae);have aH:=(ae.has ((k ao) _) (λo=>o)).cell;have L:=i ((k u).row.mod (k ad) (λo=>o));have aN:S.cell? ⟨m,e* 6+2,F⟩=E (y K a.st):=by obtain⟨hi,j⟩:=k t;rw[<-j];exact(k L).st e hi
 have aO:S.cell? ⟨m,e* 6+3,F⟩=E (y K a.pa):=by obtain⟨hi,j⟩:=k t;rw[<-j];exact(k L).pa e hi
 have aQ:S.cell? ⟨m,e* 6+4,F⟩=E (y K a.cl):=by obtain⟨hi,j⟩:=k t;rw[<-j];exact(k L).cl e hi
 have aR:S.cell? ⟨m,e* 6+5,F⟩=E (y K a.un):=by obtain⟨hi,j⟩:=k t;rw[<-j];exact(k L).un e hi
 have aE:=(k L).gm;have aF:m≠r.heap.size:=by have:=(k u).row.lt;omega
 have aB:=xL p f d;clear hb ae au av aw ax af aA;by_cases hl:M.leftOf p f d<1
 ·have s:=i (show jW now time a.st (M.leftOf p f d)=11 from by rw[k z];unfold dF;rw[if_neg (by simpa using hs),if_pos (by omega)]);clear z;go_wp2;go_ret;rw[k s,jX (by omega)];exact⟨rfl,aY.same (k u) (k ad)⟩
 ·have s:=i (show jW now time a.st (M.leftOf p f d)=0 from by rw[k z];unfold dF;rw[if_neg (by simpa using hs),if_neg (by omega)]);have aq:=i (aY.same (k u) (k ad));clear z aB;go_wp2;go_ret;rw[k s,qo];obtain⟨hi,j⟩:=k t;have ar:aY r S gf P m cap p f (f.set e a):=by rw[<-j,lI];exact k aq
  exact⟨rfl,((((ar.put hi 2 (by omega) (y K 2) ⟨a.row,a.P,2,a.pa,a.cl,a.un⟩ rfl).put hi 3 (by omega) (y K n) ⟨a.row,a.P,2,n,a.cl,a.un⟩ rfl).put hi 4 (by omega) (y K d) ⟨a.row,a.P,2,n,d,a.un⟩ rfl).put hi 2 (by omega) (y K 1) ⟨a.row,a.P,1,n,d,a.un⟩ rfl).put hi 5 (by omega) (y K time) ⟨a.row,a.P,1,n,d,time⟩ rfl⟩
theorem Eo(aD gf N n cap j:Nat) (p:O) (f:List B) (L J ac Q P e time now:Int) (c:Nat) (d:O) (s:U) (q:eg s gf N n cap p f) (a:B) (aB:∃hi:j<f.length,f[j]=a) (aA:p.limited=true) (aN:c<4) (aW:1<=e/\e<=1000) (aX: -9223372036854775808<=time/\time<=9223372036854775807) (aV:0<=now/\now<=4611686018427387000) (ay:s.cell? ⟨aD,1,F⟩=E (y K now)) (aC:a.st=0->a.un=0):
  Calls T 86 #[b (E ⟨aD,0,F⟩),b (E ⟨gf,N,F⟩),b (E ⟨n,j* 6,F⟩),l #[y K 3,y K L,y K J,y K ac,y K Q,y K P,y K e,y K c,y K time,y K d.rows,y K d.w,y K d.front,y K d.I,y K d.R,y K d.n,y K d.f]] s λaa w'=>aa=g (y K (iV e c (M.leftOf p f c) a))/\aY s w' gf N n cap p f (gC (iV e c (M.leftOf p f c) a) f j ⟨a.row,a.P,2,e,c,0⟩):=by
 have aI:=i aC;clear aC
 have aq:=i λA=>(show Calls T 111 #[l #[y K 3,y K L,y K J,y K ac,y K Q,y K P,y K e,y K c,y K time,y K d.rows,y K d.w,y K d.front,y K d.I,y K d.R,y K d.n,y K d.f]] A λaa w'=>aa=g (y K 0)/\G No A w' from by
  have:=ur ⟨3,L,J,ac,Q,P,e,c,time,d⟩ A
  rw[show bP ⟨3,L,J,ac,Q,P,e,c,time,d⟩=0 from by unfold bP;rw[if_neg (by simp only;omega),if_neg (by simp only;omega)]] at this
  exact this)
 have S:=i λA (ab:G No s A)=>xI gf N n cap p f c aN A ((q.mod ab).row) q.len (q.mod ab).slice (xJ aA) (q.mod ab).uy;have ap:=i λA (ab:G No s A)=>eo ab ay (λo=>o);have t:=i q;have ar:=i ((G.refl No s).alloc (v #[y K 3,y K L,y K J,y K ac,y K Q,y K P,y K e,y K c,y K time,y K d.rows,y K d.w,y K d.front,y K d.I,y K d.R,y K d.n,y K d.f] 41))
 have ag:=i (X.new s #[y K 3,y K L,y K J,y K ac,y K Q,y K P,y K e,y K c,y K time,y K d.rows,y K d.w,y K d.front,y K d.I,y K d.R,y K d.n,y K d.f] 41);have w:=i aB;clear q ay aA aB;go_enter func86,ntmps86;go_wp2_with fail;refine((k aq) _).mono ?_;rintro aa R ⟨rfl,ad⟩;have x:=i ((k ar).trans ad);have hb:=(ad.has (k ag) (λo=>o)).cell;have aO:=(ad.has (k ag) (λo=>o)).lt;have ao:=ad.has (k ag) (λo=>o)
 have Y:=(k t).row.mod (k x) (λo=>o);have aK:R.cell? ⟨n,j* 6+2,F⟩=E (y K a.st):=by obtain⟨hi,m⟩:=k w;rw[<-m];exact Y.st j hi
 have av:R.cell? ⟨n,j* 6+3,F⟩=E (y K a.pa):=by obtain⟨hi,m⟩:=k w;rw[<-m];exact Y.pa j hi
 have aw:R.cell? ⟨n,j* 6+4,F⟩=E (y K a.cl):=by obtain⟨hi,m⟩:=k w;rw[<-m];exact Y.cl j hi
 have aL:R.cell? ⟨n,j* 6+5,F⟩=E (y K a.un):=by obtain⟨hi,m⟩:=k w;rw[<-m];exact Y.un j hi
 have aR:=(k ap) _ (k x);clear ad Y aq ar;clear ap;have ax:=i ((k t).row.mod (k x) (λo=>o)).gm;go_wp2_with fail;go_quiet (fail);clear aR;by_cases z:a.st=1
 ·have d1:(a.st==1)=true:=by simpa using z
  by_cases D:a.pa=e
  ·have d2:(a.pa==e)=true:=by simpa using D
   by_cases H:a.cl=(c:Int)
   ·have d3:(a.cl==(c:Int))=true:=by simpa using H
    have r:=i (show iV e c (M.leftOf p f c) a=0 from if_pos ⟨z,D,H⟩);have aS:∀(u am:Nat),(R.drewN u).frozen? ⟨n,am,F⟩=false:=λu am=>(k ax) am;have ai:=i λu=>aY.same (k t) ((k x).drewN u);have aF:=i (show(⟨a.row,a.P,2,a.pa,a.cl,0⟩:B)=⟨a.row,a.P,2,e,c,0⟩ from by rw[D,H]);clear S z D H;go_wp2_with fail;go_quiet (fail);clear av aw hb;have aM:=k ax;go_wp2;go_ret;rw[k r,qo,<-k aF];obtain⟨hi,m⟩:=k w
    have aj:∀u,aY s (R.drewN u) gf N n cap p f (f.set j a):=λu=>by rw[<-m,lI];exact(k ai) u
    exact⟨rfl,((aj _).put hi 2 (by omega) (y K 2) ⟨a.row,a.P,2,a.pa,a.cl,a.un⟩ rfl).put hi 5 (by omega) (y K 0) ⟨a.row,a.P,2,a.pa,a.cl,0⟩ rfl⟩
   ·have d3:(a.cl==(c:Int))=false:=by simpa using H
    have ds:(a.st !=0)=true:=by simp[z]
    have r:=i (show iV e c (M.leftOf p f c) a=9 from by unfold iV;rw[if_neg (λq=>H q.2.2)];unfold dF;rw[if_pos (by omega)]);clear S z D H;go_wp2_with fail;go_quiet (fail);go_wp2;go_ret;rw[k r,jX (by omega)];exact⟨rfl,aY.same (k t) ((k x).drewN _)⟩
  ·have d2:(a.pa==e)=false:=by simpa using D
   have ds:(a.st !=0)=true:=by simp[z]
   have r:=i (show iV e c (M.leftOf p f c) a=9 from by unfold iV;rw[if_neg (λq=>D q.2.1)];unfold dF;rw[if_pos (by omega)]);clear S z D;go_wp2_with fail;go_quiet (fail);go_wp2;go_ret;rw[k r,jX (by omega)];exact⟨rfl,aY.same (k t) ((k x).drewN _)⟩
 have d1:(a.st==1)=false:=by simpa using z
 have I:=i (show iV e c (M.leftOf p f c) a=dF a.st (M.leftOf p f c) from if_neg (λq=>z q.1));go_wp2_with fail;go_quiet (fail);by_cases hs:a.st=0
 case neg=>
  have ds:(a.st !=0)=true:=by simpa using hs
  have r:=i (show iV e c (M.leftOf p f c) a=9 from by rw[k I];unfold dF;rw[if_pos hs]);clear S I;go_wp2;go_ret;rw[k r,jX (by omega)];exact⟨rfl,aY.same (k t) ((k x).drewN _)⟩
 have ds:(a.st !=0)=false:=by simpa using hs
 have aE:=i λu=>ao.drewN u;go_wp2_with fail;refine((k S) _ ((k x).drewN _)).mono ?_;rintro aa af ⟨rfl,ak⟩;have ah:=i (((k x).drewN _).trans ak);have aU:=(ak.has ((k aE) _) (λo=>o)).cell;have ae:=i ((k t).row.mod (k ah) (λo=>o));have aZ:af.cell? ⟨n,j* 6+2,F⟩=E (y K a.st):=by obtain⟨hi,m⟩:=k w;rw[<-m];exact(k ae).st j hi
 have a0:af.cell? ⟨n,j* 6+3,F⟩=E (y K a.pa):=by obtain⟨hi,m⟩:=k w;rw[<-m];exact(k ae).pa j hi
 have a1:af.cell? ⟨n,j* 6+4,F⟩=E (y K a.cl):=by obtain⟨hi,m⟩:=k w;rw[<-m];exact(k ae).cl j hi
 have aM:=(k ae).gm;have aT:n≠s.heap.size:=by have:=(k t).row.lt;omega
 have aQ:=xL p f c;clear hb ak aK av aw aL ao aO;by_cases hl:M.leftOf p f c<1
 ·have r:=i (show iV e c (M.leftOf p f c) a=11 from by rw[k I];unfold dF;rw[if_neg (by simpa using hs),if_pos (by omega)]);clear I;go_wp2;go_ret;rw[k r,jX (by omega)];exact⟨rfl,aY.same (k t) (k ah)⟩
 ·have r:=i (show iV e c (M.leftOf p f c) a=0 from by rw[k I];unfold dF;rw[if_neg (by simpa using hs),if_neg (by omega)]);have ai:=i (aY.same (k t) (k ah));have aH:=i ((k aI) hs);clear I aQ;go_wp2;go_ret;rw[k r,qo];obtain⟨hi,m⟩:=k w;have aj:aY s af gf N n cap p f (f.set j a):=by rw[<-m,lI];exact k ai
  have au:=((aj.put hi 2 (by omega) (y K 2) ⟨a.row,a.P,2,a.pa,a.cl,a.un⟩ rfl).put hi 3 (by omega) (y K e) ⟨a.row,a.P,2,e,a.cl,a.un⟩ rfl).put hi 4 (by omega) (y K c) ⟨a.row,a.P,2,e,c,a.un⟩ rfl;rw[k aH] at au;exact⟨rfl,au⟩
theorem aE.put{k:U} {c cap:Nat} {d:List B} {a:Nat} {i:B} (m:aE k c cap (d.set a i)) (hi:a<d.length) (j:Nat) (n:j<6) (f:V) (e:B) (hs:dc e=(dc i).setIfInBounds j f):aE (k.setCell ⟨c,a* 6+j,F⟩ f) c cap (d.set a e):=by
 have:=m.set a (by simpa using hi) j n f e (by simpa using hs)
 rwa [List.set_set] at this
theorem aE.iW{f:U} {e cap:Nat} {d:List B} (i:aE f e cap d) (c:Nat) (hi:c<d.length) (a:B):aE ((((((f.setCell ⟨e,c* 6,F⟩ (y K a.row)).setCell ⟨e,c* 6+1,F⟩ (y K a.P)).setCell ⟨e,c* 6+2,F⟩ (y K a.st)).setCell ⟨e,c* 6+3,F⟩ (y K a.pa)).setCell ⟨e,c* 6+4,F⟩ (y K a.cl)).setCell ⟨e,c* 6+5,F⟩ (y K a.un)) e cap (d.set c a):=by
 have j:aE f e cap (d.set c d[c]):=by rw[lI];exact i
 exact(((((j.put hi 0 (by omega) (y K a.row) ⟨a.row,d[c].P,d[c].st,d[c].pa,d[c].cl,d[c].un⟩ rfl).put hi 1 (by omega) (y K a.P) ⟨a.row,a.P,d[c].st,d[c].pa,d[c].cl,d[c].un⟩ rfl).put hi 2 (by omega) (y K a.st) ⟨a.row,a.P,a.st,d[c].pa,d[c].cl,d[c].un⟩ rfl).put hi 3 (by omega) (y K a.pa) ⟨a.row,a.P,a.st,a.pa,d[c].cl,d[c].un⟩ rfl).put hi 4 (by omega) (y K a.cl) ⟨a.row,a.P,a.st,a.pa,a.cl,d[c].un⟩ rfl).put hi 5 (by omega) (y K a.un) a rfl
theorem G.iW{S:Nat->Prop} {a f:U} (i:G S a f) {c:Nat} (e:S c) (d:Nat) (j k m n o p:V):G S a ((((((f.setCell ⟨c,d* 6,F⟩ j).setCell ⟨c,d* 6+1,F⟩ k).setCell ⟨c,d* 6+2,F⟩ m).setCell ⟨c,d* 6+3,F⟩ n).setCell ⟨c,d* 6+4,F⟩ o).setCell ⟨c,d* 6+5,F⟩ p):=
 (((((i.setCell (p:=⟨c,d* 6,F⟩) (.inl e) _).setCell (p:=⟨c,d* 6+1,F⟩) (.inl e) _).setCell (p:=⟨c,d* 6+2,F⟩) (.inl e) _).setCell (p:=⟨c,d* 6+3,F⟩) (.inl e) _).setCell (p:=⟨c,d* 6+4,F⟩) (.inl e) _).setCell (p:=⟨c,d* 6+5,F⟩) (.inl e) _
theorem Ep(gf a e cap n:Nat) (p:O) (c:List B) (o:Int) (d:U) (f:eg d gf a e cap p c):Calls T 88 #[b (E ⟨gf,a,F⟩),y K n,y K (-1),y K o] d λm w'=>m=g (y K 5)/\aY d w' gf a e cap p c c:=by
 have j:=i f;clear f;go_enter func88,ntmps88;go_wp2;go_ret;exact⟨rfl,aY.same (k j) (G.refl _ _)⟩
theorem xM(gf t P cap a j:Nat) (p:O) (d:List B) (n:Int) (o:U) (c:eg o gf t P cap p d) (e z:B) (hi:a<d.length) (hs:d[a]=e) (S:j<d.length) (X:d[j]=z) (r:Int) (w:r≠0) (ad:r=cC e.st e.pa n\/(cC e.st e.pa n=0/\z.st≠0/\r=9)):Calls T 88 #[b (E ⟨gf,t,F⟩),y K a,y K j,y K n] o λs w'=>s=g (y K r)/\aY o w' gf t P cap p d d:=by
 have ae:=c.slice;have q:=i λf=>uu e n f;have H:=c.row.row a hi;have I:=c.row.P a hi;have J:=c.row.st a hi;have L:=c.row.pa a hi;have M:=c.row.cl a hi;have N:=c.row.un a hi;have t2:=c.row.st j S;rw[hs] at H I J L M N;rw[X] at t2;have aa:=i λf (u:G No o f)=>eo u t2 (λA=>A);have Y:=i λf (u:G No o f)=>eo u ae (λA=>A);have x:(a:Int)<(d.length:Int)/\(j:Int)<(d.length:Int):=by omega
 have ai:=x.1;have aj:=x.2;have ag:(0:Int)<=a:=by omega
 have ah:(0:Int)<=j:=by omega
 have ak:¬(j:Int)<0:=by omega
 have D:=i c;clear c hs X t2 hi S x;unfold dc at q;obtain rfl|⟨Q,R,rfl⟩:=ad
 ·generalize cC e.st e.pa n=ab at *;have hd:(ab !=0)=true:=by simpa using w
  clear w;go_enter func88,ntmps88;go_wp2_with fail;refine((k q) _).mono ?_;rintro s af ⟨rfl,m⟩;go_wp2;go_ret;exact⟨rfl,aY.same (k D) m⟩
 ·rw[Q] at q;have hd:(z.st !=0)=true:=by simpa using R
  clear Q R w;go_enter func88,ntmps88;go_wp2_with fail;refine((k q) _).mono ?_;rintro s af ⟨rfl,m⟩;have t21:=(k aa) _ m;have am:=(k Y) _ m;clear H I J L M N;go_wp2;go_ret;exact⟨rfl,aY.same (k D) m⟩
theorem Er(gf Y c cap d j:Nat) (p:O) (f:List B) (av:Int) (u:U) (q:eg u gf Y c cap p f) (a e:B) (hi:d<f.length) (hs:f[d]=a) (aa:j<f.length) (aR:f[j]=e) (aO:d≠j) (aL:cC a.st a.pa av=0) (aM:e.st=0):Calls T 88 #[b (E ⟨gf,Y,F⟩),y K d,y K j,y K av] u λaC w'=>aC=g (y K 0)/\
   aY u w' gf Y c cap p f ((f.set j ⟨e.row,e.P,a.st,a.pa,a.cl,a.un⟩).set d a.aS):=by
 have aW:=q.slice;have a5:=q.row.lt;have P:=i λah=>uu a av ah;rw[aL] at P;have ai:=q.row.row d hi;have aj:=q.row.P d hi;have ak:=q.row.st d hi;have am:=q.row.pa d hi;have ao:=q.row.cl d hi;have ap:=q.row.un d hi;rw[hs] at ai aj ak am ao ap;have aw:=i q.row;have ay:=i q.ne;have S:=i λ(aB:Nat->Prop) ah (aV:G aB u ah) (hS:¬aB gf)=>eo aV aW hS
 have au:(d:Int)<(f.length:Int)/\(j:Int)<(f.length:Int):=by omega
 have a6:=au.1;have a7:=au.2;have a2:(0:Int)<=d:=by omega
 have a3:(0:Int)<=j:=by omega
 have a8:¬(j:Int)<0:=by omega
 have D:=i hi;have r:=i aa;have z:=i hs;have ae:=i aR;have aS:=i aM;have aT:=i aO;clear q hs aR au aL aM aO;unfold dc at P;go_enter func88,ntmps88;go_wp2_with fail;refine((k P) _).mono ?_;rintro aC w ⟨rfl,ab⟩;have L:=(k aw).mod ab (λo=>o);have d0:w.cell? ⟨c,j* 6,F⟩=E (y K e.row):=by have:=L.row j (k r);rw[k ae] at this;exact this
 have d1:w.cell? ⟨c,j* 6+1,F⟩=E (y K e.P):=by have:=L.P j (k r);rw[k ae] at this;exact this
 have d2:w.cell? ⟨c,j* 6+2,F⟩=E (y K 0):=by have:=L.st j (k r);rw[k ae,k aS] at this;exact this
 have aX:=(k S) No _ ab (λo=>o);have ax:=i ab;have ag:=i L;clear ai aj ak am ao ap ab L P aw;go_upto_region 9 with fail;have ad:=i (X.new w #[y K e.row,y K e.P] 36);have n:=(k ag).mod ((G.refl No w).alloc (v #[y K e.row,y K e.P] 36)) (λo=>o);have Q:=i ((k ax).alloc (v #[y K e.row,y K e.P] 36));have a1:c<w.heap.size:=(k ag).lt;generalize a4:w.heap.size=M at *
 generalize w.alloc (v #[y K e.row,y K e.P] 36)=s at *;clear d0 d1 d2 aX ag ax;go_cut [] (λI=>Hid (aE I c cap (f.set j a))/\Hid (G (λm=>m=c) u I)/\Hid (X I M #[y K e.row,y K e.P] 36))
 case first=>
  have a9:=(k S) No _ (k Q) (λo=>o);have ai:s.cell? ⟨c,d* 6,F⟩=E (y K a.row):=by have:=n.row d (k D);rw[k z] at this;exact this
  have aj:s.cell? ⟨c,d* 6+1,F⟩=E (y K a.P):=by have:=n.P d (k D);rw[k z] at this;exact this
  have ak:s.cell? ⟨c,d* 6+2,F⟩=E (y K a.st):=by have:=n.st d (k D);rw[k z] at this;exact this
  have am:s.cell? ⟨c,d* 6+3,F⟩=E (y K a.pa):=by have:=n.pa d (k D);rw[k z] at this;exact this
  have ao:s.cell? ⟨c,d* 6+4,F⟩=E (y K a.cl):=by have:=n.cl d (k D);rw[k z] at this;exact this
  have ap:s.cell? ⟨c,d* 6+5,F⟩=E (y K a.un):=by have:=n.un d (k D);rw[k z] at this;exact this
  have aq:=n.row j (k r);have ar:=n.P j (k r);have aD:=n.st j (k r);have aF:=n.pa j (k r);have aH:=n.cl j (k r);have aI:=n.un j (k r);have aK:=n.gm;have aA:=i n;have x:M≠c:=by omega
  have J:=i (show Hid (aE ((((((s.setCell ⟨c,j* 6,F⟩ (y K a.row)).setCell ⟨c,j* 6+1,F⟩ (y K a.P)).setCell ⟨c,j* 6+2,F⟩ (y K a.st)).setCell ⟨c,j* 6+3,F⟩ (y K a.pa)).setCell ⟨c,j* 6+4,F⟩ (y K a.cl)).setCell ⟨c,j* 6+5,F⟩ (y K a.un)).drew c cap (f.set j a))/\
    Hid (G (λm=>m=c) u ((((((s.setCell ⟨c,j* 6,F⟩ (y K a.row)).setCell ⟨c,j* 6+1,F⟩ (y K a.P)).setCell ⟨c,j* 6+2,F⟩ (y K a.st)).setCell ⟨c,j* 6+3,F⟩ (y K a.pa)).setCell ⟨c,j* 6+4,F⟩ (y K a.cl)).setCell ⟨c,j* 6+5,F⟩ (y K a.un)).drew)/\
    Hid (X ((((((s.setCell ⟨c,j* 6,F⟩ (y K a.row)).setCell ⟨c,j* 6+1,F⟩ (y K a.P)).setCell ⟨c,j* 6+2,F⟩ (y K a.st)).setCell ⟨c,j* 6+3,F⟩ (y K a.pa)).setCell ⟨c,j* 6+4,F⟩ (y K a.cl)).setCell ⟨c,j* 6+5,F⟩ (y K a.un)).drew M #[y K e.row,y K e.P] 36) from
   ⟨((k aA).iW j (k r) a).mod (G.refl No _).drew (λo=>o),(((k Q).mono (S':=λm=>m=c) (λ_ _ o=>o.elim)).iW (S:=λm=>m=c) rfl j _ _ _ _ _ _).drew,(((((((k ad).dB (a:=⟨c,j* 6,F⟩) x _).dB (a:=⟨c,j* 6+1,F⟩) x _).dB (a:=⟨c,j* 6+2,F⟩) x _).dB (a:=⟨c,j* 6+3,F⟩) x _).dB (a:=⟨c,j* 6+4,F⟩) x _).dB (a:=⟨c,j* 6+5,F⟩) x _).drew⟩)
  clear n aA Q ad x;go_region
  all_goals go_wp2
  all_goals go_meet
  all_goals exact k J
 case rest=>
  obtain⟨H,R,N⟩:=hcut;clear n Q ad;generalize wc=w3 at *;clear s;go_upto_region 10 with fail;go_cut [] (λI=>Hid (aE I c cap (f.set j ⟨e.row,e.P,a.st,a.pa,a.cl,a.un⟩))/\Hid (G (λm=>m=c) u I))
  case first=>
   have ba:=(k S) (λm=>m=c) _ (k R) (k ay);have aQ:j<(f.set j a).length:=by simpa using aa
   have aq:=(k H).row j aQ;have ar:=(k H).P j aQ;have b0:w3.cell? ⟨M,0,F⟩=E (y K e.row):=(k N).cell 0;have a0:w3.cell? ⟨M,1,F⟩=E (y K e.P):=(k N).cell 1;have aK:=(k H).gm
   have J:=i (show Hid (aE ((w3.setCell ⟨c,j* 6,F⟩ (y K e.row)).setCell ⟨c,j* 6+1,F⟩ (y K e.P)).drew c cap (f.set j ⟨e.row,e.P,a.st,a.pa,a.cl,a.un⟩))/\Hid (G (λm=>m=c) u ((w3.setCell ⟨c,j* 6,F⟩ (y K e.row)).setCell ⟨c,j* 6+1,F⟩ (y K e.P)).drew) from
    ⟨(((k H).put aa 0 (by omega) (y K e.row) ⟨e.row,a.P,a.st,a.pa,a.cl,a.un⟩ rfl).put aa 1 (by omega) (y K e.P) ⟨e.row,e.P,a.st,a.pa,a.cl,a.un⟩ rfl).mod (G.refl No _).drew (λo=>o),
     (((k R).setCell (p:=⟨c,j* 6,F⟩) (.inl rfl) _).setCell (p:=⟨c,j* 6+1,F⟩) (.inl rfl) _).drew⟩)
   clear H R N;go_region
   all_goals go_wp2
   all_goals go_meet
   all_goals exact k J
  case rest=>
   obtain⟨t,af⟩:=hcut;clear H R N;generalize wc=aZ at *;have bb:=(k S) (λm=>m=c) _ (k af) (k ay);have A:d<(f.set j ⟨e.row,e.P,a.st,a.pa,a.cl,a.un⟩).length:=by simpa using hi
   have aN:(f.set j ⟨e.row,e.P,a.st,a.pa,a.cl,a.un⟩)[d]=a:=by rw[nX (λaU=>(k aT) aU.symm)];exact k z
   have aq:=(k t).row d A;have ar:=(k t).P d A;have aD:=(k t).st d A;have aF:=(k t).pa d A;have aH:=(k t).cl d A;have aI:=(k t).un d A;rw[aN] at aq ar aD aF aH aI;have aK:=(k t).gm
   have J:=i (show aY u ((((((aZ.setCell ⟨c,d* 6,F⟩ (y K a.row)).setCell ⟨c,d* 6+1,F⟩ (y K a.P)).setCell ⟨c,d* 6+2,F⟩ (y K 0)).setCell ⟨c,d* 6+3,F⟩ (y K 0)).setCell ⟨c,d* 6+4,F⟩ (y K 0)).setCell ⟨c,d* 6+5,F⟩ (y K 0)).drew gf Y c cap p f ((f.set j ⟨e.row,e.P,a.st,a.pa,a.cl,a.un⟩).set d a.aS) from
    ⟨((k t).iW d A a.aS).mod (G.refl No _).drew (λo=>o),((k af).iW (S:=λm=>m=c) rfl d _ _ _ _ _ _).drew⟩)
   clear t af aN;go_wp2_with fail;go_region
   all_goals go_wp2
   all_goals go_ret
   all_goals exact⟨rfl,k J⟩
def aL(c:Option Nat):V:=.pointer (c.map λa=>⟨a,0,F⟩)
def mL(pt:Nat->Option Nat):Nat:=if (pt 30).isSome then 1 else 0
def lJ(pt:Nat->Option Nat):Bool:=(pt 31).isSome
def cD(now:Int) (pt:Nat->Option Nat):Array V:=
 #[y K now,aL (pt 0),aL (pt 1),aL (pt 2),aL (pt 3),aL (pt 4),aL (pt 5),aL (pt 6),aL (pt 7),aL (pt 8),aL (pt 9),aL (pt 10),aL (pt 11),aL (pt 12),aL (pt 13),aL (pt 14),aL (pt 15),aL (pt 16),aL (pt 17),aL (pt 18),aL (pt 19),aL (pt 20),.map (pt 21),.map (pt 22),.map (pt 23),.map (pt 24),.map (pt 25),.map (pt 26),.map (pt 27),.map (pt 28),aL (pt 29),y K (mL pt),W (lJ pt)]
theorem mM(now:Int) (pt:Nat->Option Nat) (a:Nat) (d:a<21):(cD now pt)[1+a]? =E (aL (pt a)):=by
 have:a=0\/a=1\/a=2\/a=3\/a=4\/a=5\/a=6\/a=7\/a=8\/a=9\/a=10\/a=11\/a=12\/a=13\/a=14\/a=15\/a=16\/a=17\/a=18\/a=19\/a=20:=by omega
 obtain c|c|c|c|c|c|c|c|c|c|c|c|c|c|c|c|c|c|c|c|c:=this<;>(subst c;rfl)
theorem rR(now:Int) (pt:Nat->Option Nat) (a:Nat) (hi:a<8):(cD now pt)[22+a]? =E (.map (pt (21+a))):=by
 have:a=0\/a=1\/a=2\/a=3\/a=4\/a=5\/a=6\/a=7:=by omega
 obtain c|c|c|c|c|c|c|c:=this<;>(subst c;rfl)
def gD(pt:Nat->Option Nat) (d c:Nat):Nat->Option Nat:=λa=>if a=d then E c else pt a
theorem Es(now:Int) (pt:Nat->Option Nat) (a d:Nat) (e:a<21):(cD now pt).setIfInBounds (1+a) (aL (E d))=cD now (gD pt a d):=by
 have:a=0\/a=1\/a=2\/a=3\/a=4\/a=5\/a=6\/a=7\/a=8\/a=9\/a=10\/a=11\/a=12\/a=13\/a=14\/a=15\/a=16\/a=17\/a=18\/a=19\/a=20:=by omega
 obtain c|c|c|c|c|c|c|c|c|c|c|c|c|c|c|c|c|c|c|c|c:=this<;>(subst c;rfl)
structure cF (w:U) (ow:Nat->Nat) (kb:Nat) (now:Int) (pt:Nat->Option Nat) (fl:Nat->Option (O×List B)):Prop where
 has:X w kb (cD now pt) 121
 aW:ow kb=1
 aU:∀k,ow k≠0->k<w.heap.size
 gone:∀n,n<21->fl n=F->pt n=F
 here:∀n p l,n<21->fl n=E (p,l)->∃b,pt n=E b/\L p l/\a9 w (λk=>ow k=n+2) b p l
theorem uz{c:U} {j:Nat->Nat} {d:Nat} {now:Int} {pt:Nat->Option Nat} {i:Nat->Option (O×List B)} (a:cF c j d now pt i):Calls T 32 #[b (E ⟨d,0,F⟩)] c λf w'=>f=g (y K now)/\w'=c:=by
 have e:=a.has.cell 0;rw[show(cD now pt)[0]? =E (y K now) from rfl] at e;have k:=a.has.lt;clear a;go_enter func32,ntmps32;go_wp2;go_ret;exact⟨rfl,rfl⟩
theorem xN(e:Nat) (a:Int) (j:¬(1<=a/\a<=20)) (c:U):Calls T 59 #[b (E ⟨e,0,F⟩),y K a] c λd w'=>d=g (b F)/\w'=c:=by
 by_cases f:a<1
 ·go_enter func59,ntmps59;go_wp2;go_ret;exact⟨rfl,rfl⟩
 ·have i:a>20:=by omega
  go_enter func59,ntmps59;go_wp2;go_ret;exact⟨rfl,rfl⟩
theorem Et(e:Nat) (a:Nat) (q:1<=a/\a<=20) (f:V) (cs:Array V) (d:U) (c:X d e cs 121) (hc:cs[1+a]? =E f):Calls T 59 #[b (E ⟨e,0,F⟩),y K a] d λj w'=>j=g f/\w'=d:=by
 have i:=c.cell (1+a);rw[hc] at i;have p:=c.lt;clear c hc;have k:¬(a:Int)<1:=by omega
 have m:¬(a:Int)>20:=by omega
 have n:(a:Int)<21:=by omega
 have o:(0:Int)<=a:=by omega
 go_enter func59,ntmps59;go_wp2;go_ret;exact⟨rfl,rfl⟩
theorem uA{c:U} {k:Nat->Nat} {d:Nat} {now:Int} {pt:Nat->Option Nat} {f:Nat->Option (O×List B)} (i:cF c k d now pt f) (a:Nat) (j:1<=a/\a<=20):Calls T 59 #[b (E ⟨d,0,F⟩),y K a] c λe w'=>e=g (aL (pt a))/\w'=c:=
 Et d a j _ _ c i.has (mM now pt a (by omega))
end Go.Proofs.YthhibagcpjeihaaGreat
