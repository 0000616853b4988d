import Derived.Test.YthhibagcpjeihaaGreatMCellsToEnc
import Derived.Deep.RegionLawGrows
import Derived.Deep.MidRow
import Derived.Laws.BitsLemmas
import Derived.OpenShut
import Derived.OwnWalk
import Derived.Handy
import Derived.Deep.CutRange
import Derived.Deep.CutBlock
open Go.Proofs.Tryz
open Go.Value renaming int->y,pointer->b,slice->C,bool->W,agg->l,tuple->h,ownBlock->az
open Go.IntKind renaming i64->K,wrap_i64->jB
open Option renaming none->F,some->E
open Go renaming World->U,Value->V
open Go.Proofs.Tryz renaming prog->T
open Go.Ending renaming returned->g
open Go.Obj renaming cells->v
open Nat renaming lt_of_lt_of_le->aG,zero_add->bg,le_trans->bF,le_refl->bK,mul_le_mul_right->mq
open List renaming length_append->aJ,append_assoc->bI,eq_nil_of_length_eq_zero->fS
open Go.World renaming size_alloc->bj,ownsRow_nil->cJ,block_lt_of_cell?->jA,size_setCell->kx
open Go.Act renaming eval->Z
open Array renaming getElem?_toList->dE
open Go.Addr renaming add_mid->dx
open And renaming intro->eL
open Int renaming eq_ofNat_of_zero_le->oS,tmod_eq_emod_of_nonneg->qi,tdiv_eq_ediv_of_nonneg->rK
namespace Go.Proofs.YthhibagcpjeihaaGreat
open Go.RowKit
open M
set_option linter.unusedVariables false
set_option linter.unusedSimpArgs false
set_option maxRecDepth 100000
set_option maxHeartbeats 2000000
def cg(a:List Int):List V:=a.map (y .u8)
theorem jE(a:List Int):(cg a).length=a.length:=by simp[cg]
structure bM (O:Nat->Prop) (w:U) (wb:Nat) (v:V) (xs:List Int) (now:Int):Prop where
 has:X w wb #[v,y K now] 193
 row:w.ownsRow 0 5 1 v xs.length (cg xs)
 own:∀k,v.ownBlock=E k->O k/\k≠wb
 ge:O wb
 len:xs.length<=1099511627776
theorem bM.mod{d:Nat->Prop} {w w':U} {i:Nat} {f:V} {xs:List Int} {now:Int} {S:Nat->Prop} (a:bM d w i f xs now) (e:G S w w') (hs:∀c,d c->¬S c):bM d w' i f xs now:=
 ⟨e.has a.has (hs _ a.ge),e.owns a.row (λc j=>hs c (a.own c j).1),a.own,a.ge,a.len⟩
theorem bM.wide{d e:Nat->Prop} {j:U} {k:Nat} {i:V} {xs:List Int} {now:Int} (a:bM d j k i xs now) (hs:∀c,d c->e c):bM e j k i xs now:=
 ⟨a.has,a.row,λc f=>⟨hs c (a.own c f).1,(a.own c f).2⟩,hs _ a.ge,a.len⟩
theorem bM.box{i:Nat->Prop} {d:U} {n:Nat} {m:V} {xs:List Int} {now:Int} (a:bM i d n m xs now) (k:Obj):bM (λc=>i c/\c≠d.heap.size) (d.alloc k) n m xs now:=by
 have j:G No d (d.alloc k):=(G.refl _ _).alloc _;refine⟨j.has a.has (λf=>f),j.owns a.row (λ_ _ f=>f),λc e=>⟨⟨(a.own c e).1,?_⟩,(a.own c e).2⟩,⟨a.ge,?_⟩,a.len⟩
 ·have:=(a.row.lt c e).2;omega
 ·have:=a.has.lt;omega
theorem rG(a:U) (c:Int) (d:TypeId):Reads (a.alloc (v #[.int .u8 c] d)) (C (E ⟨a.heap.size,0,F⟩) 1 1) 1 [.int .u8 c]:=
 .inr ⟨⟨a.heap.size,0,F⟩,1,rfl,λf i hu=>by
  have e:=X.new a #[y .u8 c] d
  rw[dx,bg,e.cell,<-dE]
  exact hu⟩
theorem bM.more{f:Nat->Prop} {e k:U} {c:Nat} {n d:V} {xs:List Int} {now m:Int} {o:TypeId} (j:bM f e c n xs now) (s:∀a,e.heap.size<=a->f a) (hl:xs.length<1099511627776) (u:k.ownsRow 0 5 1 d (xs.length+1) (cg xs++[.int .u8 m])) (q:(e.alloc (v #[.int .u8 m] o)).grownBy k n.ownBlock) (hs:dY (e.alloc (v #[.int .u8 m] o)) n d):
  bM f (k.setCell ⟨c,0,F⟩ d) c d (xs++[m]) now/\G f e (k.setCell ⟨c,0,F⟩ d):=by
 have w:G f e (e.alloc (v #[.int .u8 m] o)):=(G.refl _ _).alloc _;have x:G f e k:=w.grown q (λa p=>.inl (j.own a p).1);have r:∀a,d.ownBlock=E a->f a/\a≠c:=λa p=>by
  obtain i|i:=hs a p
  ·exact j.own a i
  ·rw[bj] at i;have:=j.has.lt;exact⟨s a (by omega),by omega⟩
 have t:X k c #[n,y K now] 193:=X.grown (j.has.alloc _) q (λi=>(j.own c i.symm).2 rfl);refine⟨⟨t.set 0 d,?_,r,j.ge,by simp;omega⟩,x.setCell (p:=⟨c,0,F⟩) (.inl j.ge) _⟩;have:=gT u (a:=⟨c,0,F⟩) (λi=>(r c i).2 rfl) d;unfold cg at this ⊢;rw[aJ,List.map_append];exact this
theorem rH(a:Int) (c:0<=a) (d:a<2 ^ 63):K.wrap a=a:=ey a (by omega) (by omega)
theorem Ds(a:Int) (c:0<=a) (d:a<2 ^ 8):IntKind.u8.wrap a=a:=by simp[IntKind.wrap,IntKind.bits,IntKind.signed];omega
theorem Dt(c a:Int) (e:0<=c/\c<=7) (hf:0<=a/\a<32):bits .or K (c* 32) a=32* c+a:=by
 have d:=bits_join K 63 (by decide) rH 5 (c* 32) a (by omega) (by omega) (by omega) hf.1 (by omega) (by omega);rw[d];omega
set_option maxHeartbeats 4000000 in theorem Du{j:Nat->Prop} {d:U} {f:Nat} {P:V} {xs:List Int} {now:Int} (e:bM j d f P xs now) (q:∀a,d.heap.size<=a->j a) (hl:xs.length<1099511627776) (a c:Int) (ab:1<=a/\a<=7) (hf:0<=c/\c<32):Calls T 124 #[b (E ⟨f,0,F⟩),y K a,y K c] d λo w'=>o=g (h #[])/\(∃v',bM j w' f v' (xs++[32* a+c]) now)/\G j d w':=by
 have af:=Dt a c (by omega) hf;have ah:K.wrap (a* 32)=a* 32:=aB _ (by omega) (by omega);have ag:IntKind.u8.wrap (32* a+c)=32* a+c:=Ds _ (by omega) (by omega);obtain⟨m,n,rfl⟩:=aC e.row;have hc:d.cell? ⟨f,0,F⟩=E (C m xs.length n):=e.has.cell 0;have ae:=e.has.lt;have u:=i e;have z:=i q;clear q;obtain⟨D,I,J,L,M⟩:=info_parts oV;have t:G No d (d.alloc (v #[.int .u8 (32* a+c)] 5)):=(G.refl _ _).alloc _
 have A:=i λH=>(t.drewN H).owns e.row (λ_ _ Q=>Q);have B:=i (rG d (32* a+c) 5);have w:=i (e.has.alloc (v #[.int .u8 (32* a+c)] 5));have x:=i (show E f≠(C m xs.length n).ownBlock from λo=>(e.own f o.symm).2 rfl);clear e t;go_enter func124,ntmps124
 go_wp2_with (at_builtin;refine eI rfl (.tmp 10) (.tmp 16) 103 rfl 5 D _ 1 1 underlying103 I J L M rfl (by decide) (C m xs.length n) xs.length (cg xs) (by simp[Z]) (by exact(k A) 0) (C (E ⟨d.heap.size,0,F⟩) 1 1) 1 [.int .u8 (32* a+c)] (by simp[Z]) (by exact k B) rfl (by intro ai hu;simp at hu;subst hu;rfl) (by unfold maxLen;omega) (by omega) ?_;intro aj ak s r hs;obtain⟨R,S,rfl⟩:=aC s;have p:=X.grown (k w) r (k x);have Y:=p.cell 0;have aa:=p.frozen;have ad:=p.lt)
 all_goals trace "end"
 go_end0;obtain⟨N,O⟩:=(k u).more (k z) hl s r hs;exact⟨rfl,⟨_,N⟩,O⟩
theorem Dv(a:Int) (e:0<=a) (f:a<256):bits .or .u8 a 128=a % 128+128:=by
 obtain⟨c,rfl⟩:=oS e;have d:∀c:Fin 256,bits .or .u8 ((c.val:Nat):Int) 128=((c.val % 128+128:Nat):Int):=by decide+kernel
 have:=d ⟨c,by omega⟩;simp only at this;rw[this];omega
theorem Dw(j a:Nat) (e:128<=a) (d:a<128 ^ (j+1)):∃c,j=c+1/\eU j a=((a:Int) % 128+128)::eU c (a / 128)/\a / 128<128 ^ (c+1):=by
 cases j with
 |zero=>simp at d;omega
 |succ c=>
  refine⟨c,rfl,?_,?_⟩
  ·rw[eU,if_neg (by omega)];congr 1
  ·rw[Nat.pow_succ] at d;omega
set_option maxHeartbeats 8000000 in theorem Dx{d:Nat->Prop} {t:U} {j:Nat} {s:V} {xs:List Int} {now:Int} (ab:bM d t j s xs now) (ae:∀f,t.heap.size<=f->d f) (hl:xs.length<1099511627766) (x:Int) (aI:0<=x/\x<9223372036854775808):Calls T 109 #[b (E ⟨j,0,F⟩),y K x] t λo w'=>o=g (h #[])/\(∃v',bM d w' j v' (xs++aN x) now)/\G d t w':=by
 obtain⟨aj,ak,am,ao,ap⟩:=info_parts oV;have R:=i ab;have ar:=i ae;clear ae;obtain⟨n,rfl⟩:=oS aI.1;have ag:n<128 ^ (8+1):=by
  have o:(128:Nat) ^ (8+1)=9223372036854775808:=by decide
  rw[o];omega
 unfold aN;rw[show((n:Nat):Int).toNat=n by omega];have hlen:=(tY 8 n).2;generalize L:xs++eU 8 n=J at *;have au:=i (show J.length<=xs.length+9 by rw[<-L];simp;omega);have aa:=i L;clear ab L hlen;go_enter func109,ntmps109;go_wp2_with fail
 go_loopw [1] (λP wr=>∃(m a:Nat) (s:V) (ys:List Int),P=y K a/\a<9223372036854775808/\Hid (a<128 ^ (m+1))/\Hid (ys++eU m a=J)/\Hid (bM d wr j s ys now)/\Hid (G d t wr)) (λP _=>(intOf P).toNat)
 case atStart=>exact⟨8,n,s,xs,rfl,by omega,ag,aa,R,G.refl _ _⟩
 case round=>
  obtain⟨m,a,s,ys,rfl,aT,aH,M,z,I⟩:=hrel;clear R aa ag;have c:=(k z);obtain⟨u,w,rfl⟩:=aC c.row;have hc:wr.cell? ⟨j,0,F⟩=E (C u ys.length w):=c.has.cell 0;have aS:=c.has.lt;have Y:=i (show E j≠(C u ys.length w).ownBlock from λo=>(c.own j o.symm).2 rfl);have ah:ys.length<1099511627776:=by
   have ax:=congrArg List.length (k M);rw[aJ] at ax;have aQ:=(tY m a).1;have aR:=k au;omega
  have ad:∀f,wr.heap.size<=f->d f:=λf aE=>(k ar) f (bF (k I).size aE);have S:=i ad;clear ad;by_cases aB:128<=a
  ·have aD:(a:Int)>=128:=by omega
   obtain⟨ai,rfl,hF,af⟩:=Dw m a aB (k aH);have aK:IntKind.u8.wrap (a:Int)=(a:Int) % 256:=by simp[IntKind.wrap,IntKind.bits,IntKind.signed]
   have aU:bits .or .u8 ((a:Int) % 256) 128=(a:Int) % 128+128:=by
    rw[Dv _ (by omega) (by omega)];omega
   have r:G No wr (wr.alloc (v #[.int .u8 ((a:Int) % 128+128)] 5)):=(G.refl _ _).alloc _;have D:=i (r.owns c.row (λ_ _ Q=>Q));have H:=i (rG wr ((a:Int) % 128+128) 5);have B:=i (c.has.alloc (v #[.int .u8 ((a:Int) % 128+128)] 5));have A:=i hF;have aq:=i af;clear c r hF af
   go_wp2_with (at_builtin;refine eI rfl (.tmp 10) (.tmp 14) 103 rfl 5 aj _ 1 1 underlying103 ak am ao ap rfl (by decide) (C u ys.length w) ys.length (cg ys) (by simp[Z]) (by exact k D) (C (E ⟨wr.heap.size,0,F⟩) 1 1) 1 [.int .u8 ((a:Int) % 128+128)] (by simp[Z]) (by exact k H) rfl (by intro aL hu;simp at hu;subst hu;rfl) (by unfold maxLen;omega) (by omega) ?_;intro aM aO q p hs;obtain⟨av,aw,rfl⟩:=aC q;have e:=X.grown (k B) p (k Y);have ay:=e.cell 0;have aA:=e.frozen;have aF:=e.lt)
   all_goals trace "round"
   obtain⟨N,O⟩:=(k z).more (k S) ah q p hs;refine⟨⟨ai,a / 128,_,ys++[(a:Int) % 128+128],?_,by omega,aq,i ?_,N,(k I).trans O⟩,?_⟩
   ·simp
   ·rw[bI];show ys++(((a:Int) % 128+128)::eU ai (a / 128))=J;rw[<-k A];exact k M
   ·simp[intOf];omega
  ·have aD:¬(a:Int)>=128:=by omega
   have aK:IntKind.u8.wrap (a:Int)=(a:Int):=by simp[IntKind.wrap,IntKind.bits,IntKind.signed];omega
   have r:G No wr (wr.alloc (v #[.int .u8 (a:Int)] 5)):=(G.refl _ _).alloc _;have D:=i (r.owns c.row (λ_ _ Q=>Q));have H:=i (rG wr (a:Int) 5);have B:=i (c.has.alloc (v #[.int .u8 (a:Int)] 5));have A:=i (tZ m a (by omega));clear c r
   go_wp2_with (at_builtin;refine eI rfl (.tmp 24) (.tmp 27) 103 rfl 5 aj _ 1 1 underlying103 ak am ao ap rfl (by decide) (C u ys.length w) ys.length (cg ys) (by simp[Z]) (by exact k D) (C (E ⟨wr.heap.size,0,F⟩) 1 1) 1 [.int .u8 (a:Int)] (by simp[Z]) (by exact k H) rfl (by intro aL hu;simp at hu;subst hu;rfl) (by unfold maxLen;omega) (by omega) ?_;intro aM aO q p hs;obtain⟨av,aw,rfl⟩:=aC q;have e:=X.grown (k B) p (k Y);have ay:=e.cell 0;have aA:=e.frozen;have aF:=e.lt)
   go_end0;obtain⟨N,O⟩:=(k z).more (k S) ah q p hs;have hy:=k M;rw[k A] at hy;rw[<-hy];exact⟨rfl,⟨_,N⟩,(k I).trans O⟩
structure u where
 b:Nat->List Int
 last:Nat->Nat
 room:Int
 fuse:Int
def u.used(a:u):Nat:=(a.b 0).length+(a.b 1).length+(a.b 2).length+(a.b 3).length
def u.put(c:u) (d:Nat) (xs:List Int) (f:Nat) (e:Int):u:=⟨λa=>if a=d then xs else c.b a,λa=>if a=d then f else c.last a,c.room,e⟩
def lC(a:u) (c:Nat) (d:List Int):Bool×u:=
 if a.room<(a.used:Int)+d.length\/a.fuse=0 then(false,a) else(true,a.put c (a.b c++d) (a.last c) (eK a.fuse))
def eX(a:u) (c:Nat):Bool×u:=if a.fuse=0 then(false,a) else(true,a.put c (a.b c) (a.b c).length (eK a.fuse))
def dQ(a:u) (c:Nat):Bool×u:=if a.fuse=0 then(false,a) else(true,a.put c [] 0 (eK a.fuse))
structure ae (w:U) (S:Nat->Prop) (tb:Nat) (T:u):Prop where
 ex:∃t:D,t.ok S w tb/\(∀i,i<4->(t.get i).xs=cg (T.b i)/\(t.get i).last=T.last i)/\t.room=T.room/\t.fuse=T.fuse
 fuse: -9223372036854775808<=T.fuse/\T.fuse<=9223372036854775807
theorem ae.mod{w w':U} {S S':Nat->Prop} {tb:Nat} {a:u} (d:ae w S tb a) (j:G S' w w') (hs:∀c,S c->¬S' c):ae w' S tb a:=by
 obtain⟨⟨k,e,f⟩,i⟩:=d;exact⟨⟨k,e.mod j hs,f⟩,i⟩
theorem ae.aD{c w':U} {S:Nat->Prop} {tb:Nat} {a:u} (d:ae c S tb a) (e:G No c w'):ae w' S tb a:=d.mod e (λ_ _ f=>f)
theorem ae.wide{d:U} {S S':Nat->Prop} {tb:Nat} {a:u} (e:ae d S tb a) (hs:∀c,S c->S' c):ae d S' tb a:=by
 obtain⟨⟨k,f,i⟩,j⟩:=e;exact⟨⟨k,f.wide hs,i⟩,j⟩
theorem ae.narrow{a:U} {S:Nat->Prop} {tb:Nat} {c:u} (e:ae a S tb c):ae a (λd=>S d/\d<a.heap.size) tb c:=by
 obtain⟨⟨k,f,i⟩,j⟩:=e;exact⟨⟨k,f.narrow,i⟩,j⟩
theorem ae.cd{e:U} {S:Nat->Prop} {tb:Nat} {a:u} (c:ae e S tb a):S tb:=by
 obtain⟨⟨j,d,f⟩,i⟩:=c;exact d.cd
theorem ae.lt{a:U} {S:Nat->Prop} {tb:Nat} {c:u} (d:ae a S tb c):tb<a.heap.size:=by
 obtain⟨⟨j,e,f⟩,i⟩:=d;exact e.has.lt
theorem ae.last{k:U} {S:Nat->Prop} {tb:Nat} {c:u} (j:ae k S tb c) (a:Nat) (hi:a<4):c.last a<=(c.b a).length/\(c.b a).length<=17592186044416:=by
 obtain⟨⟨n,f,i,_⟩,m⟩:=j;have d:=(f.get a hi).last;have e:=(f.get a hi).len;rw[(i a hi).1] at d e;rw[(i a hi).2] at d;rw[jE] at d e;exact⟨d,e⟩
theorem ae.bytes{o:U} {S:Nat->Prop} {tb:Nat} {e:u} (i:ae o S tb e) (c:Nat) (hi:c<4):∀a∈e.b c,0<=a/\a<256:=by
 obtain⟨⟨r,j,k,_⟩,p⟩:=i;intro a m;have f:=(j.get c hi).bytes;rw[(k c hi).1] at f;obtain⟨q,d,n⟩:=f (.int .u8 a) (List.mem_map.2 ⟨a,m,rfl⟩);injection d with _ d;rw[d];exact n
theorem ae.room{c:U} {S:Nat->Prop} {tb:Nat} {a:u} (d:ae c S tb a):∃cs,X c tb cs 108/\cs[8]? =E (y K a.room):=by
 obtain⟨⟨j,e,i,f,_⟩,_⟩:=d;refine⟨_,e.has,?_⟩;rw[<-f];rfl
theorem xu{a:D} {c:u} (e:∀d,d<4->(a.get d).xs=cg (c.b d)/\(a.get d).last=c.last d):a.used=c.used:=by
 have f:=(e 0 (by omega)).1;have i:=(e 1 (by omega)).1;have j:=(e 2 (by omega)).1;have k:=(e 3 (by omega)).1;unfold D.used u.used;have m:a.f0.xs.length=(c.b 0).length:=by rw[show a.f0=a.get 0 from rfl,f,jE]
 have n:a.f1.xs.length=(c.b 1).length:=by rw[show a.f1=a.get 1 from rfl,i,jE]
 have o:a.f2.xs.length=(c.b 2).length:=by rw[show a.f2=a.get 2 from rfl,j,jE]
 have p:a.f3.xs.length=(c.b 3).length:=by rw[show a.f3=a.get 3 from rfl,k,jE]
 omega
theorem ue{a:Int} (c: -9223372036854775808<=a/\a<=9223372036854775807): -9223372036854775808<=eK a/\eK a<=9223372036854775807:=by
 unfold eK;split<;>omega
theorem ae.put{m:U} {S:Nat->Prop} {tb:Nat} {d:u} {c:D} (o:∀a,a<4->(c.get a).xs=cg (d.b a)/\(c.get a).last=d.last a) (p:c.room=d.room) (a:Nat) (hi:a<4) (q:V) (xs:List Int) (k:Nat) (e:Int) (hf: -9223372036854775808<=e/\e<=9223372036854775807) (n:({ c.put ⟨q,cg xs,k⟩ a with fuse:=e }:D).ok S m tb):ae m S tb (d.put a xs k e):=by
 refine⟨⟨_,n,λj i=>?_,?_,rfl⟩,hf⟩
 ·rw[lr,p8 _ _ _ _ hi i];unfold u.put;by_cases f:j=a
  ·simp only[if_pos f,and_self]
  ·simp only[if_neg f];exact o j i
 ·show(c.put _ a).room=d.room;rw[(qa c _ a).1];exact p
theorem Dy{c:U} {S:Nat->Prop} {tb:Nat} {d:u} (f:ae c S tb d) (a:Int) (m:0<=a) (n:a<=140737488355328):Calls T 122 #[b (E ⟨tb,0,F⟩),y K a] c λe w'=>e=g (W (decide ((d.used:Int)+a<=d.room)))/\G No c w':=by
 obtain⟨⟨o,i,j,k,p⟩,q⟩:=f;have:=rD tb o a c i m n;rw[xu j,k] at this;exact this
theorem Dz{e:U} {S:Nat->Prop} {tb:Nat} {d:u} (H:ae e S tb d) (c:Nat) (hi:c<4) (p:Option Addr) (j:Nat) (a:List Int) (A:Reads e (C p a.length j) a.length (cg a)) (L:(C p a.length j).ownBlock≠E tb) (J:∀r∈a,0<=r/\r<256) (hl:(d.b c).length+a.length<=17592186044416):
  Calls T 123 #[b (E ⟨tb,0,F⟩),y K c,C p a.length j] e λs w'=>s=g (W (lC d c a).1)/\ae w' (λB=>S B\/e.heap.size<=B) tb (lC d c a).2/\G S e w':=by
 obtain⟨⟨o,w,f,k,m⟩,x⟩:=H;have hu:=xu f;have M:(o.get c).xs.length=(d.b c).length:=by rw[(f c hi).1,jE]
 unfold lC;by_cases z:d.room<(d.used:Int)+a.length
 ·rw[if_pos (.inl z)];refine(CS tb o c hi S e w p a.length j (by omega) (by rw[hu,k];exact z)).mono ?_;rintro s w' ⟨rfl,n⟩;exact⟨rfl,⟨⟨o,(w.aD n).wide (λ_ i=>.inl i),f,k,m⟩,x⟩,n.mono (λ_ _ r=>r.elim)⟩
 ·by_cases t:d.fuse=0
  ·rw[if_pos (.inr t)];refine(CU tb o c hi S e w p a.length j (by omega) (by rw[hu,k];omega) (by rw[m];exact t)).mono ?_;rintro s w' ⟨rfl,q,n⟩;exact⟨rfl,⟨⟨o,q.wide (λ_ i=>.inl i),f,k,m⟩,x⟩,n⟩
  ·rw[if_neg (by rintro(i|i);exact z i;exact t i)]
   refine(CT tb o c hi S e w p a.length j (cg a) A L (jE a) (λr A=>by
    obtain⟨D,I,rfl⟩:=List.mem_map.1 A
    exact⟨D,rfl,J D I⟩) (by rw[M];exact hl) (by rw[hu,k];omega) (by rw[m];exact x) (by rw[m];exact t)).mono ?_
   rintro s w' ⟨rfl,⟨v',q⟩,n⟩;refine⟨rfl,?_,n⟩;rw[(f c hi).1,(f c hi).2,m] at q;have:cg (d.b c)++cg a=cg (d.b c++a):=by simp[cg]
   rw[this] at q;exact ae.put f k c hi v' _ _ _ (ue x) q
theorem ug{d:U} {S:Nat->Prop} {tb:Nat} {e:u} (r:ae d S tb e) (a:Nat) (hi:a<4):Calls T 45 #[b (E ⟨tb,0,F⟩),y K a] d λj w'=>j=g (W (eX e a).1)/\ae w' S tb (eX e a).2/\G (· =tb) d w':=by
 obtain⟨⟨o,p,k,q,c⟩,m⟩:=r;unfold eX;by_cases f:e.fuse=0
 ·rw[if_pos f];refine(CQ tb o a hi S d p (by rw[c];exact f)).mono ?_;rintro j w' ⟨rfl,i,n⟩;exact⟨rfl,⟨⟨o,i,k,q,c⟩,m⟩,n⟩
 ·rw[if_neg f];refine(CP tb o a hi S d p (by rw[c];exact m) (by rw[c];exact f)).mono ?_;rintro j w' ⟨rfl,i,n⟩;refine⟨rfl,?_,n⟩;rw[(k a hi).1,jE,c] at i;exact ae.put k q a hi _ _ _ _ (ue m) i
theorem DA(c:Nat) (a:D) (m:Nat) (hi:m<4) (S:Nat->Prop) (n:U) (p:a.ok S n c) (e:a.fuse=0):Calls T 71 #[b (E ⟨c,0,F⟩),y K m] n λd w'=>d=g (W false)/\a.ok S w' c/\G (· =c) n w':=by
 have j:=λo (z:a.ok S o c)=>oU c a o z (by omega);simp only[ne_eq,e,not_true_eq_false,decide_false] at j;have t:=i p;have w:=i j;have q:=i e;clear j p e;have A:(m:Int)<4:=by omega
 go_enter func71,ntmps71;go_wp2_with fail;refine((k w) _ (k t)).mono ?_;rintro d B ⟨rfl,r,s⟩;have u:=i r;have x:=i s;clear r s;go_wp2;go_ret;have f:=k u;rw[show eK 0=0 from rfl] at f;refine⟨rfl,?_,k x⟩;have d:({ a with fuse:=0 }:D)=a:=by cases a;simp only at q;rw[k q]
 rw[d] at f;exact f
theorem rI{d:U} {S:Nat->Prop} {tb:Nat} {e:u} (r:ae d S tb e) (a:Nat) (hi:a<4):Calls T 71 #[b (E ⟨tb,0,F⟩),y K a] d λj w'=>j=g (W (dQ e a).1)/\ae w' S tb (dQ e a).2/\G (· =tb) d w':=by
 obtain⟨⟨n,o,p,q,c⟩,k⟩:=r;unfold dQ;by_cases f:e.fuse=0
 ·rw[if_pos f];refine(DA tb n a hi S d o (by rw[c];exact f)).mono ?_;rintro j w' ⟨rfl,i,m⟩;exact⟨rfl,⟨⟨n,i,p,q,c⟩,k⟩,m⟩
 ·rw[if_neg f];refine(CV tb n a hi S d o (by rw[c];exact k) (by rw[c];exact f)).mono ?_;rintro j w' ⟨rfl,i,m⟩;refine⟨rfl,?_,m⟩;rw[c] at i;exact ae.put p q a hi (C F 0 0) [] 0 _ (ue k) i
theorem uh{c:U} {S:Nat->Prop} {tb:Nat} {d:u} (i:ae c S tb d) (a:Nat) (hi:a<4):Calls T 89 #[b (E ⟨tb,0,F⟩),y K a] c λf w'=>∃e,f=g e/\w'.ownsRow 0 5 1 e (d.b a).length (cg (d.b a))/\dY c (C F 0 0) e/\G No c w':=by
 obtain⟨⟨m,j,k,n,o⟩,p⟩:=i;have:=CW tb m a hi S c j;rw[(k a hi).1,jE] at this;exact this
theorem DB(f:U) (k:Int):ae (f.alloc (v (⟨⟨C F 0 0,[],0⟩,⟨C F 0 0,[],0⟩,⟨C F 0 0,[],0⟩,⟨C F 0 0,[],0⟩,k, -1⟩:D).cells 108)) (λc=>c=f.heap.size) f.heap.size ⟨λ_=>[],λ_=>0,k, -1⟩:=by
 have e:∀j:U,(⟨C F 0 0,[],0⟩:bU).ok (λc=>c=f.heap.size) j:=λj=>⟨cJ _ _ _ _,by simp,by simp,λn m=>by simp at m,λc i=>by simp[az] at i⟩;have a:(⟨C F 0 0,[],0⟩:bU).apart ⟨C F 0 0,[],0⟩:=λc i=>by simp[az] at i
 refine⟨⟨_,⟨X.new _ _ _,rfl,e _,e _,e _,e _,a,a,a,a,a,a⟩,λd hi=>?_,rfl,rfl⟩,by show(-9223372036854775808:Int)<= -1/\(-1:Int)<=9223372036854775807;decide⟩;have:d=0\/d=1\/d=2\/d=3:=by omega
 obtain rfl|rfl|rfl|rfl:=this<;>exact⟨rfl,rfl⟩
set_option maxHeartbeats 4000000
structure aT (w:U) (rb gb:Nat) (l:List Int) (now:Int) (torn:Bool):Prop where
 has:∃a c,X w rb #[C a l.length c,y K now,W torn] 208/\l.length<=c/\∀(j:Nat) (x:Int),l[j]? =E x->∃o,a=E ⟨gb,o,F⟩/\w.cell? ⟨gb,o+j,F⟩=E (.int .u8 x)
 ne:gb≠rb
 lt:gb<w.heap.size
 fit: -9223372036854775808<=now/\now<=9223372036854775807
 len:l.length<=1099511627776
 qf:∀x∈l,0<=x/\x<256
theorem qg{c w':U} {S:Nat->Prop} (e:G S c w') {a:Addr} {d:V} (hc:c.cell? a=E d) (hs:¬S a.block):w'.cell? a=E d:=by
 have f:=jA c _ hc;rw[World.cell?_of_block (w:=c) (e.block _ f hs)];exact hc
theorem aT.mod{w w':U} {e c:Nat} {f:List Int} {now:Int} {i:Bool} {S:Nat->Prop} (a:aT w e c f now i) (d:G S w w') (o:¬S e) (p:¬S c):aT w' e c f now i:=by
 obtain⟨j,k,t,u,x⟩:=a.has;refine⟨⟨j,k,d.has t o,u,λr z q=>?_⟩,a.ne,aG a.lt d.size,a.fit,a.len,a.qf⟩;obtain⟨s,m,n⟩:=x r z q;exact⟨s,m,qg d n p⟩
theorem aT.goes{p:U} {k f:Nat} {o e:List Int} {now:Int} {z r:Bool} (d:aT p k f o now z) (x:e.length<=o.length/\∀c∈e,c∈o) {w':U} {a:Option Addr} {m:Nat} (u:X w' k #[C a e.length m,y K now,W r] 208) (q:G (· =k) p w') (hc:e.length<=m) (w:∀(j:Nat) (c:Int),e[j]? =E c->∃i,a=E ⟨f,i,F⟩/\p.cell? ⟨f,i+j,F⟩=E (.int .u8 c)):aT w' k f e now r:=
 ⟨⟨a,m,u,hc,λj c n=>by
  obtain⟨i,s,t⟩:=w j c n
  exact⟨i,s,qg q t d.ne⟩⟩,d.ne,aG d.lt q.size,d.fit,by have:=d.len;omega,λc n=>d.qf c (x.2 c n)⟩
def qh(j w':U) (c d:Nat) (e:List Int) (now:Int) (i:Bool) (a:Int):Prop:=
 (0<=a/\a<256)/\G (· =c) j w'/\((e=[]/\a=0/\aT w' c d [] now true)\/∃f,e=a::f/\aT w' c d f now i)
theorem ui{c:U} {a e:Nat} {w:List Int} {now:Int} {s:Bool} (n:aT c a e w now s):Calls T 133 #[b (E ⟨a,0,F⟩)] c λB w'=>∃d,B=g (.int .u8 d)/\qh c w' a e w now s d:=by
 obtain⟨A,t,f,u,r⟩:=n.has;have hc:=f.cell 0;have S:=f.lt;have R:=f.frozen
 cases w with
 |nil=>
  have D:c.cell? ⟨a,0,F⟩=E (C A 0 t):=hc;have Q:c.cell? ⟨a,2,F⟩=E (W s):=f.cell 2;have m:qh c (c.setCell ⟨a,2,F⟩ (W true)) a e [] now s 0:=
   ⟨by omega,(G.refl (· =a) c).setCell (p:=⟨a,2,F⟩) (.inl rfl) _,.inl ⟨rfl,rfl,n.goes ⟨bK _,λd o=>o⟩ (f.set 2 (W true)) ((G.refl (· =a) c).setCell (p:=⟨a,2,F⟩) (.inl rfl) _) u r⟩⟩
  have m:=i m;clear n f u r hc;go_enter func133,ntmps133;go_wp2_with fail;go_ret;exact⟨0,rfl,k m⟩
 |cons d j=>
  obtain⟨q,rfl,H⟩:=r 0 d rfl;have P:c.cell? ⟨e,q,F⟩=E (.int .u8 d):=H;have D:c.cell? ⟨a,0,F⟩=E (C (E ⟨e,q,F⟩) (j.length+1) t):=hc;have o:=n.qf d (by simp);have aa:j.length+1<=t:=u
  have m:=i (λ(a':Addr) (x:Nat) (L:j.length<=x) (J:a'=⟨e,q+1,F⟩\/j=[])=>(show qh c (c.setCell ⟨a,0,F⟩ (C (E a') j.length x)) a e (d::j) now s d from
   ⟨o,(G.refl (· =a) c).setCell (p:=⟨a,0,F⟩) (.inl rfl) _,.inr ⟨j,rfl,n.goes ⟨by simp,λd o=>by simp[o]⟩ (f.set 0 _) ((G.refl (· =a) c).setCell (p:=⟨a,0,F⟩) (.inl rfl) _) L (λz N hy=>by
    obtain rfl|rfl:=J
    ·obtain⟨Y,p,I⟩:=r (z+1) N hy
     injection p with p
     injection p with _ p _
     subst p
     exact⟨_,rfl,by rw[Nat.add_assoc,Nat.add_comm 1 z];exact I⟩
    ·simp at hy)⟩⟩))
  generalize X:qh=O at *;clear n f u r hc o;go_enter func133,ntmps133;go_wp2_with fail
  all_goals go_ret
  ·have M:j=[]:=fS (by omega);subst M;exact⟨d,rfl,(k m) ⟨e,q,F⟩ 0 (bK _) (.inr rfl)⟩
  ·exact⟨d,rfl,(k m) ⟨e,q+1,F⟩ (t - 1) (by omega) (.inl rfl)⟩
def mu(a c B:Int):Int:=bits .or K a (K.wrap (c* 2 ^ (min B.toNat 64)))
def bc:List Int->Nat->Int->Option (Int×List Int)
 |[],_,_=>F
 |a::e,c,d=>if a<128 then E (mu d (a % 128) (7* (c:Int)),e) else bc e (c+1) (mu d (a % 128) (7* (c:Int)))
theorem xw(a c B:Int): -9223372036854775808<=mu a c B/\mu a c B<=9223372036854775807:=by
 unfold mu bits;rw[jB];omega
theorem DC(a B:Int) (c:0<=B):Op.shift .shl K a K B=pure (y K (K.wrap (a* 2 ^ (min B.toNat 64)))):=by
 unfold Op.shift;rw[if_neg (by omega)];rfl
theorem DD(a:Int) (c:0<=a) (d:a<256):bits .and .u8 a 127=a % 128:=bits_mask .u8 8 (by decide) wraps_u8 7 (by decide) a c d
theorem xx:∀(c:List Int) (i:Nat) (j:Int) {e:Int} {d:List Int},bc c i j=E (e,d)->d.length<c.length/\(∀f∈d,f∈c)/\ -9223372036854775808<=e/\e<=9223372036854775807
 |[],_,_,_,_,a=>by simp[bc] at a
 |k::c,i,j,e,d,a=>by
  unfold bc at a;split at a
  ·injection a with a;injection a with m n;subst m n;have:=xw j (k % 128) (7* (i:Int));exact⟨by simp,λf hy=>by simp[hy],this⟩
  ·obtain⟨q,o,p⟩:=xx c _ _ a;exact⟨by simp;omega,λf hy=>by simp[o f hy],p⟩
def lD(a:U) (d:Nat):Nat:=match a.cell? ⟨d,0,F⟩ with|some (C _ c _)=>c|_=>0
theorem aT.lD{d:U} {c e:Nat} {a:List Int} {now:Int} {j:Bool} (f:aT d c e a now j):lD d c=a.length:=by
 obtain⟨k,m,i,n,o⟩:=f.has;unfold Proofs.YthhibagcpjeihaaGreat.lD;rw[i.cell 0];rfl
def de{e:Type} (k w':U) (c d:Nat) (i:Option (e×List Int)) (now:Int) (j:Bool) (f:e->Prop):Prop:=
 G (· =c) k w'/\match i with
  |some (m,a)=>f m/\aT w' c d a now j
  |none=>∃a,aT w' c d a now true
theorem jF{r:U} {e s:Nat} {A:List Int} {now:Int} {B:Bool} (N:aT r e s A now B):Calls T 131 #[b (E ⟨e,0,F⟩)] r λM w'=>∃c,M=g (y K c)/\(-9223372036854775808<=c/\c<=9223372036854775807)/\de r w' e s (bc A 0 0) now B (λf=>f=c):=by
 have Q:=i N;have hl:=N.len;generalize aa:bc A 0 0=L;have R:=i aa;clear N aa;go_enter func131,ntmps131;go_wp2_with fail;go_loopw [3,4,5] (λav aw ax wr=>∃(c:Int) (a:Nat) (u:List Int) (q:Bool) (ag:V),av=y K c/\aw=y K (7* (a:Int))/\ax=ag/\a+u.length<=1099511627776/\Hid (aT wr e s u now q)/\Hid (G (· =e) r wr)/\Hid (bc u a c=L/\q=B)) (λ_ _ _ wr=>lD wr e)
 case atStart=>exact⟨0,0,A,B,_,rfl,rfl,rfl,by omega,Q,G.refl _ _,R,rfl⟩
 case round=>
  obtain⟨c,a,u,q,ag,rfl,rfl,rfl,ak,w,J,D⟩:=hrel;clear Q R hl;go_wp2_with fail;refine(ui (k w)).mono ?_;rintro M P ⟨f,rfl,O⟩;have I:=i O;have ad:=O.1;have am:=DD f ad.1 ad.2;obtain⟨n,hy⟩:∃n,f % 128=n:=⟨_,rfl⟩;rw[hy] at am;have aB:wrap64 n=n:=by unfold wrap64;omega
  have aj:(0:Int)<=7* (a:Int):=by omega
  have ao:=DC n (7* (a:Int)) aj;obtain⟨m,Y⟩:∃m,bits .or K c (K.wrap (n* 2 ^ (min (7* (a:Int)).toNat 64)))=m:=⟨_,rfl⟩;have H:=i (show mu c (f % 128) (7* (a:Int))=m by rw[hy];exact Y);obtain⟨S,ab⟩:∃S,K.wrap (n* 2 ^ (min (7* (a:Int)).toNat 64))=S:=⟨_,rfl⟩;rw[ab] at ao Y;have ay:=i hy;clear O hy ab;have aA:wrap64 (7* (a:Int)+7)=7* (a:Int)+7:=by unfold wrap64;omega
  obtain⟨d,rfl⟩:=k D;have t:=k I;have x:=(k J).trans t.2.1;have z:=xw c (f % 128) (7* (a:Int));rw[k H] at z;by_cases X:f<128
  ·have j:de r P e s L now q (λf=>f=m):=by
    refine⟨x,?_⟩;obtain⟨rfl,_,p⟩|⟨af,rfl,p⟩:=t.2.2
    ·rw[<-d];exact⟨_,p⟩
    ·unfold bc at d;rw[if_pos X,k H] at d;rw[<-d];exact⟨rfl,p⟩
   have j:=i j;have ai:=i z;clear t x I d D z w J;go_wp2_with fail;go_ret;exact⟨m,rfl,k ai,k j⟩
  ·have j:∃o,(a+1)+o.length<=1099511627776/\aT P e s o now q/\G (· =e) r P/\bc o (a+1) m=L/\o.length<u.length:=by
    obtain⟨rfl,M,p⟩|⟨af,rfl,p⟩:=t.2.2
    ·omega
    ·unfold bc at d;rw[if_neg X,k H] at d;exact⟨af,by simp at ak;omega,p,x,d,by simp⟩
   have j:=i j;have ah:=i (k w).lD;clear t x I d D z w J;go_wp2_with fail;obtain⟨o,ap,ae,aq,ar,au⟩:=k j;refine⟨⟨m,a+1,o,q,_,rfl,?_,rfl,ap,ae,aq,ar,rfl⟩,?_⟩
   ·congr 1
   ·rw[ae.lD,k ah];exact au
def aw{a c:Type} (p:Option (a×List Int)) (d:a->List Int->Option (c×List Int)):Option (c×List Int):=match p with
 |some (f,e)=>d f e
 |none=>F
theorem aT.alloc{w:U} {e c:Nat} {d:List Int} {now:Int} {f:Bool} (i:aT w e c d now f) (j:Obj):aT (w.alloc j) e c d now f:=i.mod (S:=No) ((G.refl _ _).alloc _) (λa=>a) (λa=>a)
theorem de.torn{i:Type} {k w':U} {f d:Nat} {e:Option (i×List Int)} {now:Int} {j:i->Prop} (a:de k w' f d e now true j):∃c,aT w' f d c now true:=by
 obtain⟨_,a⟩:=a;obtain _|⟨m,c⟩:=e
 ·exact a
 ·exact⟨c,a.2⟩
theorem de.bind{n β:Type} {s m:U} {i e:Nat} {p:Option (n×List Int)} {r:n} {now:Int} {k:Bool} (a:de s m i e p now k (λt=>t=r)):∃q t1,aT m i e q now t1/\∀(f:n->List Int->Option (β×List Int)) (w2:U) (d:β->Prop),de m w2 i e (f r q) now t1 d->de s w2 i e (aw p f) now k d:=by
 obtain⟨o,a⟩:=a;obtain _|⟨t,j⟩:=p
 ·obtain⟨j,a⟩:=a;exact⟨j,true,a,λf w2 d c=>⟨o.trans c.1,c.torn⟩⟩
 ·obtain⟨rfl,a⟩:=a;exact⟨j,k,a,λf w2 d c=>⟨o.trans c.1,c.2⟩⟩
theorem de.ret{d q:Type} {m o:U} {j e:Nat} {p:Option (d×List Int)} {n:d} {y:d->q} {now:Int} {k:Bool} {g:q->Prop} (a:de m o j e p now k (λc=>c=n)) (r:g (y n)):de m o j e (aw p λc i=>E (y c,i)) now k g:=by
 obtain⟨f,a⟩:=a;obtain _|⟨c,i⟩:=p
 ·exact⟨f,a⟩
 ·obtain⟨rfl,a⟩:=a;exact⟨f,r,a⟩
theorem de.beside{n:Type} {k j m:U} {f c:Nat} {e:Option (n×List Int)} {now:Int} {i:Bool} {a:n->Prop} (d:de j m f c e now i a) (o:G No k j):de k m f c e now i a:=
 ⟨(o.mono λ_ _ p=>p.elim).trans d.1,d.2⟩
theorem de.fresh{x:Type} {k t u w2:U} {d e a:Nat} {j:Option (x×List Int)} {now:Int} {s:Bool} {o:x->Prop} (p:de t u d e j now s o) (z:G No k t) (i:G (λq=>q=a) u w2) (hb:a≠d) (A:a≠e) (D:k.heap.size<=a):de k w2 d e j now s o:=by
 have m:¬d=a:=λf=>hb f.symm;have n:¬e=a:=λf=>A f.symm;refine⟨((z.mono (S':=(· =d)) λ_ _ w=>w.elim).trans p.1).trans' i (λq B hl=>by omega),?_⟩;have c:=p.2;obtain _|⟨w,r⟩:=j
 ·obtain⟨r,c⟩:=c;exact⟨r,c.mod i m n⟩
 ·exact⟨c.1,c.2.mod i m n⟩
def gX(c:List Int):Option ((Int×Int)×List Int):=aw (bc c 0 0) λa d=>E ((wrap64 (a.tdiv 6+1),wrap64 (a.tmod 6+1)),d)
def mv(f:List Int):Option ((Int×Int×Int)×List Int):=aw (bc f 0 0) λc a=>aw (bc a 0 0) λd a=>aw (bc a 0 0) λe a=>E ((c,d,e),a)
abbrev Fit(a:Int):Prop:= -9223372036854775808<=a/\a<=9223372036854775807
theorem xy{j:U} {f n:Nat} {o:List Int} {now:Int} {p:Bool} (B:aT j f n o now p):Calls T 141 #[b (E ⟨f,0,F⟩)] j λe w'=>∃a c d,e=g (h #[y K a,y K c,y K d])/\(Fit a/\Fit c/\Fit d)/\de j w' f n (mv o) now p (λq=>q=(a,c,d)):=by
 have r:=i B;clear B;go_enter func141,ntmps141;go_wp2_with fail;refine(jF (k r)).mono ?_;rintro e Q ⟨a,rfl,x,D⟩;obtain⟨O,t1,I,G⟩:=D.bind (β:=Int×Int×Int);have u:=i I;have s:=i G;have L:=i x;clear D I G x r;go_wp2_with fail;refine(jF (k u)).mono ?_;rintro e R ⟨c,rfl,z,hb⟩;obtain⟨P,t2,J,H⟩:=hb.bind (β:=Int×Int×Int);have w:=i J;have t:=i H;have M:=i z;clear hb J H z u;go_wp2_with fail
 refine(jF (k w)).mono ?_;rintro e w3 ⟨d,rfl,A,hc⟩;have m:de j w3 f n (mv o) now p (λq=>q=(a,c,d)):=(k s) _ _ _ ((k t) _ _ _ (hc.ret rfl));have m:=i m;have N:=i A;clear hc A w s t;go_wp2;go_ret3;exact⟨a,c,d,rfl,⟨k L,k M,k N⟩,k m⟩
theorem rJ{a:U} {f o:Nat} {w:List Int} {now:Int} {z:Bool} (p:aT a f o w now z):Calls T 140 #[b (E ⟨f,0,F⟩)] a λD w'=>∃x n,D=g (l #[y K x,y K n])/\(Fit x/\Fit n)/\de a w' f o (gX w) now z (λj=>j=(x,n)):=by
 have r:G No a (a.alloc (v #[y K 0,y K 0] 36)):=(G.refl _ _).alloc _;have B:=i (p.alloc (v #[y K 0,y K 0] 36));have m:=X.new a #[y K 0,y K 0] 36;have m:=i m;have H:a.heap.size≠f:=by
  obtain⟨P,n,O,_⟩:=p.has;have:=O.lt;omega
 have M:a.heap.size≠o:=by have:=p.lt;omega
 have r:=i r;clear p;go_enter func140,ntmps140;go_wp2_with fail;refine(jF (k B)).mono ?_;rintro D d ⟨c,rfl,L,s⟩;have e:=s.1.has (k m) H;have Q:d.cell? ⟨a.heap.size,0,F⟩=E (y K 0):=e.cell 0;have R:d.cell? ⟨a.heap.size,1,F⟩=E (y K 0):=e.cell 1;have aa:=e.frozen;have ab:=e.lt;obtain⟨S,Y⟩:=L;have t:Fit (wrap64 (c.tdiv 6+1))/\Fit (wrap64 (c.tmod 6+1)):=by unfold wrap64;omega
 have q:de a ((d.setCell ⟨a.heap.size,0,F⟩ (y K (wrap64 (c.tdiv 6+1)))).setCell ⟨a.heap.size,1,F⟩ (y K (wrap64 (c.tmod 6+1)))) f o (gX w) now z (λj=>j=(wrap64 (c.tdiv 6+1),wrap64 (c.tmod 6+1))):=by
  have N:G (λu=>u=a.heap.size) d ((d.setCell ⟨a.heap.size,0,F⟩ (y K (wrap64 (c.tdiv 6+1)))).setCell ⟨a.heap.size,1,F⟩ (y K (wrap64 (c.tmod 6+1)))):=((G.refl (λu=>u=a.heap.size) d).setCell (p:=⟨a.heap.size,0,F⟩) (.inl rfl) _).setCell (p:=⟨a.heap.size,1,F⟩) (.inl rfl) _
  exact((s.ret (y:=λc=>(wrap64 (c.tdiv 6+1),wrap64 (c.tmod 6+1))) (g:=λj=>j=(wrap64 (c.tdiv 6+1),wrap64 (c.tmod 6+1))) rfl).fresh (k r) N H M (bK _))
 have A:=(e.set 0 (y K (wrap64 (c.tdiv 6+1)))).set 1 (y K (wrap64 (c.tmod 6+1)));have d0:((d.setCell ⟨a.heap.size,0,F⟩ (y K (wrap64 (c.tdiv 6+1)))).setCell ⟨a.heap.size,1,F⟩ (y K (wrap64 (c.tmod 6+1)))).cell? ⟨a.heap.size,0,F⟩=E (y K (wrap64 (c.tdiv 6+1))):=A.cell 0
 have d1:((d.setCell ⟨a.heap.size,0,F⟩ (y K (wrap64 (c.tdiv 6+1)))).setCell ⟨a.heap.size,1,F⟩ (y K (wrap64 (c.tmod 6+1)))).cell? ⟨a.heap.size,1,F⟩=E (y K (wrap64 (c.tmod 6+1))):=A.cell 1;have I:=i d0;have J:=i d1;have q:=i q;have t:=i t;clear s B m d0 d1;go_wp2_with fail;have d0:=k I;have d1:=k J;refine bodyPost_ret (by simp[results,results140,go_sem,d0,d1];try rfl) rfl ?_;exact⟨_,_,rfl,k t,k q⟩
def fL(now:Int) (e:List Int):Option (B×List Int):=aw (gX e) λd a=>aw (bc a 0 0) λc a=>aw (if c.tdiv 4=3 then E (0,a) else bc a 0 0) λf a=>aw (if c.tdiv 4=1 then bc a 0 0 else E (0,a)) λi a=>E (⟨d.1,d.2,c.tdiv 4,f,c.tmod 4,if c.tdiv 4=1 then wrap64 (now+i) else 0⟩,a)
def dm(a:B):List V:=[y K a.row,y K a.P,y K a.st,y K a.pa,y K a.cl,y K a.un]
def DE(a:B):Prop:=(Fit a.row/\Fit a.P)/\Fit a.st/\Fit a.pa/\Fit a.cl/\Fit a.un
def cz{e:Type} (w':U) (d c:Nat) (i:Option (e×List Int)) (now:Int) (j:Bool) (f:e->Prop):Prop:=match i with
 |some (k,a)=>f k/\aT w' d c a now j
 |none=>∃a,aT w' d c a now true
theorem cz.torn{i:Type} {w':U} {f c:Nat} {e:Option (i×List Int)} {now:Int} {j:i->Prop} (d:cz w' f c e now true j):∃a,aT w' f c a now true:=by
 obtain _|⟨k,a⟩:=e
 ·exact d
 ·exact⟨a,d.2⟩
theorem cz.bind{m β:Type} {q:U} {f d:Nat} {p:Option (m×List Int)} {o:m} {now:Int} {k:Bool} (a:cz q f d p now k (λr=>r=o)):∃n t1,aT q f d n now t1/\∀(e:m->List Int->Option (β×List Int)) (w2:U) (c:β->Prop),cz w2 f d (e o n) now t1 c->cz w2 f d (aw p e) now k c:=by
 obtain _|⟨r,j⟩:=p
 ·obtain⟨j,a⟩:=a;exact⟨j,true,a,λe w2 c i=>i.torn⟩
 ·obtain⟨rfl,a⟩:=a;exact⟨j,k,a,λe w2 c i=>i⟩
theorem uj:Fit 0:=by decide
theorem DG:Fit 3:=by decide
theorem DH{a:Int} (e:Fit a):Fit (a.tdiv 4)/\Fit (a.tmod 4):=by
 obtain c|c:=Int.le_total 0 a
 ·rw[rK c,qi c];omega
 ·obtain⟨d,rfl⟩:∃d,a= -d:=⟨-a,by omega⟩;rw[Int.neg_tdiv,Int.neg_tmod,rK (by omega),qi (by omega)];omega
theorem aT.kz{c:U} {a d:Nat} {f:List Int} {now:Int} {j:Bool} (e:aT c a d f now j):a<c.heap.size:=by
 obtain⟨k,m,i,_⟩:=e.has;exact i.lt
structure uk (w W wx:U) (rb gb b sb:Nat) (r c pa cl now:Int) (f:List Int) (t3:Bool) (u:Int):Prop where
 box:X wx b #[y K r,y K c,y K 1,y K pa,y K cl,y K (wrap64 (now+u))] 202
 res:X wx sb #[y K 0,y K 0,y K 0,y K 0,y K 0,y K 0] 202
 mod:G (· =rb) w wx
 rd:∃l4 t4,aT wx rb gb l4 now t4/\∀(q:Int->List Int->Option (B×List Int)) (w2:U) (g:B->Prop),cz w2 rb gb (q u l4) now t4 g->cz w2 rb gb (aw (bc f 0 0) q) now t3 g
theorem DI{q c e:U} {d o a j:Nat} {x r w s now k:Int} {t:List Int} {t3:Bool} (f:de c e d o (bc t 0 0) now t3 (λm=>m=k)) (z:X c a #[y K x,y K r,y K 1,y K w,y K s,y K 0] 202) (D:X c j #[y K 0,y K 0,y K 0,y K 0,y K 0,y K 0] 202) (A:G (· =d) q c) (H:a≠d/\a≠o/\j≠d/\j≠a/\q.heap.size<=a) {m:Int} (I:m=wrap64 (now+k)):
  uk q c (e.setCell ⟨a,5,F⟩ (y K m)) d o a j x r w s now t t3 k:=by
 subst I;obtain⟨u,M,N,O,R⟩:=H;have p:G (λi=>i=a) e (e.setCell ⟨a,5,F⟩ (y K (wrap64 (now+k)))):=(G.refl (λi=>i=a) e).setCell (p:=⟨a,5,F⟩) (.inl rfl) _;obtain⟨L,t4,P,J⟩:=cz.bind (β:=B) f.2;exact⟨(f.1.has z u).set 5 _,p.has (f.1.has D N) O,(A.trans f.1).trans' p (λi Q hl=>by omega),L,t4,P.mod p (λn=>u n.symm) (λn=>M n.symm),J⟩
theorem DJ{o e:U} {c k a j:Nat} {A q z r now:Int} {x:List Int} {t3:Bool} (J:aT e c k x now t3) (t:X e a #[y K A,y K q,y K 1,y K z,y K r,y K 0] 202) (I:X e j #[y K 0,y K 0,y K 0,y K 0,y K 0,y K 0] 202) (H:G (· =c) o e) (w:a≠c/\a≠k/\j≠c/\j≠a/\o.heap.size<=a) (p:U) (u:G No e p):
  Calls T 131 #[b (E ⟨c,0,F⟩)] p λs i=>∃f,s=g (y K f)/\Fit f/\i.cell? ⟨c,1,F⟩=E (y K now)/\(i.cell? ⟨a,5,F⟩=E (y K 0)/\i.frozen? ⟨a,5,F⟩=false/\a<i.heap.size)/\Hid (∀d,d=wrap64 (now+f)->uk o e (i.setCell ⟨a,5,F⟩ (y K d)) c k a j A q z r now x t3 f):=by
 refine(jF (J.mod u (λd=>d) (λd=>d))).mono ?_;rintro s i ⟨f,rfl,D,hu⟩;have n:=hu.beside u;obtain⟨O,t4,N,_⟩:=cz.bind (β:=B) n.2;obtain⟨_,_,M,_⟩:=N.has;have m:=n.1.has t w.1;exact⟨f,rfl,D,M.cell 1,⟨m.cell 5,m.frozen 5,m.lt⟩,λd L=>DI n t I H w L⟩
set_option maxHeartbeats 16000000 in theorem um{d:U} {a:Nat} {r c st pa cl un:Int} (i:X d a #[y K 0,y K 0,y K 0,y K 0,y K 0,y K 0] 202):G (λf=>f=a) d ((((((d.setCell ⟨a,0,F⟩ (y K r)).setCell ⟨a,1,F⟩ (y K c)).setCell ⟨a,2,F⟩ (y K st)).setCell ⟨a,3,F⟩ (y K pa)).setCell ⟨a,4,F⟩ (y K cl)).setCell ⟨a,5,F⟩ (y K un))/\((((((d.setCell ⟨a,0,F⟩ (y K r)).setCell ⟨a,1,F⟩ (y K c)).setCell ⟨a,2,F⟩ (y K st)).setCell ⟨a,3,F⟩ (y K pa)).setCell ⟨a,4,F⟩ (y K cl)).setCell ⟨a,5,F⟩ (y K un)).cell? ⟨a,0,F⟩=E (y K r)/\((((((d.setCell ⟨a,0,F⟩ (y K r)).setCell ⟨a,1,F⟩ (y K c)).setCell ⟨a,2,F⟩ (y K st)).setCell ⟨a,3,F⟩ (y K pa)).setCell ⟨a,4,F⟩ (y K cl)).setCell ⟨a,5,F⟩ (y K un)).cell? ⟨a,1,F⟩=E (y K c)/\((((((d.setCell ⟨a,0,F⟩ (y K r)).setCell ⟨a,1,F⟩ (y K c)).setCell ⟨a,2,F⟩ (y K st)).setCell ⟨a,3,F⟩ (y K pa)).setCell ⟨a,4,F⟩ (y K cl)).setCell ⟨a,5,F⟩ (y K un)).cell? ⟨a,2,F⟩=E (y K st)/\((((((d.setCell ⟨a,0,F⟩ (y K r)).setCell ⟨a,1,F⟩ (y K c)).setCell ⟨a,2,F⟩ (y K st)).setCell ⟨a,3,F⟩ (y K pa)).setCell ⟨a,4,F⟩ (y K cl)).setCell ⟨a,5,F⟩ (y K un)).cell? ⟨a,3,F⟩=E (y K pa)/\((((((d.setCell ⟨a,0,F⟩ (y K r)).setCell ⟨a,1,F⟩ (y K c)).setCell ⟨a,2,F⟩ (y K st)).setCell ⟨a,3,F⟩ (y K pa)).setCell ⟨a,4,F⟩ (y K cl)).setCell ⟨a,5,F⟩ (y K un)).cell? ⟨a,4,F⟩=E (y K cl)/\((((((d.setCell ⟨a,0,F⟩ (y K r)).setCell ⟨a,1,F⟩ (y K c)).setCell ⟨a,2,F⟩ (y K st)).setCell ⟨a,3,F⟩ (y K pa)).setCell ⟨a,4,F⟩ (y K cl)).setCell ⟨a,5,F⟩ (y K un)).cell? ⟨a,5,F⟩=E (y K un):=by
 have e:=((((((i.set 0 (y K r)).set 1 (y K c)).set 2 (y K st)).set 3 (y K pa)).set 4 (y K cl)).set 5 (y K un));refine⟨?_,e.cell 0,e.cell 1,e.cell 2,e.cell 3,e.cell 4,e.cell 5⟩
 exact((((((G.refl (λf=>f=a) d).setCell (p:=⟨a,0,F⟩) (.inl rfl) _).setCell (p:=⟨a,1,F⟩) (.inl rfl) _).setCell (p:=⟨a,2,F⟩) (.inl rfl) _).setCell (p:=⟨a,3,F⟩) (.inl rfl) _).setCell (p:=⟨a,4,F⟩) (.inl rfl) _).setCell (p:=⟨a,5,F⟩) (.inl rfl) _
theorem xz{c:U} {r t:Nat} {J:List Int} {now:Int} {L:Bool} (Y:aT c r t J now L):Calls T 139 #[b (E ⟨r,0,F⟩)] c λw w'=>∃aN,w=g (l (dm aN).toArray)/\DE aN/\de c w' r t (fL now J) now L (λp=>p=aN):=by
 have aL:G No c (c.alloc (v #[y K 0,y K 0,y K 0,y K 0,y K 0,y K 0] 202)):=(G.refl _ _).alloc _;have aZ:=i (Y.alloc (v #[y K 0,y K 0,y K 0,y K 0,y K 0,y K 0] 202));have aQ:=i (X.new c #[y K 0,y K 0,y K 0,y K 0,y K 0,y K 0] 202);have aA:c.heap.size≠r:=by have:=Y.kz;omega
 have bJ:c.heap.size≠t:=by have:=Y.lt;omega
 have aL:=i aL;have bL:=Y.lt;have bO:=Y.kz;clear Y;go_enter func139,ntmps139;go_wp2_with fail;refine(rJ (k aZ)).mono ?_;rintro w a ⟨n,m,rfl,a7,av⟩;have aR:=i (av.1.has (k aQ) aA);obtain⟨bS,t1,bk,ba⟩:=cz.bind (β:=B) av.2;have bw:=av.1.size;rw[bj] at bw;have ax:G No a (a.alloc (v #[y K n,y K m,y K 0,y K 0,y K 0,y K 0] 202)):=(G.refl _ _).alloc _
 have a5:=i (bk.alloc (v #[y K n,y K m,y K 0,y K 0,y K 0,y K 0] 202));have aX:=i (X.new a #[y K n,y K m,y K 0,y K 0,y K 0,y K 0] 202);have aS:=i (ax.has (k aR) (λp=>p));have aI:=i ba;have bp:=i (((k aL).mono (S':=(· =r)) λ_ _ p=>p.elim).trans av.1);have ax:=i ax;have aE:=i a7;clear av bk ba a7 aZ aQ aR;go_wp2_with fail;refine(jF (k a5)).mono ?_;rintro w j ⟨bh,rfl,fn,aa⟩
 obtain⟨bA,t2,bl,bb⟩:=cz.bind (β:=B) aa.2;have a2:=i ((k bp).trans (((k ax).mono (S':=(· =r)) λ_ _ p=>p.elim).trans aa.1));have bx:=aa.1.size;rw[bj] at bx;have au:a.heap.size≠r:=by omega
 have aM:a.heap.size≠t:=by omega
 have M:=aa.1.has (k aX) au;have aU:=aa.1.has (k aS) aA;obtain⟨st,aB⟩:∃st,bh.tdiv 4=st:=⟨_,rfl⟩;obtain⟨d,ay⟩:∃d,bh.tmod 4=d:=⟨_,rfl⟩;have bt:Fit st/\Fit d:=by
  have f1:=DH fn;rw[aB,ay] at f1;exact f1
 have aC:G (λx=>x=a.heap.size) j ((j.setCell ⟨a.heap.size,2,F⟩ (y K st)).setCell ⟨a.heap.size,4,F⟩ (y K d)):=((G.refl (λx=>x=a.heap.size) j).setCell (p:=⟨a.heap.size,2,F⟩) (.inl rfl) _).setCell (p:=⟨a.heap.size,4,F⟩) (.inl rfl) _;have aY:=(M.set 2 (y K st)).set 4 (y K d);have aV:=aC.has aU (by omega);have a6:=bl.mod aC (λw=>au w.symm) (λw=>aM w.symm)
 have bT:j.cell? ⟨a.heap.size,2,F⟩=E (y K 0):=M.cell 2;have bU:j.cell? ⟨a.heap.size,4,F⟩=E (y K 0):=M.cell 4;have bV:=M.frozen;have bM:=M.lt;have aK:=i bb;have a1:=i aC;have s:=i aY;have o:=i aV;have aF:=i a6;have aq:=i bt;clear aa bl bb fn a5 aX aS M aU aC aY aV a6;have bP:c.heap.size<a.heap.size:=by omega
 have bQ:a.heap.size<j.heap.size:=by omega
 by_cases aO:st=3
 ·subst aO;obtain⟨d0,d1,d2,d3,d4,d5,d6⟩:=um (r:=n) (c:=m) (st:=3) (pa:=0) (cl:=d) (un:=0) (k o);have H:=((k a2).trans' (k a1) (λx aw hl=>by omega)).trans' d0 (λx aw hl=>by omega)
  have I:cz ((((((((j.setCell ⟨a.heap.size,2,F⟩ (y K 3)).setCell ⟨a.heap.size,4,F⟩ (y K d)).setCell ⟨c.heap.size,0,F⟩ (y K n)).setCell ⟨c.heap.size,1,F⟩ (y K m)).setCell ⟨c.heap.size,2,F⟩ (y K 3)).setCell ⟨c.heap.size,3,F⟩ (y K 0)).setCell ⟨c.heap.size,4,F⟩ (y K d)).setCell ⟨c.heap.size,5,F⟩ (y K 0)) r t (fL now J) now L (λp=>p=⟨n,m,3,0,d,0⟩):=by
   refine(k aI) _ _ _ ((k aK) _ _ _ ?_);rw[aB,ay];show cz _ r t (E (_,bA)) now t2 _;exact⟨rfl,(k aF).mod d0 (by omega) (by omega)⟩
  have ap:=i (show de c _ r t (fL now J) now L (λp=>p=⟨n,m,3,0,d,0⟩) from⟨H,I⟩);have ar:=i (eL d1 (eL d2 (eL d3 (eL d4 (eL d5 d6)))));clear d0 d1 d2 d3 d4 d5 d6 H I;have N:((j.setCell ⟨a.heap.size,2,F⟩ (y K 3)).setCell ⟨a.heap.size,4,F⟩ (y K d)).cell? ⟨a.heap.size,0,F⟩=E (y K n):=(k s).cell 0
  have O:((j.setCell ⟨a.heap.size,2,F⟩ (y K 3)).setCell ⟨a.heap.size,4,F⟩ (y K d)).cell? ⟨a.heap.size,1,F⟩=E (y K m):=(k s).cell 1;have P:((j.setCell ⟨a.heap.size,2,F⟩ (y K 3)).setCell ⟨a.heap.size,4,F⟩ (y K d)).cell? ⟨a.heap.size,2,F⟩=E (y K 3):=(k s).cell 2;have Q:((j.setCell ⟨a.heap.size,2,F⟩ (y K 3)).setCell ⟨a.heap.size,4,F⟩ (y K d)).cell? ⟨a.heap.size,3,F⟩=E (y K 0):=(k s).cell 3
  have R:((j.setCell ⟨a.heap.size,2,F⟩ (y K 3)).setCell ⟨a.heap.size,4,F⟩ (y K d)).cell? ⟨a.heap.size,4,F⟩=E (y K d):=(k s).cell 4;have S:((j.setCell ⟨a.heap.size,2,F⟩ (y K 3)).setCell ⟨a.heap.size,4,F⟩ (y K d)).cell? ⟨a.heap.size,5,F⟩=E (y K 0):=(k s).cell 5;have ae:((j.setCell ⟨a.heap.size,2,F⟩ (y K 3)).setCell ⟨a.heap.size,4,F⟩ (y K d)).cell? ⟨c.heap.size,0,F⟩=E (y K 0):=(k o).cell 0
  have af:((j.setCell ⟨a.heap.size,2,F⟩ (y K 3)).setCell ⟨a.heap.size,4,F⟩ (y K d)).cell? ⟨c.heap.size,1,F⟩=E (y K 0):=(k o).cell 1;have ag:((j.setCell ⟨a.heap.size,2,F⟩ (y K 3)).setCell ⟨a.heap.size,4,F⟩ (y K d)).cell? ⟨c.heap.size,2,F⟩=E (y K 0):=(k o).cell 2;have ah:((j.setCell ⟨a.heap.size,2,F⟩ (y K 3)).setCell ⟨a.heap.size,4,F⟩ (y K d)).cell? ⟨c.heap.size,3,F⟩=E (y K 0):=(k o).cell 3
  have ai:((j.setCell ⟨a.heap.size,2,F⟩ (y K 3)).setCell ⟨a.heap.size,4,F⟩ (y K d)).cell? ⟨c.heap.size,4,F⟩=E (y K 0):=(k o).cell 4;have aj:((j.setCell ⟨a.heap.size,2,F⟩ (y K 3)).setCell ⟨a.heap.size,4,F⟩ (y K d)).cell? ⟨c.heap.size,5,F⟩=E (y K 0):=(k o).cell 5;have ak:=(k o).frozen;have am:=(k o).lt;go_wp2_with fail;obtain⟨d1,d2,d3,d4,d5,d6⟩:=k ar
  refine bodyPost_ret (by simp[results,results139,go_sem,d1,d2,d3,d4,d5,d6];try rfl) rfl ?_;exact⟨⟨n,m,3,0,d,0⟩,rfl,⟨k aE,DG,uj,(k aq).2,uj⟩,k ap⟩
 ·have N:((j.setCell ⟨a.heap.size,2,F⟩ (y K st)).setCell ⟨a.heap.size,4,F⟩ (y K d)).cell? ⟨a.heap.size,0,F⟩=E (y K n):=(k s).cell 0;have O:((j.setCell ⟨a.heap.size,2,F⟩ (y K st)).setCell ⟨a.heap.size,4,F⟩ (y K d)).cell? ⟨a.heap.size,1,F⟩=E (y K m):=(k s).cell 1;have P:((j.setCell ⟨a.heap.size,2,F⟩ (y K st)).setCell ⟨a.heap.size,4,F⟩ (y K d)).cell? ⟨a.heap.size,2,F⟩=E (y K st):=(k s).cell 2
  have Q:((j.setCell ⟨a.heap.size,2,F⟩ (y K st)).setCell ⟨a.heap.size,4,F⟩ (y K d)).cell? ⟨a.heap.size,3,F⟩=E (y K 0):=(k s).cell 3;have R:((j.setCell ⟨a.heap.size,2,F⟩ (y K st)).setCell ⟨a.heap.size,4,F⟩ (y K d)).cell? ⟨a.heap.size,4,F⟩=E (y K d):=(k s).cell 4;have S:((j.setCell ⟨a.heap.size,2,F⟩ (y K st)).setCell ⟨a.heap.size,4,F⟩ (y K d)).cell? ⟨a.heap.size,5,F⟩=E (y K 0):=(k s).cell 5
  have ae:((j.setCell ⟨a.heap.size,2,F⟩ (y K st)).setCell ⟨a.heap.size,4,F⟩ (y K d)).cell? ⟨c.heap.size,0,F⟩=E (y K 0):=(k o).cell 0;have af:((j.setCell ⟨a.heap.size,2,F⟩ (y K st)).setCell ⟨a.heap.size,4,F⟩ (y K d)).cell? ⟨c.heap.size,1,F⟩=E (y K 0):=(k o).cell 1;have ag:((j.setCell ⟨a.heap.size,2,F⟩ (y K st)).setCell ⟨a.heap.size,4,F⟩ (y K d)).cell? ⟨c.heap.size,2,F⟩=E (y K 0):=(k o).cell 2
  have ah:((j.setCell ⟨a.heap.size,2,F⟩ (y K st)).setCell ⟨a.heap.size,4,F⟩ (y K d)).cell? ⟨c.heap.size,3,F⟩=E (y K 0):=(k o).cell 3;have ai:((j.setCell ⟨a.heap.size,2,F⟩ (y K st)).setCell ⟨a.heap.size,4,F⟩ (y K d)).cell? ⟨c.heap.size,4,F⟩=E (y K 0):=(k o).cell 4;have aj:((j.setCell ⟨a.heap.size,2,F⟩ (y K st)).setCell ⟨a.heap.size,4,F⟩ (y K d)).cell? ⟨c.heap.size,5,F⟩=E (y K 0):=(k o).cell 5
  have ak:=(k o).frozen;have am:=(k o).lt;go_wp2_with fail;refine(jF (k aF)).mono ?_;rintro w f ⟨e,rfl,a8,ab⟩;have ao:=ab.1.has (k s) au;have aW:=ab.1.has (k o) aA;have bz:=ab.1.size;simp only[kx] at bz;obtain⟨bf,t3,bm,bc⟩:=cz.bind (β:=B) ab.2;have bq:=i (((k a2).trans' (k a1) (λx aw hl=>by omega)).trans ab.1)
  have aD:G (λx=>x=a.heap.size) f (f.setCell ⟨a.heap.size,3,F⟩ (y K e)):=(G.refl (λx=>x=a.heap.size) f).setCell (p:=⟨a.heap.size,3,F⟩) (.inl rfl) _;have bZ:f.cell? ⟨a.heap.size,3,F⟩=E (y K 0):=ao.cell 3;have b1:=ao.frozen;have b2:=ao.lt;have u:=i (ao.set 3 (y K e));have q:=i (aD.has aW (by omega));have aH:=i (bm.mod aD (λw=>au w.symm) (λw=>aM w.symm))
  have a3:=i ((k bq).trans' aD (λx aw hl=>by omega));have a0:=i bc;have kA:=i a8;have bR:a.heap.size<f.heap.size:=by omega
  clear ab ao aW bm bc a8 aD N O P Q R S ae af ag ah ai aj ak am aF s o;by_cases bi:st=1
  ·subst bi;have N:(f.setCell ⟨a.heap.size,3,F⟩ (y K e)).cell? ⟨a.heap.size,0,F⟩=E (y K n):=(k u).cell 0;have O:(f.setCell ⟨a.heap.size,3,F⟩ (y K e)).cell? ⟨a.heap.size,1,F⟩=E (y K m):=(k u).cell 1;have P:(f.setCell ⟨a.heap.size,3,F⟩ (y K e)).cell? ⟨a.heap.size,2,F⟩=E (y K 1):=(k u).cell 2;have Q:(f.setCell ⟨a.heap.size,3,F⟩ (y K e)).cell? ⟨a.heap.size,3,F⟩=E (y K e):=(k u).cell 3
   have R:(f.setCell ⟨a.heap.size,3,F⟩ (y K e)).cell? ⟨a.heap.size,4,F⟩=E (y K d):=(k u).cell 4;have S:(f.setCell ⟨a.heap.size,3,F⟩ (y K e)).cell? ⟨a.heap.size,5,F⟩=E (y K 0):=(k u).cell 5;have ae:(f.setCell ⟨a.heap.size,3,F⟩ (y K e)).cell? ⟨c.heap.size,0,F⟩=E (y K 0):=(k q).cell 0;have af:(f.setCell ⟨a.heap.size,3,F⟩ (y K e)).cell? ⟨c.heap.size,1,F⟩=E (y K 0):=(k q).cell 1
   have ag:(f.setCell ⟨a.heap.size,3,F⟩ (y K e)).cell? ⟨c.heap.size,2,F⟩=E (y K 0):=(k q).cell 2;have ah:(f.setCell ⟨a.heap.size,3,F⟩ (y K e)).cell? ⟨c.heap.size,3,F⟩=E (y K 0):=(k q).cell 3;have ai:(f.setCell ⟨a.heap.size,3,F⟩ (y K e)).cell? ⟨c.heap.size,4,F⟩=E (y K 0):=(k q).cell 4;have aj:(f.setCell ⟨a.heap.size,3,F⟩ (y K e)).cell? ⟨c.heap.size,5,F⟩=E (y K 0):=(k q).cell 5
   have ak:=(k q).frozen;have am:=(k q).lt;have bs:(f.setCell ⟨a.heap.size,3,F⟩ (y K e)).cell? ⟨r,1,F⟩=E (y K now):=by
    obtain⟨_,_,bC,_⟩:=(k aH).has;exact bC.cell 1
   have bo:=i (DJ (k aH) (k u) (k q) (k a3) ⟨au,aM,aA,by omega,by omega⟩);go_upto_region 7 with fail;go_cut [] from 30 to 38 (λbD=>∃ad,Fit ad/\Hid (uk c (f.setCell ⟨a.heap.size,3,F⟩ (y K e)) bD r t a.heap.size c.heap.size n m e d now bf t3 ad))
   case first=>
    generalize (f.setCell ⟨a.heap.size,3,F⟩ (y K e))=bW at *;go_region_with (go_at_call 131;refine((k bo) _ ?_).mono ?_;(first|exact G.refl _ _|exact(G.refl _ _).drew|exact(G.refl _ _).drewN _|exact((G.refl _ _).drewN _).drew);rintro w bY ⟨ad,rfl,a9,bN,⟨bE,bG,bH⟩,bv⟩)
    all_goals (go_wp2_with fail;go_meet;exact⟨ad,a9,bv _ (by rw[jB];unfold wrap64;rfl)⟩)
   case rest=>
    obtain⟨ad,a9,hF⟩:=hcut;clear N O P Q R S ae af ag ah ai aj ak am bs;obtain⟨D,hv⟩:∃D,wrap64 (now+ad)=D:=⟨_,rfl⟩;have bu:Fit D:=by rw[<-hv];unfold wrap64;omega
    obtain⟨bB,t4,bn,bd⟩:=(k hF).rd;have A:=(k hF).box;rw[hv] at A;have A:=i A;have z:=i (k hF).res;have a4:=(k hF).mod;obtain⟨d0,d1,d2,d3,d4,d5,d6⟩:=um (r:=n) (c:=m) (st:=1) (pa:=e) (cl:=d) (un:=D) (k z);have H:=a4.trans' d0 (λx aw hl=>by omega)
    have I:cz ((((((wc.setCell ⟨c.heap.size,0,F⟩ (y K n)).setCell ⟨c.heap.size,1,F⟩ (y K m)).setCell ⟨c.heap.size,2,F⟩ (y K 1)).setCell ⟨c.heap.size,3,F⟩ (y K e)).setCell ⟨c.heap.size,4,F⟩ (y K d)).setCell ⟨c.heap.size,5,F⟩ (y K D)) r t (fL now J) now L (λp=>p=⟨n,m,1,e,d,D⟩):=by
     refine(k aI) _ _ _ ((k aK) _ _ _ ?_);simp only[aB,ay,if_neg aO,if_true];refine(k a0) _ _ _ (bd _ _ _ ?_);rw[hv];show cz _ r t (E (_,bB)) now t4 _;exact⟨rfl,bn.mod d0 (by omega) (by omega)⟩
    have ap:=i (show de c _ r t (fL now J) now L (λp=>p=⟨n,m,1,e,d,D⟩) from⟨H,I⟩);have ar:=i (eL d1 (eL d2 (eL d3 (eL d4 (eL d5 d6)))));clear d0 d1 d2 d3 d4 d5 d6 H I bn bd a4;have N:wc.cell? ⟨a.heap.size,0,F⟩=E (y K n):=(k A).cell 0;have O:wc.cell? ⟨a.heap.size,1,F⟩=E (y K m):=(k A).cell 1;have P:wc.cell? ⟨a.heap.size,2,F⟩=E (y K 1):=(k A).cell 2
    have Q:wc.cell? ⟨a.heap.size,3,F⟩=E (y K e):=(k A).cell 3;have R:wc.cell? ⟨a.heap.size,4,F⟩=E (y K d):=(k A).cell 4;have S:wc.cell? ⟨a.heap.size,5,F⟩=E (y K D):=(k A).cell 5;have ae:wc.cell? ⟨c.heap.size,0,F⟩=E (y K 0):=(k z).cell 0;have af:wc.cell? ⟨c.heap.size,1,F⟩=E (y K 0):=(k z).cell 1;have ag:wc.cell? ⟨c.heap.size,2,F⟩=E (y K 0):=(k z).cell 2
    have ah:wc.cell? ⟨c.heap.size,3,F⟩=E (y K 0):=(k z).cell 3;have ai:wc.cell? ⟨c.heap.size,4,F⟩=E (y K 0):=(k z).cell 4;have aj:wc.cell? ⟨c.heap.size,5,F⟩=E (y K 0):=(k z).cell 5;have ak:=(k z).frozen;have am:=(k z).lt;go_wp2_with fail;obtain⟨d1,d2,d3,d4,d5,d6⟩:=k ar;refine bodyPost_ret (by simp[results,results139,go_sem,d1,d2,d3,d4,d5,d6];try rfl) rfl ?_
    exact⟨⟨n,m,1,e,d,D⟩,rfl,⟨k aE,(k aq).1,k kA,(k aq).2,bu⟩,k ap⟩
  ·obtain⟨d0,d1,d2,d3,d4,d5,d6⟩:=um (r:=n) (c:=m) (st:=st) (pa:=e) (cl:=d) (un:=0) (k q);have H:=(k a3).trans' d0 (λx aw hl=>by omega)
   have I:cz (((((((f.setCell ⟨a.heap.size,3,F⟩ (y K e)).setCell ⟨c.heap.size,0,F⟩ (y K n)).setCell ⟨c.heap.size,1,F⟩ (y K m)).setCell ⟨c.heap.size,2,F⟩ (y K st)).setCell ⟨c.heap.size,3,F⟩ (y K e)).setCell ⟨c.heap.size,4,F⟩ (y K d)).setCell ⟨c.heap.size,5,F⟩ (y K 0)) r t (fL now J) now L (λp=>p=⟨n,m,st,e,d,0⟩):=by
    refine(k aI) _ _ _ ((k aK) _ _ _ ?_);simp only[aB,ay,if_neg aO,if_neg bi];refine(k a0) _ _ _ ?_;show cz _ r t (E (_,bf)) now t3 _;exact⟨rfl,(k aH).mod d0 (by omega) (by omega)⟩
   have ap:=i (show de c _ r t (fL now J) now L (λp=>p=⟨n,m,st,e,d,0⟩) from⟨H,I⟩);have ar:=i (eL d1 (eL d2 (eL d3 (eL d4 (eL d5 d6)))));clear d0 d1 d2 d3 d4 d5 d6 H I;have N:(f.setCell ⟨a.heap.size,3,F⟩ (y K e)).cell? ⟨a.heap.size,0,F⟩=E (y K n):=(k u).cell 0;have O:(f.setCell ⟨a.heap.size,3,F⟩ (y K e)).cell? ⟨a.heap.size,1,F⟩=E (y K m):=(k u).cell 1
   have P:(f.setCell ⟨a.heap.size,3,F⟩ (y K e)).cell? ⟨a.heap.size,2,F⟩=E (y K st):=(k u).cell 2;have Q:(f.setCell ⟨a.heap.size,3,F⟩ (y K e)).cell? ⟨a.heap.size,3,F⟩=E (y K e):=(k u).cell 3;have R:(f.setCell ⟨a.heap.size,3,F⟩ (y K e)).cell? ⟨a.heap.size,4,F⟩=E (y K d):=(k u).cell 4;have S:(f.setCell ⟨a.heap.size,3,F⟩ (y K e)).cell? ⟨a.heap.size,5,F⟩=E (y K 0):=(k u).cell 5
   have ae:(f.setCell ⟨a.heap.size,3,F⟩ (y K e)).cell? ⟨c.heap.size,0,F⟩=E (y K 0):=(k q).cell 0;have af:(f.setCell ⟨a.heap.size,3,F⟩ (y K e)).cell? ⟨c.heap.size,1,F⟩=E (y K 0):=(k q).cell 1;have ag:(f.setCell ⟨a.heap.size,3,F⟩ (y K e)).cell? ⟨c.heap.size,2,F⟩=E (y K 0):=(k q).cell 2;have ah:(f.setCell ⟨a.heap.size,3,F⟩ (y K e)).cell? ⟨c.heap.size,3,F⟩=E (y K 0):=(k q).cell 3
   have ai:(f.setCell ⟨a.heap.size,3,F⟩ (y K e)).cell? ⟨c.heap.size,4,F⟩=E (y K 0):=(k q).cell 4;have aj:(f.setCell ⟨a.heap.size,3,F⟩ (y K e)).cell? ⟨c.heap.size,5,F⟩=E (y K 0):=(k q).cell 5;have ak:=(k q).frozen;have am:=(k q).lt;go_wp2_with fail;obtain⟨d1,d2,d3,d4,d5,d6⟩:=k ar;refine bodyPost_ret (by simp[results,results139,go_sem,d1,d2,d3,d4,d5,d6];try rfl) rfl ?_
   exact⟨⟨n,m,st,e,d,0⟩,rfl,⟨k aE,(k aq).1,k kA,(k aq).2,uj⟩,k ap⟩
theorem DK(a:IntKind) (c d:Int):bits .or a c d=bits .or a d c:=by
 unfold bits;simp only;rw[BitVec.or_comm]
theorem uo(d c a:Nat) (n:a<=8) (f:d<2 ^ (7* a)) (hy:c<128) (hf:c* 2 ^ (7* a)<2 ^ 63):mu (d:Int) (c:Int) (7* (a:Int))=((d+c* 2 ^ (7* a):Nat):Int):=by
 have i:min (7* (a:Int)).toNat 64=7* a:=by omega
 have j:((c:Int)* 2 ^ (7* a))=((c* 2 ^ (7* a):Nat):Int):=by simp
 have e:((c* 2 ^ (7* a):Nat):Int)<2 ^ 63:=by exact_mod_cast hf
 unfold mu;rw[i,j,rH _ (Int.natCast_nonneg _) e,DK]
 rw[bits_join K 63 (by decide) rH (7* a) _ _ (Int.natCast_nonneg _) (by
   have:(c* 2 ^ (7* a)) % 2 ^ (7* a)=0:=Nat.mul_mod_left _ _
   exact_mod_cast this) e (Int.natCast_nonneg _) (by exact_mod_cast f) (by
   have k:2 ^ (7* a)<=2 ^ 63:=Nat.pow_le_pow_right (by decide) (by omega)
   have m:d<2 ^ 63:=aG f k
   exact_mod_cast m)]
 simp;omega
theorem DL:∀(j a c d:Nat) (e:List Int),j+c<=8->a<128 ^ (j+1)->d<2 ^ (7* c)->d+a* 2 ^ (7* c)<2 ^ 63->bc (eU j a++e) c (d:Int)=E (((d+a* 2 ^ (7* c):Nat):Int),e):=by
 intro j
 induction j with
 |zero=>
  intro a c d e p k i n;have f:a<128:=by simpa using k
  show bc ((a:Int)::e) c (d:Int)=_;unfold bc;rw[if_pos (by omega),show((a:Int) % 128)=((a:Nat):Int) by omega,uo d a c (by omega) i f (by omega)]
 |succ j q=>
  intro a c d e p k i n;unfold eU;by_cases f:a<128
  ·rw[if_pos f];show bc ((a:Int)::e) c (d:Int)=_;unfold bc;rw[if_pos (by omega),show((a:Int) % 128)=((a:Nat):Int) by omega,uo d a c (by omega) i f (by omega)]
  ·rw[if_neg f];show bc (((a % 128+128:Nat):Int)::(eU j (a / 128)++e)) c (d:Int)=_;unfold bc;have hd:a=128* (a / 128)+a % 128:=by omega
   have o:2 ^ (7* (c+1))=128* 2 ^ (7* c):=by
    rw[show 7* (c+1)=7+7* c by omega,Nat.pow_add]
   have m:d+a % 128* 2 ^ (7* c)+a / 128* 2 ^ (7* (c+1))=d+a* 2 ^ (7* c):=by
    rw[o];generalize 2 ^ (7* c)=r
    conv=>rhs;rw[hd]
    rw[Nat.add_mul,Nat.mul_comm 128 (a / 128),Nat.mul_assoc];omega
   have s:a % 128* 2 ^ (7* c)<=127* 2 ^ (7* c):=mq _ (by omega);rw[if_neg (by omega),show(((a % 128+128:Nat):Int) % 128)=((a % 128:Nat):Int) by omega,uo d (a % 128) c (by omega) i (by omega) (by omega)];rw[q (a / 128) (c+1) _ e (by omega) (by rw[Nat.pow_succ] at k;omega) (by rw[o];omega) (by rw[m];exact n),m]
theorem ir{a:Int} (e:0<=a) (i:a<9223372036854775808) (c:List Int):bc (aN a++c) 0 0=E (a,c):=by
 obtain⟨f,rfl⟩:=oS e;unfold aN
 have:=DL 8 f 0 0 c (by omega) (by
  have d:(128:Nat) ^ (8+1)=9223372036854775808:=by decide
  rw[d]
  omega) (by simp) (by simp;omega)
 simpa using this
end Go.Proofs.YthhibagcpjeihaaGreat
