import Derived.Test.YthhibagcpjeihaaGreatMRop2ToTpd
import Derived.Test.YthhibagcpjeihaaGreatMLaw9ToPlg
import Derived.Deep.CutRange
import Derived.Test.YthhibagcpjeihaaGreatMBook7NToBook8
open Go.Proofs.Tryz
open Go.Value renaming int->y,pointer->b,slice->C,bool->W,agg->l,tuple->h,ownBlock->az
open Go.IntKind renaming i64->K,wrap_i64->jB
open Option renaming none->F,some->E
open Go renaming World->U,Value->V
open Go.Proofs.Tryz renaming prog->T
open Go.Ending renaming returned->g
open Go.Obj renaming cells->v
open Nat renaming lt_of_lt_of_le->aG,zero_add->bg,le_refl->bK,not_lt_zero->dZ,zero_le->fJ
open Go.World renaming size_alloc->bj,ownsRow_nil->cJ,size_setCell->kx
open Go.Act renaming eval->Z,put->aP
open List renaming eq_nil_of_length_eq_zero->fS
namespace Go.Proofs.YthhibagcpjeihaaGreat
open Go.RowKit
open M
set_option linter.unusedVariables false
set_option linter.unusedSimpArgs false
set_option maxRecDepth 100000
set_option maxHeartbeats 8000000
theorem Cg{p:Nat->z->Prop} {B:U->(Nat->Prop)->Prop} (P:me B) (Y:∀o I,p o I->p (o+1) I) {A x e n:U} {who:Nat->Nat} {c u s o k i:Nat} {I:z} {j f:Option Addr} {t w:V} {os:List Nat} (aa:p (o+1) I) (r:dM p B A x who c (C j os.length k) t w os o) (Q:ai e (λa=>u+1<=a/\a<e.heap.size) s I/\G No x e/\u+5<=e.heap.size) (O:dM p B A e who c (C j os.length k) t w os o) (aq:x.heap.size=u)
  (af:n.ownsRow 0 48 1 (C f (os.length+1) i) (os.length+1) (os.map ptrTo++[ptrTo s])) (H:(e.alloc (v #[ptrTo s] 48)).grownBy n (C j os.length k).ownBlock) (hs:dY (e.alloc (v #[ptrTo s] 48)) (C j os.length k) (C f (os.length+1) i)):oH p B A (n.setCell ⟨c,0,F⟩ (C f (os.length+1) i)) c t w o:=by
 obtain⟨R,S,ap⟩:=Q;have ar:=r.has.lt;have J:=λa m=>iX r.row a m;have aj:G (λa=>a=c\/(C j os.length k).ownBlock=E a) e n:=((G.refl _ e).alloc _).grown H (λa m=>.inl (.inr m));have ak:G (λa=>a=c\/(C j os.length k).ownBlock=E a) n (n.setCell ⟨c,0,F⟩ (C f (os.length+1) i)):=(G.refl _ n).setCell (p:=⟨c,0,F⟩) (.inl (.inl rfl)) _;have M:=aj.trans ak
 have ag:G (λa=>a=c\/(C j os.length k).ownBlock=E a) x (n.setCell ⟨c,0,F⟩ (C f (os.length+1) i)):=(S.mono (λ_ _ D=>D.elim)).trans M;have ae:∀a,(u+1<=a/\a<e.heap.size)->¬(a=c\/(C j os.length k).ownBlock=E a):=λa m d=>by
  obtain rfl|d:=d
  ·omega
  ·have:=J a d;omega
 have L:∀a,(C f (os.length+1) i).ownBlock=E a->(C j os.length k).ownBlock=E a\/e.heap.size<=a:=λa m=>by
  obtain d|d:=hs a m
  ·exact .inl d
  ·rw[bj] at d;exact .inr (by omega)
 have ad:=R.mod M ae;have ab:X (n.setCell ⟨c,0,F⟩ (C f (os.length+1) i)) c #[C f (os.length+1) i,t,w] 34:=by
  have N:=X.grown (((G.refl No e).alloc (v #[ptrTo s] 48)).has O.has (λD=>D)) H (λd=>(r.jw c d.symm).2.2 rfl);exact N.set 0 (C f (os.length+1) i)
 have ah:(C f (os.length+1) i).ownBlock≠E c:=λd=>by
  obtain q|q:=L c d
  ·exact(r.jw c q).2.2 rfl
  ·omega
 obtain⟨ao,am,au⟩:=r.add P Y (I:=I) aa ad (λa m=>by omega) ag ab (gT af (a:=⟨c,0,F⟩) ah _) (λa m=>by
  obtain q|q:=L a m
  ·exact⟨λd=>by have:=J a q;omega,.inl q⟩
  ·exact⟨λd=>by omega,.inr (by omega)⟩)
 exact⟨⟨ao,_,_,am⟩⟩
def gS(tb f e:Nat) (a c:Int):z:=
 {B7 tb 0 f e a with kb:=F,okp:=λd=>if d=tb then 30 else 0,K:=⟨tb,0,false,false,⟨λ_=>[],λ_=>0,a,c⟩⟩ }
structure qY (w w5:U) (bb tb wb tob ob:Nat) (S:Array V) (room fu:Int):Prop where
 box:X w5 bb S 45
 one:ai w5 (λk=>bb+1<=k/\k<w5.heap.size) ob (gS tb wb tob room fu)
 ord:w.heap.size=bb/\tb=bb+1/\ob=bb+4/\bb+5<=w5.heap.size
 mod:G No w w5
theorem Ch{s t m:U} {q tb e f i:Nat} {S:Array V} {n o:Int} (j:BZ s t q tb e f i S n) (B:ae m (λa=>a=tb) tb ⟨λ_=>[],λ_=>0,n,o⟩) (k:G (λa=>a=tb) t m):qY s m q tb e f i S n o:=by
 obtain⟨J,L,R,Y,aa,ab⟩:=j.ord;have P:=k.size;have A:X m i (dA (gS tb e f n o)) 55:=k.has j.one (by omega);have H:X m e #[C F 0 0,y K 0] 72:=k.has j.aR (by omega);have D:X m f (pH (λ_=>C F 0 0) (λ_=>false)) 76:=k.has j.told (by omega)
 refine⟨k.has j.box (by omega),⟨A,⟨λN hb=>(by cases hb),λ_=>⟨B.wide (λa c=>if_pos c),λa c=>?_⟩⟩,⟨⟨H,.inl ⟨rfl,rfl⟩,if_pos rfl,λa c=>?_,λr hi=>absurd hi (dZ _),fJ _⟩,⟨List.Pairwise.nil,λad I=>(by cases I),λQ O=>rfl⟩,λ_=>rfl⟩,λM p=>(by cases p),⟨D,λr hi=>cJ _ _ _ _,λr hi a c=>by simp[gS,B7,az] at c,if_pos rfl⟩,?_,λa c=>c.2⟩,⟨J,L,by omega,by omega⟩,j.mod.trans' k (λa c hl=>by have c:a=tb:=c;omega)⟩
 ·have c:(if a=tb then 30 else 0)≠0:=c;by_cases d:a=tb
  ·omega
  ·rw[if_neg d] at c;exact absurd rfl c
 ·have c:(if a=e then 1 else 0)≠0:=c;by_cases d:a=e
  ·omega
  ·exact absurd (if_neg d) c
 ·refine⟨λa=>if a=i then 1 else if a=tb then 2 else if a=e then 3 else if a=f then 4 else 0,if_pos rfl,λa c=>?_,λa c=>?_,λa c=>?_,λa c=>absurd rfl c,λM p=>(by cases p),λa c=>?_⟩
  ·have c:(if a=tb then 30 else 0)≠0:=c;have d:a=tb:=by
    by_cases d:a=tb
    ·exact d
    ·exact absurd (if_neg d) c
   show(if a=i then 1 else if a=tb then 2 else if a=e then 3 else if a=f then 4 else 0)=2;rw[if_neg (by omega),if_pos d]
  ·have c:(if a=e then 1 else 0)≠0:=c;have d:a=e:=by
    by_cases d:a=e
    ·exact d
    ·exact absurd (if_neg d) c
   show(if a=i then 1 else if a=tb then 2 else if a=e then 3 else if a=f then 4 else 0)=3;rw[if_neg (by omega),if_neg (by omega),if_pos d]
  ·have c:(if a=f then 1 else 0)≠0:=c;have d:a=f:=by
    by_cases d:a=f
    ·exact d
    ·exact absurd (if_neg d) c
   show(if a=i then 1 else if a=tb then 2 else if a=e then 3 else if a=f then 4 else 0)=4;rw[if_neg (by omega),if_neg (by omega),if_neg (by omega),if_pos d]
  ·have c:(if a=i then 1 else if a=tb then 2 else if a=e then 3 else if a=f then 4 else 0)≠0:=c;by_cases u:a=i
   ·omega
   by_cases w:a=tb
   ·omega
   by_cases x:a=e
   ·omega
   by_cases z:a=f
   ·omega
   ·rw[if_neg u,if_neg w,if_neg x,if_neg z] at c;exact absurd rfl c
theorem Ci:dL eO 21=200:=by decide
theorem Mn{a tb k j:Nat} {c d:Int} (i:¬c<200) (f:a<=1048577):kS a (gS tb k j c d):=
 ⟨⟨rfl,rfl⟩,bh.zero.more (by omega) (by omega),λM e=>(by cases e),by show dL eO 21<=200/\(200:Int)<=1000000;rw[Ci];omega,by show(0:Int)<=0/\(0:Int)<=a;omega,i,f,by show 0<2;omega⟩
theorem Cj(c a:Int):dv ⟨λ_=>[],λ_=>0,c,a⟩ 0 eO F 200 200:=(cP.zero c a (by omega)).close (by omega) F
theorem Mo{n tb wb tob:Nat} {a fu:Int} (d:¬a<200) (c:n<=1048577):bZ n (gS tb wb tob a fu):=
 ⟨Mn d c,λhl=>(by cases hl),λ_=>⟨by show dv _ 0 eO F (200+60* 0) 200;exact Cj a fu,.inl rfl⟩⟩
theorem Mp{aq k i:U} {z tb X R d f m t:Nat} {o:Bool} {S:Array V} {n D w:Int} {p:Y} {j:u} (q:qY aq k z tb X R d S n D) (ad:qN k i (λa=>if a=tb then 30 else 0) f tb m o j w p) (H:cP j m o w p 200) (ae:j.room=n) (aj:w=0/\p=eO) (ag:¬n<200) (r:t<=1048577):∃I,ai (i.setCell ⟨d,1,F⟩ (b (E ⟨f,0,F⟩))) (λa=>z+1<=a/\a<i.heap.size) d I/\bZ t I/\(I.tl=λ_=>F)/\(I.ns=λ_=>[])/\(I.bs=λ_=>false)/\G (λa=>a=d\/a=tb) k (i.setCell ⟨d,1,F⟩ (b (E ⟨f,0,F⟩))):=by
 obtain⟨rfl,rfl⟩:=aj;obtain⟨av,aw,ax,ay⟩:=q.ord;obtain⟨⟨x,pt,N,P,am⟩,au,s⟩:=ad;have ap:∀a,(if a=tb then 30 else 0)=30->a=tb:=λa c=>by
  by_cases A:a=tb
  ·exact A
  ·rw[if_neg A] at c;cases c
 have ar:=s.size;have ao:G (λa=>a=d\/a=tb) k i:=s.mono (λa _ e=>.inr (ap a e));have Q:G (λa=>a=d\/a=tb) k (i.setCell ⟨d,1,F⟩ (b (E ⟨f,0,F⟩))):=ao.trans (((G.refl (λa=>a=d) i).at 1 _).mono (λ_ _ e=>.inl e));have J:(if d=tb then 30 else 0)=0:=if_neg (by omega);have how:x d=0:=by rw[P d (by omega),J];rfl
 have af:=(s.has q.one.has (by rw[J];omega)).set 1 (b (E ⟨f,0,F⟩));have O:=N.mod (S:=λa=>a=d) ((G.refl _ i).at 1 (b (E ⟨f,0,F⟩))) (λa c (e:a=d)=>by rw[e] at c;exact c how)
 have ak:=q.one.BM (I':={ gS tb X R n D with kb:=E f,okp:=x,om:=λ_=>0,now:=0,fl:=eO,K:=⟨tb,m,o,true,j⟩,tl:=λ_=>F }) Q (λa c e=>?_) af (.inr ⟨⟨λaa hb=>?_,λr=>by cases r⟩,λa c=>?_,λ_=>rfl⟩) (.inl ⟨rfl,.inl rfl⟩) (.inl ⟨rfl,rfl,rfl,rfl,rfl⟩)
 rotate_left
 ·obtain e|e:=e
  ·exact .inl e
  ·refine .inr ?_;show(if a=tb then 30 else 0)≠0;rw[if_pos e];omega
 ·have hb:E f=E aa:=hb;injection hb with hb;subst hb;refine⟨⟨pt,O⟩,⟨λL hi _=>?_,λL hi es ah=>(by cases ah),λa c=>absurd rfl c⟩⟩;rw[O.keep.has.cell,rR _ _ L hi,am _ (by omega) (by omega)]
 ·have hl:=N.keep.aU a c;by_cases e:a<k.heap.size
  ·have c:x a≠0:=c;rw[P a e] at c;by_cases B:a=tb
   ·left;show(if a=tb then 30 else 0)≠0;rw[if_pos B];omega
   ·exact absurd (by rw[if_neg B];rfl) c
  ·exact .inr ⟨by omega,by simp;omega⟩
 refine⟨_,ak.iI (λa c=>?_) (λa c=>by simpa using c.2),⟨⟨⟨rfl,rfl⟩,bh.zero.more (by omega) (by omega),λM ab=>(by cases ab),by show dL eO 21<=200/\(200:Int)<=1000000;rw[Ci];omega,by show(0:Int)<=0/\(0:Int)<=t;omega,by show ¬j.room<200;rw[ae];exact ag,r,H.hf⟩,λ_=>⟨⟨f,rfl⟩,rfl,rfl,by show cP j m o 0 eO (200+60* 0);exact H⟩,λhl=>(by cases hl)⟩,rfl,rfl,rfl,Q⟩;obtain c|c:=c
 ·exact⟨c.1,by omega⟩
 ·simp only[kx] at c;exact⟨by omega,c.2⟩
def Ck(I:z):Prop:=((I.tl=λ_=>F)/\(I.ns=λ_=>[])/\I.bs=λ_=>false)\/I.kb=F
theorem Mq{aF:Nat->z->Prop} {B:U->(Nat->Prop)->Prop} (aT:me B) (bw:∀t I,aF t I->aF (t+1) I) {bP m:U} {who:Nat->Nat} {O:Nat} {lv bl bq:V} {os:List Nat} {t:Nat} (b6:dM aF B bP m who O lv bl bq os t) (ce:t+1<=1048577) {S:Array V} {j H sp:Int} {w:List Int} {aH:Option Addr} {aI:Nat}
  (hS:lZ S 1 j H) (hc: -9223372036854775808<=H/\H<=9223372036854775807) (cM:S[23]? =E (C aH w.length aI)) (cN:S[24]? =E (.int .u8 sp)) (cT:w.length<=9223372036854775807) (cd:Reads m (C aH w.length aI) w.length (w.map (y K))) (cc:0<w.length->∀a,(C aH w.length aI).ownBlock=E a->a<m.heap.size)
  (b7:∀I,bZ (t+1) I->Ck I->aF (t+1) I):Calls T 12 #[b (E ⟨O,0,F⟩),l S] m λe w'=>e=g (W true)/\oH aF B bP w' O bl bq t:=by
 have aM:=X.new m S 45;have a2:=(aM.cell 2).trans hS.eS;have bo:=(aM.cell 3).trans hS.c3;have ab:=aM.lt;have Y:=i b6;have b3:=i b7;have cv:=i aM
 have cz:=i (λP (a3:G No m P)=>(show Reads P (C aH w.length aI) w.length (w.map (y K)) from by
  obtain d|⟨cE,H,e,d⟩:=cd
  ·exact .inl d
  ·exact .inr ⟨cE,H,e,λcY ax hu=>fF a3 (d cY ax hu)⟩))
 have cy:=i cc;have cC:=i ((G.refl No m).alloc (v S 45));clear b6 aM b7 cd cc;go_enter func12,ntmps12;go_wp2_with fail;refine(CK _ _).mono ?_;rintro e de ⟨rfl,rfl⟩;go_upto_region 2 with fail;have M:=i (LU m S j);clear a2 bo ab cv cC
 generalize (((((m.alloc (v S 45)).alloc (v (⟨⟨C F 0 0,[],0⟩,⟨C F 0 0,[],0⟩,⟨C F 0 0,[],0⟩,⟨C F 0 0,[],0⟩,j, -1⟩:D).cells 108)).alloc (v #[C F 0 0,y K 0] 72)).alloc (v #[C F 0 0,C F 0 0,C F 0 0,C F 0 0,C F 0 0,C F 0 0,C F 0 0,C F 0 0,W false,W false,W false,W false,W false,W false,W false,W false] 76)).alloc (v #[b (E ⟨m.heap.size+1,0,F⟩),b F,b (E ⟨m.heap.size+1+1,0,F⟩),b F,b (E ⟨m.heap.size+1+1+1,0,F⟩),y K 200,y K 0,W false,y K 0,y K 0,y K 0] 55))=ag at *
 generalize m.heap.size+1+1+1+1=c at *;generalize m.heap.size+1+1+1=x at *;generalize m.heap.size+1+1=A at *;generalize m.heap.size+1=tb at *;generalize m.heap.size=f at *;have aO:=i (k M).ord.1;have bo:ag.cell? ⟨f,3,F⟩=E (y K H):=((k M).box.cell 3).trans hS.c3;have ab:=(k M).box.lt;have ae:ag.cell? ⟨c,0,F⟩=E (b (E ⟨tb,0,F⟩)):=(k M).one.cell 0;have af:=(k M).one.lt;go_upto_if 22 with fail
 go_cut [] from 20 to 30 (λaj=>Hid (∃s,qY m aj f tb A x c S j s))
 case first=>
  by_cases b9:H>0
  ·have cQ:decide (H>0)=true:=by simpa using b9
   have cX:K.wrap (H - 1)=H - 1:=by rw[jB];omega
   have cx:=i (vq ((k M).tape.aD ((G.refl No ag).drew)) (H - 1) (by omega));go_upto_region 3 with fail;go_region_law (refine eZ rfl 19 _ _ rfl #[b (E ⟨tb,0,F⟩),y K (H - 1)] (by simp[Z,aP,cX]) (λP=>by kernel_rfl) (h #[]) _ (k cx) ?_;intro n bz;have ba:=i (show ∃s,qY m n f tb A x c S j s from⟨H - 1,Ch (k M) bz.1 ((G.refl (λa=>a=tb) ag).drew.trans bz.2)⟩);clear bz)
   all_goals go_wp2
   all_goals go_meet
   all_goals exact ba
  ·have cQ:decide (H>0)=false:=by simpa using b9
   have ba:=i (show ∃s,qY m ag f tb A x c S j s from⟨-1,Ch (k M) (k M).tape (G.refl _ _)⟩);go_wp2;go_meet;exact ba
 case rest=>
  obtain⟨s,q⟩:=k hcut
  apply_assumption
  have q:=i q;clear M bo ab ae af hcut;have a2:wc.cell? ⟨f,2,F⟩=E (y K j):=((k q).box.cell 2).trans hS.eS;have ab:=(k q).box.lt;have ae:wc.cell? ⟨c,0,F⟩=E (b (E ⟨tb,0,F⟩)):=(k q).one.has.cell 0;have af:=(k q).one.has.lt;by_cases a5:j<200
  ·obtain⟨c0,cq,cr⟩:=(k q).one.ij.room;have b2:=i (Hy tb j c0 wc cq cr a5);clear cq cr;have cW:decide (j<200)=true:=by simpa using a5
   go_wp2_with fail;refine(k b2).mono ?_;rintro e n ⟨rfl,rfl⟩;have aN:=i (show oH aF B bP n O bl bq t from⟨⟨who,lv,os,((k Y).still aT (k q).mod).more bw⟩⟩);clear b2 q Y;go_wp2;go_ret;exact⟨rfl,k aN⟩
  have cW:decide (j<200)=false:=by simpa using a5
  obtain⟨bD,bE,bG,a9⟩:=(k q).ord;have bO:∀a,(if a=tb then 30 else 0)=30->a=tb:=λa d=>by
   by_cases u:a=tb
   ·exact u
   ·rw[if_neg u] at d;cases d
  obtain⟨cZ,cL,a6,cf⟩:=vY (N:=((t+1:Nat):Int)) (k q).one.ij (λa d=>by have:=bO a d;omega) (Cj j s) (bh.zero.more (by omega) (by omega)) (λ_ _ e=>(by cases e)) a5 (by omega) (by omega) (by omega);have a6:cZ=0/\cL=eO:=by
   obtain e|e:=a6
   ·exact e
   ·cases e
  have b1:=i cf;have cB:=i a6;have a1:=i bO;have aD:=i (show f≠c/\tb≠c/\f≠tb from⟨by omega,by omega,by omega⟩);have a0:=i λP=>vg 200 0 j (by omega) (by omega) P;clear cf a6 bO bD bE bG a9;go_wp2_with fail;refine(k b1).mono ?_;clear b1;rintro e n (⟨aZ,c',dd,aa,rfl,bv,aU,aV⟩|⟨rfl,cS,aa,b8,ca,aU,aV,a4⟩)
  ·obtain⟨I,ak,co,ci,cj,ck,N⟩:=Mp (k q) bv aU aV (k cB) (by omega) ce;have bc:=i ((k b3) I co (.inl ⟨ci,cj,ck⟩));have a7:=bv.mod;have aL:∀a,a≠tb->¬(if a=tb then 30 else 0)=30:=λa d e=>d ((k a1) a e);have ad:=a7.has (k q).box (aL _ (k aD).2.2);have bn:n.cell? ⟨f,2,F⟩=E (y K j):=(ad.cell 2).trans hS.eS;have bp:=ad.lt;have aS:=a7.has (k q).one.has (aL _ (λe=>(k aD).2.1 e.symm))
   have bs:n.cell? ⟨c,1,F⟩=E (b F):=aS.cell 1;have bt:n.cell? ⟨c,5,F⟩=E (y K 200):=aS.cell 5;have f16:=aS.frozen;have bB:=aS.lt;have cP:=(k aD).1
   have aE:=i (show ai (n.setCell ⟨c,1,F⟩ (b (E ⟨aZ,0,F⟩))) (λa=>f+1<=a/\a<(n.setCell ⟨c,1,F⟩ (b (E ⟨aZ,0,F⟩))).heap.size) c I/\G No m (n.setCell ⟨c,1,F⟩ (b (E ⟨aZ,0,F⟩)))/\f+5<=(n.setCell ⟨c,1,F⟩ (b (E ⟨aZ,0,F⟩))).heap.size from by
    obtain⟨bD,bE,bG,a9⟩:=(k q).ord
    have aB:=a7.size
    simp only[kx]
    exact⟨ak,(k q).mod.trans' N (λa d hl=>by obtain e|e:=d<;>omega),by omega⟩)
   clear ak co ci cj ck N a7 bv aU aV aL ad aS a2 ab ae af q;go_upto_region 8 with fail;go_cut [8] from 48 to 58 (λbN aj=>(∃bm,bN=W bm)/\Hid (∃t,aj=(n.setCell ⟨c,1,F⟩ (b (E ⟨aZ,0,F⟩))).drewN t))
   case first=>
    go_quiet ((go_at_call 21;exact Calls.quiet_of_same ((k a0) _)));go_wp2;go_meet;exact⟨⟨_,rfl⟩,_,rfl⟩
   case rest=>
    obtain⟨⟨cH,rfl⟩,aY⟩:=hcut
    apply_assumption
    have p:=i (show ai wc (λa=>f+1<=a/\a<wc.heap.size) c I/\G No m wc/\f+5<=wc.heap.size from by
     obtain⟨aK,rfl⟩:=k aY
     obtain⟨bR,bS,bT⟩:=k aE
     exact⟨bR.mod ((G.refl No _).drewN aK) (λ_ _ aB=>aB),bS.drewN aK,bT⟩)
    clear aE aY bn bp bs bt f16 bB a0;have r:=((k Y).still aT (k p).2.1);have aR:=i r;obtain⟨aq,ar,rfl⟩:=aC r.row;have c5:wc.cell? ⟨O,0,F⟩=E (C aq os.length ar):=r.has.cell 0;have c9:=r.has.lt;have c7:=r.has.frozen;have aw:G No wc (wc.alloc (v #[ptrTo c] 48)):=(G.refl _ _).alloc _;have am:=i (aw.owns r.row (λ_ _ ay=>ay));have ao:=i (B9 wc 48 c);have ap:=i (aw.has r.has (λay=>ay));have cR:=r.nz
    have bb:=i (show E O≠(C aq os.length ar).ownBlock from λe=>(r.jw O e.symm).2.2 rfl);have aW:∀ax∈[ptrTo c],ax.oneCell'=true:=λax hu=>by simp at hu;subst hu;rfl
    have aQ:=i aW;obtain⟨bA,bH,bJ,bL,bM⟩:=info_parts B8;clear r aw aW;unfold ptrTo at am ao ap aQ
    go_wp2_with (at_builtin;refine eI rfl (.tmp 70) (.tmp 72) 28 rfl 48 bA _ 1 8 underlying28 bH bJ bL bM rfl (by decide) (C aq os.length ar) os.length (os.map ptrTo) (by simp[Z]) (by exact k am) (C (E ⟨wc.heap.size,0,F⟩) 1 1) 1 [b (E ⟨c,0,F⟩)] (by simp[Z]) (by exact k ao) rfl (k aQ) (by unfold maxLen;omega) (by omega) ?_;intro c1 c2 av au aX;obtain⟨cD,cI,rfl⟩:=aC av;have Q:=X.grown (k ap) au (k bb);have c3:=Q.cell 0;have c8:=Q.lt;have c6:=Q.frozen)
    have aN:=i (Cg aT bw (k bc) (k Y) (k p) (k aR) (k aO) av au aX);clear av au aX Q am ao ap aR p Y;go_wp2;go_ret;exact⟨rfl,k aN⟩
  ·obtain⟨L,cg⟩:∃L,L=wc.heap.size:=⟨_,rfl⟩;have cm:G (λa=>(gS tb A x j s).okp a=30) wc n:=a4;have aA:=(k q).one.pJ b8 cm;have aL:∀a,a≠tb->¬(if a=tb then 30 else 0)=30:=λa d e=>d ((k a1) a e);have ad:=a4.has (k q).box (aL _ (k aD).2.2);have bn:n.cell? ⟨f,2,F⟩=E (y K j):=(ad.cell 2).trans hS.eS;have bp:=ad.lt;have bs:n.cell? ⟨c,1,F⟩=E (b F):=aA.has.cell 1
   have bt:n.cell? ⟨c,5,F⟩=E (y K 200):=aA.has.cell 5;have f16:=aA.has.frozen;have bB:=aA.has.lt;have cP:=(k aD).1;have N:G (λa=>a=c) n (n.setCell ⟨c,1,F⟩ (b F)):=(G.refl _ _).at 1 _;have ak:=aA.oI (I':={ gS tb A x j s with K:={ (gS tb A x j s).K with T:=aa } }) N (λa _ e=>e) (aA.has.set 1 (b F)) ⟨rfl,rfl,rfl,rfl,rfl,rfl,rfl⟩ ⟨rfl,rfl,rfl,rfl,rfl⟩ ⟨rfl,rfl⟩
   have bi:=i (show bZ (t+1) { gS tb A x j s with K:={ (gS tb A x j s).K with T:=aa } } from by
    have u:=(Mo (n:=t+1) (tb:=tb) (wb:=A) (tob:=x) (fu:=s) (show ¬j<200 by omega) ce).b
    exact⟨⟨u.same,u.ok,u.may,u.most,u.ch,by show ¬aa.room<200;rw[aV];show ¬j<200;omega,u.dU,u.file⟩,λhl=>(by cases hl),λ_=>⟨by show dv aa 0 eO F (200+60* 0) 200;exact aU,.inl rfl⟩⟩)
   have aE:=i (show ai (n.setCell ⟨c,1,F⟩ (b F)) (λa=>f+1<=a/\a<L) c { gS tb A x j s with K:={ (gS tb A x j s).K with T:=aa } }/\G No m (n.setCell ⟨c,1,F⟩ (b F))/\f+5<=L/\X (n.setCell ⟨c,1,F⟩ (b F)) f S 45 from by
    obtain⟨bD,bE,bG,a9⟩:=(k q).ord
    rw[cg]
    refine⟨ak,((k q).mod.trans' a4 (λa d hl=>by have:=(k a1) a d;omega)).trans' N (λa (d:a=c) hl=>by omega),a9,N.has ad (by omega)⟩)
   have cw:=i ca;have cA:=i (show ∀a,(gS tb A x j s).okp a=30->a=tb from λa d=>(k a1) a d);obtain⟨o,bu⟩:∃o,o={ gS tb A x j s with K:={ (gS tb A x j s).K with T:=aa } }:=⟨_,rfl⟩;have bV:=i (show o.K.tb=tb/\o.K.T=aa/\o.okp=(gS tb A x j s).okp from by rw[bu];exact⟨rfl,rfl,rfl⟩);rw[<-bu] at aE bi;clear aA ak cm N b8 aU aV a4 cS ca bu aL ad a2 ab ae af;go_upto_region 8 with fail
   go_cut [8] from 48 to 58 (λbN aj=>(∃bm,bN=W bm)/\Hid (∃t,aj=(n.setCell ⟨c,1,F⟩ (b F)).drewN t))
   case first=>
    go_quiet ((go_at_call 21;exact Calls.quiet_of_same ((k a0) _)));go_wp2;go_meet;exact⟨⟨_,rfl⟩,_,rfl⟩
   case rest=>
    obtain⟨⟨cH,rfl⟩,aY⟩:=hcut
    apply_assumption
    have p:=i (show ai wc (λa=>f+1<=a/\a<L) c o/\G No m wc/\f+5<=L/\X wc f S 45 from by
     obtain⟨aK,rfl⟩:=k aY
     obtain⟨bR,bS,bT,c4⟩:=k aE
     exact⟨bR.mod ((G.refl No _).drewN aK) (λ_ _ aB=>aB),bS.drewN aK,bT,c4.drewN aK⟩)
    clear aE aY bn bp bs bt f16 bB a0 cg;have ae:wc.cell? ⟨c,0,F⟩=E (b (E ⟨o.K.tb,0,F⟩)):=(k p).1.has.cell 0;have af:=(k p).1.has.lt;have bd:=i (show ∀a,o.okp a=30->a=tb from λa d=>(k cA) a (by rw[<-(k bV).2.2];exact d));have bU:=i (tB (k p).1.has rfl (k p).1.ij (by rw[(k bV).2.1];exact k cw));go_wp2_with fail;refine(k bU).mono ?_;rintro e ah ⟨rfl,t7,N⟩;have cb:o.okp o.K.tb=30:=(k p).1.ij.cd
    have a8:G (λa=>o.okp a=30) wc ah:=N.mono (λa _ (e:a=o.K.tb)=>by rw[e];exact cb);have ak:ai ah (λa=>f+1<=a/\a<L) c o:=(k p).1.pJ t7 a8
    have J:=i (show ai ah (λa=>f+1<=a/\a<L) c o/\G No m ah/\f+5<=L/\X ah f S 45 from⟨ak,(k p).2.1.trans' a8 (λa d hl=>by have:=(k bd) a d;have:=(k p).1.lt tb (by have:=(k p).1.kT a (by have d:o.okp a=30:=d;omega);rwa [(k bd) a d] at this);have u:=(k p).1.kT a (by have d:o.okp a=30:=d;omega);have:=k aO;omega),(k p).2.2.1,a8.has (k p).2.2.2 (λe=>(k aD).2.2 ((k bd) f e))⟩)
    clear t7 N a8 ak p bU ae af cb;have ae:ah.cell? ⟨c,0,F⟩=E (b (E ⟨o.K.tb,0,F⟩)):=(k J).1.has.cell 0;have af:=(k J).1.has.lt;have cF:=((k J).2.2.2.cell 23).trans cM;have cG:=((k J).2.2.2.cell 24).trans cN;have ab:=(k J).2.2.2.lt;have bW:=i λP (a3:G No ah P)=>((k J).1.mod a3 (λ_ _ aB=>aB)).kR w aI aH sp cT ((k cz) P ((k J).2.1.trans a3)) (λcO a d e=>by have:=(k cy) cO a d;omega)
    have bY:=i λch (hi:ch<4)=>((k J).1.ij.last ch hi).1;go_upto_region 17 with fail;go_cut [] from 59 to 102 (λaj=>Hid (ai aj (λa=>f+1<=a/\a<L) c (kV o w sp)/\G No m aj))
    case first=>
     go_region_law (refine eZ rfl 23 _ _ rfl #[b (E ⟨o.K.tb,0,F⟩),C aH w.length aI,.int .u8 sp] (by simp[Z,aP]) (λP=>by kernel_rfl) (h #[]) _ ((k bW) _ (G.refl No ah).drew) ?_;intro ag bx;have cu:=i (show ai ag (λa=>f+1<=a/\a<L) c (kV o w sp)/\G No m ag from⟨bx.1,(k J).2.1.drew.trans' bx.2 (λa d hl=>by have u:=(k J).1.kT a (by have d:o.okp a=30:=d;omega);have:=k aO;omega)⟩);clear bx)
     all_goals go_wp2
     all_goals go_meet
     all_goals exact cu
    case rest=>
     obtain⟨bQ,cn⟩:=k hcut
     apply_assumption
     have b4:=i (qX bQ ((k bi).qR.kR (k bY) w sp) false (.inr (by show(-1:Int)<0;decide)));have bk:=i bQ;have bf:=i cn;clear bQ cn hcut ae af cF cG ab bW bY;go_wp2_with fail;refine(k b4).mono ?_;rintro e R ⟨rfl,cV⟩;obtain⟨⟨b5,ct,cp,f9⟩,bC⟩:=cV;have bc:=i ((k b3) b5 cp (f9.imp (λu=>u.2) (λu=>u.1)))
     have p:=i (show ai R (λa=>f+1<=a/\a<R.heap.size) c b5/\G No m R/\f+5<=R.heap.size from by
      have aB:=bC.size
      have cl:=(k bk).lt
      have hb:=k aO
      have da:=cl c (k bk).qS
      have df:=(k bf).size
      have db:=(k J).2.2.1
      have dc:=cl (L - 1) ⟨by omega,by omega⟩
      refine⟨ct.iI (λa d=>?_) (λa d=>d.2),(k bf).trans' bC (λa d hl=>by omega),by omega⟩
      obtain d|d:=d
      ·exact⟨d.1,by omega⟩
      ·exact⟨by omega,d.2⟩)
     clear ct cp f9 bC b4 bk bf J bi;have r:=((k Y).still aT (k p).2.1);have aR:=i r;obtain⟨aq,ar,rfl⟩:=aC r.row;have c5:R.cell? ⟨O,0,F⟩=E (C aq os.length ar):=r.has.cell 0;have c9:=r.has.lt;have c7:=r.has.frozen;have aw:G No R (R.alloc (v #[ptrTo c] 48)):=(G.refl _ _).alloc _;have am:=i (aw.owns r.row (λ_ _ ay=>ay));have ao:=i (B9 R 48 c);have ap:=i (aw.has r.has (λay=>ay));have cR:=r.nz
     have bb:=i (show E O≠(C aq os.length ar).ownBlock from λe=>(r.jw O e.symm).2.2 rfl);have aW:∀ax∈[ptrTo c],ax.oneCell'=true:=λax hu=>by simp at hu;subst hu;rfl
     have aQ:=i aW;obtain⟨bA,bH,bJ,bL,bM⟩:=info_parts B8;clear r aw aW;unfold ptrTo at am ao ap aQ
     go_wp2_with (at_builtin;refine eI rfl (.tmp 109) (.tmp 111) 28 rfl 48 bA _ 1 8 underlying28 bH bJ bL bM rfl (by decide) (C aq os.length ar) os.length (os.map ptrTo) (by simp[Z]) (by exact k am) (C (E ⟨R.heap.size,0,F⟩) 1 1) 1 [b (E ⟨c,0,F⟩)] (by simp[Z]) (by exact k ao) rfl (k aQ) (by unfold maxLen;omega) (by omega) ?_;intro c1 c2 av au aX;obtain⟨cD,cI,rfl⟩:=aC av;have Q:=X.grown (k ap) au (k bb);have c3:=Q.cell 0;have c8:=Q.lt;have c6:=Q.frozen)
     have aN:=i (Cg aT bw (k bc) (k Y) (k p) (k aR) (k aO) av au aX);clear av au aX Q am ao ap aR p Y;go_wp2;go_ret;exact⟨rfl,k aN⟩
set_option maxHeartbeats 4000000
theorem Mr{e:Nat->z->Prop} {B:U->(Nat->Prop)->Prop} (x:me B) (Q:∀a I,e a I->e (a+1) I) {H c:U} {who:Nat->Nat} {s:Nat} {lv u w:V} {os:List Nat} {a:Nat} (o:dM e B H c who s lv u w os a) (ad:a+1<=1048577) {S:Array V} {af f sp:Int} {d:List Int} {q:Option Addr} {r:Nat}
  (hS:lZ S 1 af f) (hc: -9223372036854775808<=f/\f<=9223372036854775807) (N:S[23]? =E (C q d.length r)) (O:S[24]? =E (.int .u8 sp)) (aa:d.length<=9223372036854775807) (ab:Reads c (C q d.length r) d.length (d.map (y K))) (Y:0<d.length->∀p,(C q d.length r).ownBlock=E p->p<c.heap.size)
  (R:∀I,bZ (a+1) I->Ck I->e (a+1) I):Calls T 10 #[b (E ⟨s,0,F⟩),l S] c λn w'=>n=g (W true)/\oH e B H w' s u w a:=by
 have m:=X.new c S 45;have b0:=(m.cell 0).trans hS.eJ;have ah:=m.lt;have J:=i m;have ae:=hS.size
 have t:=i (Mq x Q (o.still x ((G.refl No c).alloc (v S 45))) ad hS hc N O aa (by
  obtain j|⟨M,f,n,j⟩:=ab
  ·exact .inl j
  ·exact .inr ⟨M,f,n,λD ag hu=>fF ((G.refl No c).alloc _) (j D ag hu)⟩) (λP p j=>by have:=Y P p j;simp;omega) R)
 clear o m;go_enter func10,ntmps10;go_wp2_with (refine(oT rfl 45 _ rfl c.heap.size 0 rfl S 45 (k J) S (λD ai o=>by rw[bg];simpa using o) wh (by rw[ae];exact tK) ?_));refine(k t).mono ?_;rintro n aj ⟨rfl,A⟩;have L:=i A;clear A t;go_wp2;go_ret;exact⟨rfl,k L⟩
theorem Ms{ax:Nat->z->Prop} {B:U->(Nat->Prop)->Prop} (aF:me B) {aT d:U} {who:Nat->Nat} {Y:Nat} {lv ay aC:V} {os:List Nat} {au:Nat} (x:dM ax B aT d who Y lv ay aC os au) (a3:au<=1099511627776) (aL:0<os.length) {S:Array V} {c aA aD a:Int} (hS:lZ S c aA aD) (aq:S[1]? =E (y K a)) (aN: -9223372036854775808<=a/\a<=9223372036854775807)
  (a2:2<=c/\c<=13) (H:Array V) (aH:H.size=16) (ao:∀aw R,H.toList[aw]? =E R->S[4+aw]? =E R) (j:Nat) (aI:j<os.length) (aK:iM a (os.length:Int)=(j:Int)) {I:z} (ap:ai d (λc=>who c=j+1) os[j] I) {Q:U->Prop} (n:10<=c->∀n',Calls T 14 #[ptrTo os[j],l S] ((d.alloc (v S 45)).drewN n') λe w'=>e=g (W true)/\Q w')
  (r:c<=9->(I.kb=F\/(c≠2/\c≠9/\I.sh=true))->∀n',Q ((d.alloc (v S 45)).drewN n')) (o:c=2->∀m,I.kb=E m->∀n',Calls T 15 #[ptrTo os[j],l H] ((d.alloc (v S 45)).drewN n') λe w'=>e=g (W true)/\Q w') (q:c=9->∀m,I.kb=E m->∀n',Calls T 16 #[ptrTo os[j]] ((d.alloc (v S 45)).drewN n') λe w'=>e=g (W true)/\Q w')
  (p:c<=8->c≠2->∀m,I.kb=E m->I.sh=false->∀n',Calls T 17 #[ptrTo Y,ptrTo os[j],l S] ((d.alloc (v S 45)).drewN n') λe w'=>e=g (W true)/\Q w'):Calls T 10 #[b (E ⟨Y,0,F⟩),l S] d λe w'=>e=g (W true)/\Q w':=by
 have w:=X.new d S 45;have b0:=(w.cell 0).trans hS.eJ;have aB:=(w.cell 1).trans aq;have ak:=w.lt;have L:=i λn'=>w.drewN n';have J:=x.still aF ((G.refl No d).alloc (v S 45));obtain⟨aR,cap,rfl,bc,ar⟩:=J.at aL;have aW:(d.alloc (v S 45)).cell? ⟨Y,0,F⟩=E (C (E ⟨aR,0,F⟩) os.length cap):=J.has.cell 0;have aX:=J.has.lt;have am:=ar j aI;have a1:=J.nz
 have O:=ap.mod ((G.refl No d).alloc (v S 45)) (λ_ _ aV=>aV)
 have ag:=i λn'=>(show((d.alloc (v S 45)).drewN n').cell? ⟨os[j],1,F⟩=E (fj I.kb)/\((d.alloc (v S 45)).drewN n').cell? ⟨os[j],7,F⟩=E (W I.sh)/\os[j]<((d.alloc (v S 45)).drewN n').heap.size from
  ⟨(O.has.drewN n').cell 1,(O.has.drewN n').cell 7,(O.has.drewN n').lt⟩)
 have aa:=i λn'=>AW a (os.length:Int) aN (by omega) ((d.alloc (v S 45)).drewN n');rw[aK] at aa;have aO:=hS.size;have ah:=i aO;have ab:=i λn'=>(show((d.alloc (v S 45)).drewN n').rangeAt d.heap.size 4 H.toList from(w.drewN n').range 4 _ ao);have a6:(c==1)=false:=by simp;omega
 have a8:decide (c<2)=false:=by simp;omega
 have ba:decide (c>13)=false:=by simp;omega
 have a4:(0:Int)<=j:=by omega
 have a5:(j:Int)<(os.length:Int):=by omega
 have a9:¬c<2:=by omega
 have bb:¬c>13:=by omega
 have n:=i n;have r:=i r;have o:=i o;have q:=i q;have p:=i p;generalize aM:os[j]=aS at *;clear x J hS aq w ar ap O aM ao;generalize a0:os.length=aj at *;have bd:((aj:Int)==0)=false:=by rw[beq_eq_false_iff_ne];omega
 have bf:¬aj=0:=by omega
 unfold ptrTo at am n o q p;go_enter func10,ntmps10;go_upto_region 5 with fail;go_cut [5] (λae aU=>ae=b (E ⟨aS,0,F⟩)/\∃n',aU=(d.alloc (v S 45)).drewN n')
 case first=>
  go_quiet ((go_at_call 13;exact Calls.quiet_of_same ((k aa) _)));go_wp2;go_meet;exact⟨rfl,_,rfl⟩
 case rest=>
  obtain⟨rfl,n',rfl⟩:=hcut
  apply_assumption
  have b0:((d.alloc (v S 45)).drewN n').cell? ⟨d.heap.size,0,F⟩=E (y K c):=b0;have ak:d.heap.size<((d.alloc (v S 45)).drewN n').heap.size:=ak;obtain⟨D,av,bh⟩:=(k ag) n';have L:=i ((k L) n');have ab:=i ((k ab) n');have n:=i λe=>(k n) e n';have r:=i λe u=>(k r) e u n';have o:=i λe m u=>(k o) e m u n';have q:=i λe m u=>(k q) e m u n';have p:=i λe aE m u ae=>(k p) e aE m u ae n'
  clear aW aX am aB aa ag;generalize (d.alloc (v S 45)).drewN n'=bi at *;by_cases M:10<=c
  ·have aQ:decide (c>=10)=true:=by simpa using M
   have f:=i ((k n) M);clear n r o q p;go_wp2_with (refine(oT rfl 45 _ rfl d.heap.size 0 rfl S 45 (k L) S (λj R x=>by rw[bg];simpa using x) wh (by rw[k ah];exact tK) ?_));refine(k f).mono ?_;rintro e af ⟨rfl,s⟩;have t:=i s;clear s f;go_wp2;go_ret;exact⟨rfl,k t⟩
  have aQ:decide (c>=10)=false:=by simpa using M
  have a7:¬c>=10:=M
  cases A:I.kb with
  |none=>
   rw[A] at D;unfold fj at D;simp only[Option.map_none] at D;have f:=i ((k r) (by omega) (.inl A));clear n r o q p;go_wp2;go_ret;exact⟨rfl,k f⟩
  |some m=>
   rw[A] at D;unfold fj at D;simp only[Option.map_some] at D;by_cases N:c=2
   ·subst N;have f:=i ((k o) rfl m A);clear n r o q p;go_wp2_with (refine wpList_load_mid rfl 41 _ rfl d.heap.size 4 rfl H.toList _ (k ab) underlying41 rfl (by rw[Array.length_toList,aH];exact LV) ?_);refine(k f).mono ?_;rintro e af ⟨rfl,s⟩;have t:=i s;clear s f;go_wp2;go_ret;exact⟨rfl,k t⟩
   have aY:(c==2)=false:=by simp[N]
   by_cases ad:c=9
   ·subst ad;have f:=i ((k q) rfl m A);clear n r o q p;go_wp2_with fail;refine(k f).mono ?_;rintro e af ⟨rfl,s⟩;have t:=i s;clear s f;go_wp2;go_ret;exact⟨rfl,k t⟩
   have aZ:(c==9)=false:=by simp[ad]
   cases P:I.sh with
   |true=>
    rw[P] at av;have f:=i ((k r) (by omega) (.inr ⟨N,ad,P⟩));clear n r o q p;go_wp2;go_ret;exact⟨rfl,k f⟩
   |false=>
    rw[P] at av;have f:=i ((k p) (by omega) N m A P);clear n r o q p;go_wp2_with (refine(oT rfl 45 _ rfl d.heap.size 0 rfl S 45 (k L) S (λj R x=>by rw[bg];simpa using x) wh (by rw[k ah];exact tK) ?_));refine(k f).mono ?_;rintro e af ⟨rfl,s⟩;have t:=i s;clear s f;go_wp2;go_ret;exact⟨rfl,k t⟩
theorem j3.lY{S:Array V} (f:j3 S) {c:Nat} (hi:c<23) {d:Int} (e:S[c]? =E (y K d)): -9223372036854775808<=d/\d<=9223372036854775807:=by
 obtain⟨k,a,i,j⟩:=f.ints c hi _ e;injection a with _ a;subst a;exact⟨i,j⟩
theorem bZ.ju{c:Nat} {I:z} (a:bZ c I) (R:fG):bZ c (I.ju R):=by
 unfold z.ju;split
 ·exact⟨⟨a.b.same,a.b.ok,a.b.may,a.b.most,a.b.ch,a.b.room,a.b.dU,a.b.file⟩,a.live,a.dead⟩
 ·exact a
theorem gR.imp{d w':U} {a:Nat->Prop} {c:Nat} {R R':z->Prop} (f:gR d w' a c R) (m:∀I,R I->R' I):gR d w' a c R':=by
 obtain⟨⟨e,i,j⟩,k⟩:=f;exact⟨⟨e,i,m _ j⟩,k⟩
def jQ(a:Nat) (I:z):Prop:=a<=1048577->bZ a I
theorem jQ.more(a:Nat) (I:z) (c:jQ a I):jQ (a+1) I:=λd=>(c (by omega)).more d
def jb(f:U) (k:Nat) (i:Nat) (j:U):Prop:=∃who lv c e os d,(d<=i/\d<=1048577)/\dM jQ (qT c e d) f j who k lv c e os i/\(∀a,c.ownBlock=E a->f.heap.size<=a)/\∀a,e.ownBlock=E a->f.heap.size<=a
theorem jb.start(w:U):jb w w.heap.size 0 (w.alloc (v #[C F 0 0,C F 0 0,C F 0 0] 34)):=
 ⟨λ_=>0,C F 0 0,C F 0 0,C F 0 0,[],0,by omega,⟨X.new w _ _,by simpa using cJ _ _ _ _,λi f=>absurd f (dZ _),λd c=>absurd rfl c,⟨rfl,bK _⟩,λd c=>by simp[az] at c,fJ _,λd=>fJ _,(G.refl No w).alloc _,
  ⟨[],[],bK _,bK _,fH.nil _ _,iH.nil _ _⟩⟩,λe a=>by simp[az] at a,λe a=>by simp[az] at a⟩
theorem jb.whole{i f:U} {c e:Nat} (n:jb i c e f):Calls T 11 #[b (E ⟨c,1,F⟩)] f λd w'=>d=g (W true)/\jb i c e w':=by
 obtain⟨who,lv,j,m,os,k,hb,a,o,p⟩:=n;obtain⟨x,z,u,w,s,t⟩:=a.book;exact(LS a.has s t (by omega) (by omega)).mono λd w' ⟨q,r⟩=>⟨q,who,lv,j,m,os,k,hb,a.still (nC _ _ _) r,o,p⟩
theorem Mt{p t:U} {i j:Nat} (f:jb p i j t) (bh:j<=1048576) {S:Array V} (H:j3 S) (aK:oz p S) {a:Int} (n:S[0]? =E (y K a)) (bc:1<=a/\a<=13) (bd:a≠4/\a≠7/\a≠8):Calls T 10 #[ptrTo i,l S] t λc w'=>c=g (W true)/\jb p i (j+1) w':=by
 obtain⟨who,lv,u,o,os,x,bf,q,A,B⟩:=f;obtain⟨k',M,a6,ab,ad,hS,aM,aT,aI,aU⟩:=H.oI;obtain⟨bm,a7,ba,aD,aE,aF⟩:=H.cur;have aN:=H.lY (by omega) hS.eS;have aO:=H.lY (by omega) hS.c3;obtain⟨sp,P,aV,aW,af,ag,ak,aQ,am⟩:=aK.ex;have ao:∀L,G No p L->Reads L (C aV P.length aW) P.length (P.map (y K)):=λL m=>by
  obtain n|⟨ax,ab,c,n⟩:=aQ
  ·exact .inl n
  ·exact .inr ⟨ax,ab,c,λe a3 hu=>fF m (n e a3 hu)⟩
 have aB:k'=a:=by
  have:=hS.eJ;rw[n] at this;injection this with c;injection c with _ c;exact c.symm
 subst aB;have av:∀(w':U),oH jQ (qT u o x) p w' i u o j->jb p i (j+1) w':=λw' hd=>by
  obtain⟨⟨aa,aZ,a1,d⟩⟩:=hd;exact⟨aa,aZ,u,o,a1,x,by omega,d,A,B⟩
 by_cases ap:k'=1
 ·subst ap;exact(Mr (nC _ _ _) jQ.more q (by omega) hS aO af ag ak (ao _ q.mod) (λN a n=>by have:=am N a n;have:=q.mod.size;omega) (λk R _ _=>R)).mono λc w' ⟨r,hd⟩=>⟨r,av w' hd⟩
 by_cases aR:0<os.length
 case neg=>
  obtain rfl:os=[]:=fS (by omega);exact(LW (nC _ _ _) jQ.more q hS ap).mono λc w' ⟨r,hd⟩=>⟨r,av w' hd⟩
 have aS:=wo M (os.length:Int) (by omega);obtain⟨e,aj⟩:∃e:Nat,iM M (os.length:Int)=(e:Int):=⟨(iM M (os.length:Int)).toNat,by omega⟩;have I:e<os.length:=by rw[aj] at aS;omega
 have m:=λn'=>q.still (nC _ _ _) (((G.refl No t).alloc (v S 45)).drewN n');have ai:=λn'=>(((G.refl No t).alloc (v S 45)).drewN n');obtain⟨k,ah,aL⟩:=q.pN e I;have z:bZ j k:=aL (by omega);have w:=λn'=>ah.mod (ai n') (λ_ _ a4=>a4);have Y:∀n' w',gR ((t.alloc (v S 45)).drewN n') w' (λa=>who a=e+1) os[e] (bZ (j+1))->jb p i (j+1) w':=λn' w' hd=>by
  obtain⟨aa,X,_⟩:=(m n').step (nC _ _ _) jQ.more I (R:=bZ (j+1)) (λ_ d _=>d) hd;exact⟨aa,_,_,_,_,x,by omega,X,A,B⟩
 refine Ms (nC _ _ _) q (by omega) aR hS aM aT (by omega) (Q ad) rfl aI e I aj ah (Q:=λw'=>jb p i (j+1) w') (λc n'=>?_) (λ_ _ n'=>?_) (λ_ O D n'=>?_) (λ_ O D n'=>?_) (λc bb O D bk n'=>?_)
 ·refine(Mm (w n') (z.more (by omega)) hS aN (by omega) af ag ak (ao _ (q.mod.trans (ai n'))) (λN a n c=>by
   have:=am N a n
   have:=(q.ik a (by have c:who a=e+1:=c;omega)).1
   omega)).mono ?_
  rintro s w' ⟨r,⟨⟨aw,a5,R,_⟩,a0⟩⟩;exact⟨r,Y n' w' ⟨⟨aw,a5,R⟩,a0⟩⟩
 ·exact⟨who,lv,u,o,os,x,by omega,(m n').more jQ.more,A,B⟩
 ·exact(Mb (w n') z (by omega) D ad aU).mono λc w' ⟨r,hd⟩=>⟨r,Y n' w' (hd.imp (λ_ d=>d.1))⟩
 ·exact(Me (w n') z (by omega) D).mono λc w' ⟨r,hd⟩=>⟨r,Y n' w' (hd.imp (λ_ d=>d.1))⟩
 ·have hA:=(w n').ask D z.b.same;have ae:∀ {s:Ending} {w':U},s=g (W true)/\G No ((t.alloc (v S 45)).drewN n') w'->s=g (W true)/\jb p i (j+1) w':=λ{s w'} f=>⟨f.1,who,lv,u,o,os,x,by omega,((m n').still (nC _ _ _) f.2).more jQ.more,A,B⟩;obtain⟨au,bl,aX,aY,aq,ar⟩:=(m n').book;obtain⟨a9,a8,_,_,_,_,_,aA⟩:=(w n').ex;have bi:who os[e]=e+1:=aA _ (by omega)
  have aH:oJ ((t.alloc (v S 45)).drewN n') (λa=>ma who i lv a\/o.ownBlock=E a) i os[e] ⟨O,k.okp,k.W.wb,k.W.ow,k.W.v,k.W.xs,k.now,k.fl⟩ k lv u o au:=
   ⟨hA,(w n').has,(m n').has,aq,.inl (.inr (.inl rfl)),.inl (.inl (by omega)),λa n=>by
    obtain(d|d|d)|d:=n
    ·exact((m n').ik a d).2
    ·subst d;exact(m n').has.lt
    ·exact iX (m n').row a d
    ·exact iX ar.row a d,by omega⟩
  have aC:∀ {J:fG} {s:Ending} {w':U},s=g (W true)/\kd ((t.alloc (v S 45)).drewN n') w' (λa=>ma who i lv a\/o.ownBlock=E a) i os[e] k J lv u o au->s=g (W true)/\jb p i (j+1) w':=λ{J s w'} f=>by
   obtain⟨ay,X,a2⟩:=(m n').ju jQ.more I (w n') (λ_=>(z.more (by omega)).ju J) ⟨aX,aY,aq,ar⟩ A f.2;exact⟨f.1,who,lv,ay,o,os,x+1,by omega,X,a2,B⟩
  have:k'=3\/k'=5\/k'=6:=by omega
  obtain rfl|rfl|rfl:=this
  ·exact(LH hA hS).mono λc w' f=>ae f
  ·exact(LO hA hS).mono λc w' f=>ae f
  ·exact(L4 aH hS aD aE aF).mono λc w' f=>aC f
theorem Mu(a:Option Addr) (q cap:Nat) (ag:q<=1048576) (d:U) (hs:qL d a q):Calls T 6 #[C a q cap] d λA w'=>A=g (W true)/\G No d w':=by
 have w:G No d (d.alloc (v #[y K 1,y K 2,y K 3,y K 5,y K 6,y K 9,y K 10,y K 11,y K 12,y K 13] 3)):=(G.refl _ _).alloc _;have u:=X.new d #[y K 1,y K 2,y K 3,y K 5,y K 6,y K 9,y K 10,y K 11,y K 12,y K 13] 3;have L:=hs.mod w
 have x:=i (Mg (X:=λ_ j=>j3 j/\oz (d.alloc (v #[y K 1,y K 2,y K 3,y K 5,y K 6,y K 9,y K 10,y K 11,y K 12,y K 13] 3)) j) (λ_ _ _ e _=>e) (w:=d.alloc (v #[y K 1,y K 2,y K 3,y K 5,y K 6,y K 9,y K 10,y K 11,y K 12,y K 13] 3)) a q cap (by omega)
  (λm B ab hi=>by
   obtain⟨n,off,j,o,f,P,Q,R⟩:=L ab hi
   obtain⟨M,_,_,_,O,hS,_,_,S,_⟩:=f.oI
   exact⟨n,off,j,M,O.kind,o,qG B P,aG R B.size,f.size,hS.eJ,S 0 _ rfl,f,Q⟩)
  d.heap.size 10 [1,2,3,5,6,9,10,11,12,13] (λc aa=>by
   have:c=0\/c=1\/c=2\/c=3\/c=4\/c=5\/c=6\/c=7\/c=8\/c=9:=by simp at aa;omega
   rw[u.cell]
   obtain rfl|rfl|rfl|rfl|rfl|rfl|rfl|rfl|rfl|rfl:=this<;>rfl) u.lt (by simp) true (jb _ _) (jb.start _)
  (λp m e=>by obtain⟨_,_,_,_,_,_,_,c,_⟩:=e;exact c.mod) (λp m e=>by obtain⟨who,lv,r,s,os,n,hb,c,o,f⟩:=e;exact⟨who,lv,r,s,os,n,by omega,c.more jQ.more,o,f⟩) (λp m ad e I=>by obtain⟨who,lv,r,s,os,n,hb,c,o,f⟩:=e;exact⟨who,lv,r,s,os,n,hb,c.still (nC _ _ _) I,o,f⟩)
  (λp m j M ae I t D Y af H ah=>Mt t (by omega) D.1 D.2 Y (by
    simp[jP] at H
    omega) (by
    simp[jP] at H
    omega))
  (λp m t=>t.whole))
 have z:=i w;clear hs L w u;go_enter func6,ntmps6;go_wp2_with fail;refine(k x).mono ?_;rintro A ai ⟨rfl,J⟩;have N:=i ((k z).trans J);clear J x z;go_wp2;go_ret;exact⟨rfl,k N⟩
end Go.Proofs.YthhibagcpjeihaaGreat
