import Derived.Test.YthhibagcpjeihaaGreatMRef19ToRef27
import Derived.Deep.CutBlock
import Derived.Test.YthhibagcpjeihaaGreatMRef24ToTPl
import Derived.Test.YthhibagcpjeihaaGreatMKeep3ToKeep8
import Derived.Test.YthhibagcpjeihaaGreatMLook1ToSwap2
import Derived.Handy
import Derived.Deep.DeepCutAuto
open Go.Proofs.Tryz
open Go.Value renaming int->y,pointer->b,slice->C,agg->l,ownBlock->az
open Go.IntKind renaming i64->K
open Option renaming none->F,some->E
open Go renaming World->U,Value->V
open Go.Proofs.Tryz renaming prog->T,underlying61->nW,underlying70->oB
open Go.Ending renaming returned->g
open Go.Obj renaming cells->v
open List renaming length_append->aJ,getElem?_eq_getElem->cK,eq_nil_of_length_eq_zero->fS,length_take->dj,getElem_mem->dD,length_cons->dP,append_nil->dR,length_set->iU,getD_eq_getElem?_getD->nT,set_getElem_self->lI,flatMap_append->lG,countP_cons->kh,length_filter_le->oZ
open Go.Act renaming eval->Z,put->aP
open Array renaming getElem?_toList->dE
open Go.World renaming ownsRow_nil->cJ
open Nat renaming zero_add->bg,le_trans->bF,le_refl->bK,not_lt_zero->dZ,zero_le->fJ
open Go.Addr renaming add_mid->dx
namespace Go.Proofs.YthhibagcpjeihaaGreat
open Go.RowKit
open M
set_option linter.unusedVariables false
set_option linter.unusedSimpArgs false
set_option maxRecDepth 100000
set_option maxHeartbeats 8000000
theorem JU{n:U} {ax:Nat->Nat} {A:Nat} {now:Int} (aj:aF n ax A (C F 0 0) [] now) (d:N) (hf:cT [] d.m= -1) (O:d.p.sized=true) (ar:d.p.limited=true):Calls T 53 #[b (E ⟨A,0,F⟩),l (Q d)] n λr w'=>r=g (y K 0)/\vC n w' ax A [] now d.m d.p:=by
 have w:=(aj.mod ((G.refl No n).alloc (v (Q d) 41)) (λ_ _ c=>c)).find d.m;rw[hf] at w;have w:=i w;have H:=i λf=>qn d.p f;have D:=i λf=>uw d.p f
 have B:=i λf=>(show Calls T 84 #[eb d.p] f λr w'=>∃a4,r=g a4/\∃e cap,a4=C (E ⟨e,0,F⟩) (q d.p).length cap/\aE w' e cap (q d.p)/\f.heap.size<e/\G No f w' from
  (ux d.p O f).mono λr w' ⟨e,cap,bp,bq⟩=>⟨_,bp,e,cap,rfl,bq⟩)
 have bd:=i (ly O ar);have aS:=i ((G.refl No n).alloc (v (Q d) 41));have s:=i (X.new n (Q d) 41);rw[O] at H;rw[ar] at D;have o:=i aj;obtain⟨kind,m,af,ac,aL,aK,ay,ah,time,a⟩:=d;simp only at *;clear aj hf O ar;unfold eb at H D B;unfold Q at *;go_enter func53,ntmps53;go_wp2_with fail;refine(k w).mono ?_;rintro r b4 ⟨rfl,rfl⟩;have hb:=(k s).cell;have bv:=(k s).lt;go_wp2_with fail
 refine((k H) _).mono ?_;rintro r b5 ⟨rfl,z⟩;have bs:=(z.has (k s) (λc=>c)).cell;have bw:=(z.has (k s) (λc=>c)).lt;clear hb bv;go_wp2_with fail;refine((k D) _).mono ?_;rintro r w3 ⟨rfl,av⟩;have J:=i (((k aS).trans z).trans av);have u:=i (av.has (z.has (k s) (λc=>c)) (λc=>c));clear bs bw z av s aS w H D;generalize n.heap.size=b0 at *;have bt:=(k u).cell;have a3:=(k u).lt;go_upto_region 8 with fail
 go_cut [8] (λbE aM=>∃x e cap,bE=b (E ⟨x,0,F⟩)/\Hid (gv n aM m a #[y K kind,y K m,y K af,y K ac,y K aL,y K aK,y K ay,y K ah,y K time,y K a.rows,y K a.w,y K a.front,y K a.I,y K a.R,y K a.n,y K a.f] x b0 e cap))
 case first=>
  have S:=i (k u).drew;have bh:=i (k J).drew;have aw:G No w3 ((w3.alloc (v #[y K 0,y K 0,y K 0,y K 0,y K 0,y K 0,y K 0,y K 0,C F 0 0,y K 0] 134)).drew):=((G.refl _ w3).alloc _).drew;have Y:=i (aw.has (k u) (λc=>c));have bi:=i ((k J).trans aw);have M:=i (X.new w3 #[y K 0,y K 0,y K 0,y K 0,y K 0,y K 0,y K 0,y K 0,C F 0 0,y K 0] 134).drew;have bT:=i (show b0<=w3.heap.size from Nat.le_of_lt a3)
  clear aw
  go_region_law (first
   |(refine pC rfl 84 _ _ rfl #[l #[y K a.rows,y K a.w,y K a.front,y K a.I,y K a.R,y K a.n,y K a.f]] (by simp[Z,aP]) (λf=>by kernel_rfl) _ ((k B) w3.drew) ?_;rintro bH bP ⟨ai,ag,rfl,ak,aN,j⟩;have bu:=(j.has (k S) (λc=>c)).cell;have bx:=(j.has (k S) (λc=>c)).lt)
   |(refine pC rfl 84 _ _ rfl #[l #[y K a.rows,y K a.w,y K a.front,y K a.I,y K a.R,y K a.n,y K a.f]] (by simp[Z,aP]) (λf=>by kernel_rfl) _ ((k B) _) ?_;rintro bH bP ⟨ai,ag,rfl,ak,aN,j⟩;have bu:=(j.has (k Y) (λc=>c)).cell;have bx:=(j.has (k Y) (λc=>c)).lt;have b6:=(j.has (k M) (λc=>c)).cell;have b7:=(j.has (k M) (λc=>c)).frozen;have b8:=(j.has (k M) (λc=>c)).lt))
  all_goals go_wp2
  all_goals go_meet
  all_goals first
   |with_reducible exact⟨_,ai,ag,rfl,i (gv.made (k bh) j (k S) ak aN)⟩
   |with_reducible exact⟨_,ai,ag,rfl,i (gv.sX (k bi) j (k Y) (k M) (k J).size ak aN)⟩
 case rest=>
  obtain⟨x,e,cap,rfl,aa⟩:=hcut;obtain⟨au,aA,aB,aD,aH⟩:=info_parts vB;clear u J B bt a3
  apply_assumption
  go_upto_block 0 with fail;go_cut [9] (λaI aM=>aI=y K 0/\Hid (gv n aM m a #[y K kind,y K m,y K af,y K ac,y K aL,y K aK,y K ay,y K ah,y K time,y K a.rows,y K a.w,y K a.front,y K a.I,y K a.R,y K a.n,y K a.f] x b0 e cap))
  case first=>
   go_wp2_with fail;go_loopw [9] (λaI wr=>aI=y K 0/\Hid (gv n wr m a #[y K kind,y K m,y K af,y K ac,y K aL,y K aK,y K ay,y K ah,y K time,y K a.rows,y K a.w,y K a.front,y K a.I,y K a.R,y K a.n,y K a.f] x b0 e cap)) (λ_ _=>0)
   case atStart=>exact⟨rfl,aa⟩
   case round=>
    obtain⟨rfl,p⟩:=hrel;clear aa;have bJ:wr.cell? ⟨A,0,F⟩=E (C F 0 0):=((k p).mod.has (k o).has (λc=>c)).cell 0;have bN:=((k p).mod.has (k o).has (λc=>c)).lt;go_wp2_with fail;go_quiet (fail);go_wp2;go_meet;exact⟨rfl,(k p).still ((G.refl No _).drewN _)⟩
  case rest=>
   obtain⟨rfl,p⟩:=hcut;have bJ:=((k p).mod.has (k o).has (λc=>c)).cell 0;have bN:=((k p).mod.has (k o).has (λc=>c)).lt;clear aa;have I:=p;go_upto_region 13 with fail;have aQ:=i (show ∀f,Reads f (C F 0 0) 0 [] from λf=>.inl ⟨rfl,rfl⟩);have aO:=i (show ∀t∈([]:List V),t.oneCell'=true from λt hu=>by simp at hu)
   have bf:=i (show ∀t∈bS (di m a e cap),t.oneCell'=true from λt hu=>sY [di m a e cap] t (by simpa using hu))
   go_upto_region 15 with(first
    |(at_builtin;refine eI rfl (.tmp 59) (.tmp 65) 70 rfl 134 au _ 10 96 oB aA aB aD aH rfl (by decide) (C F 0 0) 0 [] (by simp[Z]) (by exact cJ _ _ _ _) (C F 0 0) 0 [] (by simp[Z]) (by exact(k aQ) _) rfl (k aO) (by unfold maxLen;omega) (by omega) ?_;intro bG R ao aX a0;
      rw[bg,List.nil_append] at ao;have a6:=i ao;have aR:=i a0;have ad:=i ((G.refl No _).grown aX (by simp[az]));clear ao aX a0;have ab:=i ((k I).still (k ad));have aW:=(k ab).box.cell;have bl:=(k ab).box.lt;unfold aV di at aW;have j:G No R (R.alloc (v (aV (di m a e cap)) 134)):=(G.refl _ _).alloc _;have a7:=i (j.owns (k a6) (λ_ _ c=>c));have ba:=i (Ad R 134 (di m a e cap));clear j ab)
    |(at_builtin;refine eI rfl (.tmp 67) (.tmp 69) 70 rfl 134 au _ 10 96 oB aA aB aD aH rfl (by decide) bG 0 [] (by simp[Z]) (by exact k a7) (C (E ⟨R.heap.size,0,F⟩) 1 1) 1 (bS (di m a e cap)) (by simp[Z]) (by exact k ba) rfl (k bf) (by unfold maxLen;omega) (by omega) ?_;intro bY bQ ap aY a1;
      clear aW bl;obtain⟨bk,bm,rfl⟩:=aC ap;have a8:=i ap;have bb:=i a1;have ae:=i (((k ad).alloc _).grown aY (sZ (k aR)));clear ap aY a1;have L:=(k I).mod.trans (k ae);have bL:bQ.cell? ⟨A,0,F⟩=E (C F 0 0):=(L.has (k o).has (λc=>c)).cell 0;have bM:=(L.has (k o).has (λc=>c)).frozen;have bO:=(L.has (k o).has (λc=>c)).lt;clear L))
   have aU:=i (qM (sZ (k aR)) (by have:=(k ad).size;simp;omega) (k bb));have a5:=i (Ae (xs:=[]) (now:=now) (ow:=ax) (i:=0) (k o) (k I) (k bd) (bK _) (by simp))
   go_wp2_with (at_builtin;refine eI rfl (.tmp 72) (.tmp 78) 70 rfl 134 au _ 10 96 oB aA aB aD aH rfl (by decide) (C bk (0+1) bm) (0+1) ([]++bS (di m a e cap)) (by simp[Z]) (by exact k a8) (C F 0 0) 0 [] (by simp[Z]) (by exact(k aQ) _) rfl (k aO) (by unfold maxLen;omega) (by omega) ?_;intro bZ bR aq aZ a2;obtain⟨bU,bV,rfl⟩:=aC aq;have a9:=i aq;have bc:=i a2;have aT:=i ((k ae).grown aZ (k aU));clear aq aZ a2 bL bM bO;have P:=((k I).mod.trans (k aT)).has (k o).has (λc=>c);have b1:=P.cell 0;have b2:=P.frozen;have b3:=P.lt;clear P)
   go_ret;obtain⟨bA,v',n',bo,bn,bz,bB,rfl,bC,bD⟩:=(k a5) bR _ (k aT) (qM (k aU) (k ae).size (k bc)) _ _ (by simp) (by simp) (k a9);exact⟨rfl,⟨bA,v',0,bo,bn,bz,bB,λbW am=>absurd am (dZ _),λam=>absurd am (dZ _),bC,bD⟩⟩
set_option maxHeartbeats 4000000
structure ew (w w':U) (ow:Nat->Nat) (wb:Nat) (now:Int) (fl:Nat->Option (O×List B)):Prop where
 ex:∃v ys ow',aF w' ow' wb v ys now/\dt ys fl/\(∀k,ow' k≠0->ow k≠0\/w.heap.size<=k)/\(ys=[]->v=C F 0 0)
 mod:G (λk=>ow k≠0) w w'
theorem ew.same{d w':U} {a:Nat->Nat} {k:Nat} {c:V} {xs:List e} {now:Int} {i:Nat->Option (O×List B)} (m:aF d a k c xs now) (hs:dt xs i) (hv:xs=[]->c=C F 0 0) (j:G No d w'):ew d w' a k now i:=
 ⟨⟨c,xs,a,m.mod j (λ_ _ f=>f),hs,λo n=>.inl n,hv⟩,j.mono (λ_ _ f=>f.elim)⟩
theorem ew.first{a i w':U} {f:Nat->Nat} {j:Nat} {now:Int} {d:Nat->Option (O×List B)} (k:ew i w' f j now d) (e:G No a i):ew a w' f j now d:=by
 obtain⟨⟨u,ys,t,m,n,o,q⟩,p⟩:=k;exact⟨⟨u,ys,t,m,n,λs r=>(o s r).imp (λc=>c) (λc=>bF e.size c),q⟩,(e.mono (λ_ _ c=>c.elim)).trans p⟩
theorem JW(p:O) (a:Int) (j:Nat):(p.at a).aZ j=p.aZ j:=by
 match j with
 |0=>rfl
 |1=>rfl
 |2=>rfl
 |_+3=>rfl
theorem AD(p:O) (d:Int) (c:List B):∀a,nE (p.at d) c a=nE p c a
 |0=>rfl
 |a+1=>by
  unfold nE;rw[AD p d c a,JW]
theorem JX(p:O) (d:Int) (c:List B) (a:Nat):M.leftOf (p.at d) c a=M.leftOf p c a:=by
 unfold M.leftOf;rw[AD]
theorem AE(p:O) (e:Int) (d:List B) (f:N) (now:Int):aH (p.at e) d f now=aH p d f now:=by
 have i:∀c a,(p.at e).has c a=p.has c a:=λ_ _=>rfl;have j:∀c a,aq (p.at e) d c a=aq p d c a:=λ_ _=>rfl;unfold aH;simp only[i,j,JX]
theorem JY(p:O) (f:Int) (d:List B) (e:N) (i:e.kind≠9):dg (p.at f) d e=dg p d e:=by
 have j:∀c a,(p.at f).idx c a=p.idx c a:=λ_ _=>rfl;have k:∀c a,aq (p.at f) d c a=aq p d c a:=λ_ _=>rfl;unfold dg;rw[if_neg i,if_neg i];simp only[j,k]
theorem JZ{now:Int} {c:Nat->Option (O×List B)} {a:N} (d:a.kind<1\/a.kind>9):aA now c a=(1,now,c):=by
 unfold aA;rw[if_pos d]
theorem J3{now:Int} {c:Nat->Option (O×List B)} {a:N} (d:a.kind=8) (e:1<=a.time/\a.time<=100):aA now c a=(0,now+a.time,λf=>(c f).map (gZ (now+a.time))):=by
 unfold aA;rw[if_neg (by omega),if_pos d,if_pos e]
theorem J4{now:Int} {c:Nat->Option (O×List B)} {a:N} (d:a.kind=8) (e:¬(1<=a.time/\a.time<=100)):aA now c a=(8,now,c):=by
 unfold aA;rw[if_neg (by omega),if_pos d,if_neg e]
theorem AF{now:Int} {c:Nat->Option (O×List B)} {a:N} (d:¬(a.kind<1\/a.kind>9)) (e:a.kind≠8) (hf:¬(1<=a.m/\a.m<=20)):aA now c a=(2,now,c):=by
 unfold aA;rw[if_neg d,if_neg e,if_pos hf]
theorem AG{now:Int} {c:Nat->Option (O×List B)} {a:N} (d:¬(a.kind<1\/a.kind>9)) (e:a.kind≠8) (hf:1<=a.m/\a.m<=20) (f:c a.m.toNat=F):aA now c a=if a.kind=1 then(if a.p.sized=true/\a.p.limited=true then(0,now,λj=>if j=a.m.toNat then E (a.p.at 1,q a.p) else c j) else(4,now,c)) else(2,now,c):=by
 unfold aA;rw[if_neg d,if_neg e,if_neg (by omega),f]
theorem AH{now:Int} {d:Nat->Option (O×List B)} {a:N} (e:¬(a.kind<1\/a.kind>9)) (f:a.kind≠8) (hf:1<=a.m/\a.m<=20) {c:O×List B} (i:d a.m.toNat=E c):aA now d a=if a.kind=1 then(3,now,d) else if aH c.1 c.2 a now=0 then(0,now,λj=>if j=a.m.toNat then E (fT c.1 a,dg c.1 c.2 a) else d j) else(aH c.1 c.2 a now,now,d):=by
 unfold aA;rw[if_neg e,if_neg f,if_neg (by omega),i]
theorem J5(c:N) (f:c.kind≠9) (now:Int) (a:e) (d:aH a.f.p a.f.S c now=0):((kO c now a).f.p.at (kO c now a).f.ep,(kO c now a).f.S)=(fT (a.f.p.at a.f.ep) c,dg (a.f.p.at a.f.ep) a.f.S c):=by
 unfold kO cN fT;simp only;rw[if_pos d,if_pos d,if_neg f,JY _ _ _ _ f];rfl
theorem J7(c:N) (now:Int) (a:e) (d:aH a.f.p a.f.S c now≠0):kO c now a=a:=by
 unfold kO cN;rw[if_neg d,if_neg d]
theorem spot:∀(xs:List e) (c:Int),∃d,d<=xs.length/\(∀j (a:j<xs.length),j<d->xs[j].f.num<c)/\∀a:d<xs.length,¬xs[d].f.num<c
 |[],c=>⟨0,bK _,λj a=>absurd a (dZ _),λa=>absurd a (dZ _)⟩
 |o::xs,c=>by
  by_cases f:o.f.num<c
  ·obtain⟨d,k,m,n⟩:=spot xs c;refine⟨d+1,by simpa using k,λj a i=>?_,λa=>by simpa using n (by simpa using a)⟩
   cases j with
   |zero=>exact f
   |succ j=>simpa using m j (by simpa using a) (by omega)
  ·exact⟨0,fJ _,λj a i=>absurd i (dZ _),λa=>f⟩
theorem dt.room{xs:List e} {c:Nat->Option (O×List B)} (d:dt xs c) (a:Int) (hc:1<=a/\a<=20) (hf:cT xs a= -1):xs.length<20:=by
 obtain⟨k,f,i,j⟩:=spot xs a;exact(d.insert a hc hf k f i j (di a ⟨0,0,0,0,0,0,0,0⟩ 0 0) rfl _ rfl).2
theorem J8{i:U} {w:Nat->Nat} {d:Nat} {aj:V} {xs:List e} {now:Int} {D:Nat->Option (O×List B)} (t:aF i w d aj xs now) (hs:dt xs D) (a:N) (ap: -9223372036854775808<=a.time/\a.time<=9223372036854775807) (ag:0<=now/\now<=4611686018427387000) (ao:a.kind≠9) (hv:xs=[]->aj=C F 0 0):
  Calls T 27 #[b (E ⟨d,0,F⟩),l (Q a)] i λc w'=>c=g (y K (aA now D a).1)/\ew i w' w d (aA now D a).2.1 (aA now D a).2.2:=by
 by_cases ab:a.kind<1\/a.kind>9
 ·rw[JZ ab];exact(Jr d a i ab).mono λc w' ⟨A,u⟩=>⟨A,ew.same t hs hv u⟩
 by_cases H:a.kind=8
 ·by_cases R:1<=a.time/\a.time<=100
  ·rw[J3 H R];obtain⟨kind,j,k,ac,s,r,o,m,time,p⟩:=a;simp only at H R;subst H;obtain⟨rfl,rfl⟩|⟨ae,cap,rfl,_,_⟩:=t.jk
   ·refine vD d j k ac s r o m time p i 0 (λw'=>ew i w' w d (now+time) (λad=>(D ad).map (gZ (now+time)))) (λf n=>?_);refine(Ht d time now f R ag (n.has t.has (λx=>x))).mono ?_;rintro c w' ⟨rfl,rfl⟩;have J:=(t.mod n (λ_ _ x=>x)).zo (now+time);have u:G (λS=>w S≠0) f (f.setCell ⟨d,1,F⟩ (y K (now+time))):=(G.refl _ f).setCell (p:=⟨d,1,F⟩) (.inl (by rw[t.aW];omega)) _
    exact⟨rfl,ew.first ⟨⟨_,[],w,J,hs.tick (now+time),λS L=>.inl L,λ_=>rfl⟩,u⟩ n⟩
   ·by_cases Y:0<xs.length
    ·refine vD d j k ac s r o m time p i 0 (λw'=>ew i w' w d (now+time) (λad=>(D ad).map (gZ (now+time)))) (λf n=>?_);refine(Hv d ae cap xs w time now f R ag (t.mod n (λ_ _ x=>x)) Y).mono ?_;rintro c w' ⟨rfl,J,u⟩;exact⟨rfl,ew.first ⟨⟨_,_,w,J,hs.tick (now+time),λS L=>.inl L,λc=>by rw[List.map_eq_nil_iff] at c;rw[c] at Y;exact absurd Y (Nat.lt_irrefl _)⟩,u⟩ n⟩
    ·have:=hv (fS (by omega))
     cases this
  ·rw[J4 H R];obtain⟨kind,j,k,ac,s,r,o,m,time,p⟩:=a;simp only at H R;subst H;refine vD d j k ac s r o m time p i 8 (λw'=>ew i w' w d now D) (λf n=>?_);exact(Hs d time f R).mono λc w' ⟨A,aq⟩=>⟨A,by subst aq;exact ew.same t hs hv n⟩
 by_cases hf:1<=a.m/\a.m<=20
 case neg=>
  rw[AF ab H hf];have I:=λf (n:G No i f)=>(t.mod n (λ_ _ x=>x)).find a.m;obtain⟨kind,j,k,ac,s,r,o,m,time,p⟩:=a;exact(Ai d j k ac s r o m time p i kind (by simp only at *;omega) _ hf I).mono λc w' ⟨A,u⟩=>⟨A,ew.same t hs hv u⟩
 have I:=λf (n:G No i f)=>(t.mod n (λ_ _ x=>x)).find a.m;obtain⟨f1,f2⟩|⟨P,hi,f1,f2,f3⟩:=hs.find a.m hf
 ·rw[AG ab H hf f2];by_cases z:a.kind=1
  ·rw[if_pos z];by_cases M:a.p.sized=true/\a.p.limited=true
   ·rw[if_pos M];have X:∀f,G No i f->Calls T 53 #[b (E ⟨d,0,F⟩),l (Q a)] f λc w'=>c=g (y K 0)/\ew i w' w d now (λai=>if ai=a.m.toNat then E (a.p.at 1,q a.p) else D ai):=λf n=>by
     have af:=t.mod n (λ_ _ x=>x);have ah:Calls T 53 #[b (E ⟨d,0,F⟩),l (Q a)] f λc w'=>c=g (y K 0)/\vC f w' w d xs now a.m a.p:=by
      obtain⟨rfl,rfl⟩|⟨ae,cap,rfl,_,_⟩:=af.jk
      ·exact JU af a f1 M.1 M.2
      ·by_cases Y:0<xs.length
       ·refine Jm af Y a f1 M.1 M.2 ?_;exact hs.room a.m hf f1
       ·have:=hv (fS (by omega))
        cases this
     refine ah.mono ?_;rintro c w' ⟨rfl,u,v',ad,am,cap,ar,au,av,aw,ax,ay⟩;obtain⟨aB,aC⟩:=hs.insert a.m hf f1 ad au av aw (di a.m a.p am cap) rfl (a.p.at 1,q a.p) rfl;refine⟨rfl,ew.first ⟨⟨v',_,ar,ax,aB,ay,λc=>by simp at c⟩,u.mono (λS _ c=>?_)⟩ n⟩;subst c;rw[t.aW];omega
    obtain⟨kind,j,k,ac,s,r,o,m,time,p⟩:=a;simp only at z;subst z;exact vE d j k ac s r o m time p i _ 0 _ hf I X
   ·rw[if_neg M];have X:∀f,G No i f->Calls T 53 #[b (E ⟨d,0,F⟩),l (Q a)] f λc w'=>c=g (y K 4)/\ew i w' w d now D:=λf n=>
     (Jg (t.mod n (λ_ _ x=>x)) a f1 M).mono λc w' ⟨A,u⟩=>⟨A,ew.same t hs hv (n.trans u)⟩
    obtain⟨kind,j,k,ac,s,r,o,m,time,p⟩:=a;simp only at z;subst z;exact vE d j k ac s r o m time p i _ 4 _ hf I X
  ·rw[if_neg z];rw[f1] at I;obtain⟨kind,j,k,ac,s,r,o,m,time,p⟩:=a;exact(Aj d j k ac s r o m time p i kind (by simp only at *;omega) (-1) hf (by omega) z I).mono λc w' ⟨A,u⟩=>⟨A,ew.same t hs hv u⟩
 ·rw[AH ab H hf f3];by_cases z:a.kind=1
  ·rw[if_pos z];have X:∀f,G No i f->Calls T 53 #[b (E ⟨d,0,F⟩),l (Q a)] f λc w'=>c=g (y K 3)/\ew i w' w d now D:=λf n=>
    (Jf (t.mod n (λ_ _ x=>x)) a P f1).mono λc w' ⟨A,u⟩=>⟨A,ew.same t hs hv (n.trans u)⟩
   obtain⟨kind,j,k,ac,s,r,o,m,time,p⟩:=a;simp only at z;subst z;exact vE d j k ac s r o m time p i _ 3 _ hf I X
  ·rw[if_neg z];simp only;rw[AE];obtain⟨ae,cap,rfl⟩:=t.some (by omega);have ah:=λ(kind j k ac s r o m time:Int) (p:O) (hc:a=⟨kind,j,k,ac,s,r,o,m,time,p⟩)=>
    Ju t kind j k ac s r o m time p (by subst hc;simp only at *;omega) (by subst hc;exact hf) (by subst hc;exact ap) ag P hi (by subst hc;exact f1)
   obtain⟨kind,j,k,ac,s,r,o,m,time,p⟩:=a;refine(ah kind j k ac s r o m time p rfl).mono ?_;rintro c w' ⟨rfl,J,u⟩;by_cases aa:aH xs[P].f.p xs[P].f.S ⟨kind,j,k,ac,s,r,o,m,time,p⟩ now=0
   ·rw[if_pos aa];refine⟨by rw[aa],⟨_,_,w,J,?_,λS L=>.inl L,λc=>by have ak:=(List.set_eq_nil_iff _ _).1 c;rw[ak] at hi;exact absurd hi (dZ _)⟩,u⟩;exact hs.set j hf P hi f1 (kO ⟨kind,j,k,ac,s,r,o,m,time,p⟩ now xs[P]) rfl _ (J5 _ ao now xs[P] aa)
   ·rw[if_neg aa];rw[J7 _ _ _ aa,lI] at J;exact⟨rfl,⟨_,_,w,J,hs,λS L=>.inl L,hv⟩,u⟩
set_option maxHeartbeats 8000000
def eQ(a:O) (d:List B) (c:Nat):Nat:=(aQ a (d.take c)).length
def th(a:O) (d:List B) (c:Nat):Nat:=(stay a (d.take c)).length
theorem AJ(a:List B):ba a+cY a=a.length:=by
 induction a with
 |nil=>rfl
 |cons d a e=>
  unfold ba cY at *;simp only[kh,dP];by_cases c:d.st=0<;>simp[c]<;>omega
theorem J9{a c:B} (hs:a.wf) (p:c.wf) (d:a.st=0) (e:c.st=0) (o:c.row=a.row) (hc:c.P=a.P):c=a:=by
 obtain⟨f,i,j⟩:=hs.bare (.inl d);obtain⟨k,m,n⟩:=p.bare (.inl e);obtain⟨x,q,st,u,s,D⟩:=a;obtain⟨z,r,A,w,t,G⟩:=c;simp only at *;subst d e o hc f i j k m n;rfl
theorem AK{p d:O} {c:List B} (j:L p c) (q:d.sized=true) (r:d.limited=true) (a:Nat) (hi:a<c.length) (o:d.has c[a].row c[a].P=true):∃e:d.idx c[a].row c[a].P<(stay d (c.take a)).length,(stay d (c.take a))[d.idx c[a].row c[a].P].row=c[a].row/\(stay d (c.take a))[d.idx c[a].row c[a].P].P=c[a].P/\stay d (c.take (a+1))=(stay d (c.take a)).set (d.idx c[a].row c[a].P) c[a]:=by
 have hS:=qj j q r a (by omega);obtain⟨e,f0,m,k⟩:=hS.free j hi o;refine⟨e,m,k,?_⟩;rw[mG d c a hi];unfold jU;by_cases i:c[a].st=0
 ·rw[if_neg (λf=>f.1 i)];have f:=J9 (j.cQ _ (dD hi)) (hS.wf.cQ _ (dD e)) i f0 m k;have n:(stay d (c.take a)).set (d.idx c[a].row c[a].P) ((stay d (c.take a))[d.idx c[a].row c[a].P])=stay d (c.take a):=lI e;rw[f] at n;exact n.symm
 ·rw[if_pos ⟨i,o⟩]
def tj(num:Int) (a:O) (e c cap:Nat) (d:Int):Array V:=
 #[y K num,y K a.rows,y K a.w,y K a.front,y K a.I,y K a.R,y K a.n,y K a.f,C (E ⟨e,0,F⟩) c cap,y K d]
structure fQ (w wr:U) (j8 g cap:Nat) (Q:O) (num ep:Int) (acc:List B):Prop where
 has:X wr j8 (tj num Q g acc.length cap ep) 134
 row:aE wr g cap acc
 wf:L Q acc
 ne:j8≠g
 new:w.heap.size<=j8/\w.heap.size<=g
 mod:G No w wr
theorem fQ.AL{m wr:U} {i e cap:Nat} {c:O} {num j:Int} {d:List B} (a:fQ m wr i e cap c num j d):eg wr i 0 e cap c d:=by
 refine⟨a.row,by have:=gF a.wf;omega,a.ne,a.has.cell 8,λf k=>?_⟩;have:=a.has.cell (4+f);rw[bg,this]
 match f,k with
 |0,_=>rfl
 |1,_=>rfl
 |2,_=>rfl
 |3,_=>rfl
theorem fQ.step{i wr w2:U} {f d cap:Nat} {j:O} {num m:Int} {k:List B} {S:Nat->Prop} (a:fQ i wr f d cap j num m k) (e:G S wr w2) (n:¬S f) (o:¬S d) (p:∀c,S c->i.heap.size<=c):fQ i w2 f d cap j num m k:=
 ⟨e.has a.has n,a.row.mod e o,a.wf,a.ne,a.new,a.mod.trans' e (λc q hl=>by have:=p c q;omega)⟩
theorem fQ.still{j wr w2:U} {i f cap:Nat} {c:O} {num e:Int} {d:List B} (k:fQ j wr i f cap c num e d) (m:G No wr w2):fQ j w2 i f cap c num e d:=
 k.step m (λa=>a) (λa=>a) (λn a=>a.elim)
theorem fQ.put{p wr:U} {o c cap:Nat} {f:O} {num i:Int} {e:List B} (d:fQ p wr o c cap f num i e) (j:Nat) (k:j<e.length) (a:B) (hs:a.wf) (r:e[j].row=a.row) (hc:e[j].P=a.P):fQ p ((((((wr.setCell ⟨c,j* 6,F⟩ (y K a.row)).setCell ⟨c,j* 6+1,F⟩ (y K a.P)).setCell ⟨c,j* 6+2,F⟩ (y K a.st)).setCell ⟨c,j* 6+3,F⟩ (y K a.pa)).setCell ⟨c,j* 6+4,F⟩ (y K a.cl)).setCell ⟨c,j* 6+5,F⟩ (y K a.un)) o c cap f num i (e.set j a):=by
 have m:=(G.refl (λn=>n=c) wr).iW rfl j (y K a.row) (y K a.P) (y K a.st) (y K a.pa) (y K a.cl) (y K a.un);have q:=m.has d.has d.ne;refine⟨?_,d.row.iW j k a,d.wf.set k hs r.symm hc.symm,d.ne,d.new,d.mod.trans' m (λn s hl=>by have:=d.new.2;omega)⟩;rw[iU];exact q
structure gx (w wr:U) (j8 g cap:Nat) (Q:O) (num ep:Int) (l:List B) (v:V) (i:Nat):Prop where
 n:fQ w wr j8 g cap Q num ep (stay Q (l.take i))
 home:wr.ownsRow 0 63 6 v (eQ Q l i) ((aQ Q (l.take i)).flatMap aX)
 own:∀k,v.ownBlock=E k->w.heap.size<=k/\k≠j8/\k≠g
theorem gx.still{n wr w2:U} {k e cap:Nat} {c:O} {num d:Int} {j:List B} {m:V} {i:Nat} (a:gx n wr k e cap c num d j m i) (f:G No wr w2):gx n w2 k e cap c num d j m i:=
 ⟨a.n.still f,f.owns a.home (λ_ _ o=>o),a.own⟩
theorem gx.start{w wr:U} {e d cap:Nat} {a:O} {num c:Int} (j:List B) (f:fQ w wr e d cap a num c (q a)):gx w wr e d cap a num c j (C F 0 0) 0:=
 ⟨f,cJ _ _ _ _,λk i=>by simp[az] at i⟩
theorem gx.pass{o wr:U} {m j cap:Nat} {d:O} {num i:Int} {c:List B} {n:V} {a:Nat} (f:gx o wr m j cap d num i c n a) (hi:a<c.length) (r:d.has c[a].row c[a].P=false) (k:c[a].st=0):gx o wr m j cap d num i c n (a+1):=by
 have p:stay d (c.take (a+1))=stay d (c.take a):=by
  rw[mG d c a hi];unfold jU;rw[if_neg (λe=>e.1 k)]
 have q:aQ d (c.take (a+1))=aQ d (c.take a):=by
  rw[kD d c a hi,if_neg (λe=>e.1 k),dR]
 refine⟨by rw[p];exact f.n,?_,f.own⟩;have:=f.home;unfold eQ at *;rw[q];exact this
theorem gx.lay{p:O} {s wr:U} {q f cap:Nat} {e:O} {num m:Int} {c:List B} {r:V} {a:Nat} (i:gx s wr q f cap e num m c r a) (o:L p c) (z:e.sized=true) (A:e.limited=true) (hi:a<c.length) (n:e.has c[a].row c[a].P=true) (d:B) (hs:c[a]=d):gx s ((((((wr.setCell ⟨f,e.idx d.row d.P* 6,F⟩ (y K d.row)).setCell ⟨f,e.idx d.row d.P* 6+1,F⟩ (y K d.P)).setCell ⟨f,e.idx d.row d.P* 6+2,F⟩ (y K d.st)).setCell ⟨f,e.idx d.row d.P* 6+3,F⟩ (y K d.pa)).setCell ⟨f,e.idx d.row d.P* 6+4,F⟩ (y K d.cl)).setCell ⟨f,e.idx d.row d.P* 6+5,F⟩ (y K d.un)) q f cap e num m c r (a+1):=by
 subst hs;obtain⟨D,x,w,t⟩:=AK o z A a hi n;have u:aQ e (c.take (a+1))=aQ e (c.take a):=by
  rw[kD e c a hi,if_neg (λj=>j.2 n),dR]
 have I:=(G.refl (λk=>k=f) wr).iW rfl (e.idx c[a].row c[a].P) (y K c[a].row) (y K c[a].P) (y K c[a].st) (y K c[a].pa) (y K c[a].cl) (y K c[a].un);refine⟨?_,?_,i.own⟩
 ·rw[t];exact i.n.put _ D c[a] (o.cQ _ (dD hi)) x w
 ·have:=I.owns i.home (λk H j=>(i.own k H).2.2 j);unfold eQ at *;rw[u];exact this
theorem AM{Q:O} {c:List B} {a:Nat} (hi:a<c.length) (d:¬(c[a].st≠0/\¬Q.has c[a].row c[a].P=true)):eQ Q c (a+1)=eQ Q c a:=by
 unfold eQ;rw[kD Q c a hi,if_neg d,dR]
theorem J'{Q:O} {c:List B} {a:Nat} (hi:a<c.length) (d:c[a].st≠0/\¬Q.has c[a].row c[a].P=true):eQ Q c (a+1)=eQ Q c a+1:=by
 unfold eQ;rw[kD Q c a hi,if_pos d,aJ];rfl
theorem AO(d:O) (a:List B) (e:Nat):eQ d a e<=a.length:=by
 unfold eQ aQ;have:=oZ (λc:B=>c.st !=0&& !d.has c.row c.P) (a.take e);rw[dj] at this;omega
theorem gx.leave{q wr w2 w3:U} {o m cap:Nat} {d:O} {num r:Int} {c:List B} {p v':V} {a:Nat} (i:gx q wr o m cap d num r c p a) (hi:a<c.length) (t:d.has c[a].row c[a].P=false) (x:c[a].st≠0) (s:G No wr w2) (k:Obj) (D:w3.ownsRow 0 63 6 v' (eQ d c a+1) ((aQ d (c.take a)).flatMap aX++aX c[a])) (A:(w2.alloc k).grownBy w3 p.ownBlock) (hs:dY (w2.alloc k) p v'):gx q w3 o m cap d num r c v' (a+1):=by
 have u:stay d (c.take (a+1))=stay d (c.take a):=by
  rw[mG d c a hi];unfold jU;rw[if_neg (λj=>by have:=j.2;rw[t] at this;cases this)]
 have w:aQ d (c.take (a+1))=aQ d (c.take a)++[c[a]]:=by
  rw[kD d c a hi,if_pos ⟨x,by rw[t];simp⟩]
 have z:G (λe=>q.heap.size<=e/\e≠o/\e≠m) wr w3:=((s.mono (λ_ _ f=>f.elim)).alloc k).grown A (λe n=>.inl (i.own e n));have H:=i.n.row.lt;have I:=i.n.has.lt;have L:=i.n.mod.size;have J:=(s.alloc k).size;refine⟨by rw[u];exact i.n.step z (λf=>f.2.1 rfl) (λf=>f.2.2 rfl) (λe f=>f.1),?_,λe n=>?_⟩
 ·unfold eQ at *;rw[w,aJ,lG];simpa using D
 ·obtain j|j:=hs e n
  ·exact i.own e j
  ·omega
def j9:Code->List Code
 | .loop c=>.loop c::j9 c
 | .seq a d=>j9 a++j9 d
 | .block _ c=>j9 c
 | .scope c=>j9 c
 | .cond _ a d=>j9 a++j9 d
 |_=>[]
noncomputable def swapLoop(a:Nat):Code:=((j9 (f54.body.getD .skip))[a]?).getD .skip
theorem Ka{p f:O} {e:List B} {af ck:U} {gf ai cw cv R ae cap:Nat} {num ah:Int} (hf:eg af gf ai cw cv p e) (am:L p e) (aE:f.sized=true) (aF:f.limited=true) (ay:Exit->Act->U->Prop) (aH:Hid (gx af ck R ae cap f num ah e (C F 0 0) 0)) (aM bo bB bP b2 dh cG aZ ba bf bh bi bk bl bm bn bp bq bs bt bu bv bw bx bz bA bC bD bE bG bH bJ bL bM bN bO bQ bR bS bT bU bV bW bY bZ b1 b3 b4 cH cI cL cM cN cO cP cQ cR cS cT cV cW cX cY cZ c0 c1 c2 c3 c4 c5 c6 c7 c8 c9 c' da db dd de df dg b5 b6 b7 b8 b9 ca cb cc cd ce cf cg ch ci cj aN aO aQ aR aS aT aU aV aW aY a0 a1 a2 a3 a4 a5 a6 a7 a8 a9 bb bc bd:V)
  (eb:∀(dU d7 dk dl dm dn dp dq dr dt du dv dw dy dz dA dB dC dF dG dH dI dJ dK dL dM dN dO dQ dS dT dV dW dX dY d6:V) (a:Option Addr) (x:Nat) (cl:U),Hid (gx af cl R ae cap f num ah e (C a (eQ f e e.length) x) e.length)->ay (.exit 0) ⟨#[b (E ⟨gf,ai,F⟩),aM,bo,bB,bP,b2,b (E ⟨R,0,F⟩),C a (eQ f e e.length) x,dU,d7,dk,aZ,ba,bf,bh,bi,bk,bl,bm,bn,bp,bq,bs,bt,bu,bv,bw,bx,bz,bA,bC,bD,bE,bG,bH,bJ,bL,bM,bN,bO,bQ,bR,bS,bT,bU,bV,bW,bY,bZ,b1,b3,b4,dl,dm,dn,dp,dq,dr,dt,du,dv,dw,dy,dz,dA,dB,dC,dF,dG,dH,dI,dJ,dK,dL,dM,dN,dO,dQ,dS,dT,dV,dW,dX,dY,d6,b5,b6,b7,b8,b9,ca,cb,cc,cd,ce,cf,cg,ch,ci,cj,aN,aO,aQ,aR,aS,aT,aU,aV,aW,aY,a0,a1,a2,a3,a4,a5,a6,a7,a8,a9,bb,bc,bd],[]⟩ cl):
  Code.wp T (swapLoop 0) ay ⟨#[b (E ⟨gf,ai,F⟩),aM,bo,bB,bP,b2,b (E ⟨R,0,F⟩),C F 0 0,y K 0,dh,cG,aZ,ba,bf,bh,bi,bk,bl,bm,bn,bp,bq,bs,bt,bu,bv,bw,bx,bz,bA,bC,bD,bE,bG,bH,bJ,bL,bM,bN,bO,bQ,bR,bS,bT,bU,bV,bW,bY,bZ,b1,b3,b4,cH,cI,cL,cM,cN,cO,cP,cQ,cR,cS,cT,cV,cW,cX,cY,cZ,c0,c1,c2,c3,c4,c5,c6,c7,c8,c9,c',da,db,dd,de,df,dg,b5,b6,b7,b8,b9,ca,cb,cc,cd,ce,cf,cg,ch,ci,cj,aN,aO,aQ,aR,aS,aT,aU,aV,aW,aY,a0,a1,a2,a3,a4,a5,a6,a7,a8,a9,bb,bc,bd],[]⟩ ck:=by
 conv=>arg 4;dsimp only
 conv=>arg 2;whnf
 have cm:=i hf;have ax:=i am;have ap:=i aE;have aq:=i aF;have cy:e.length<=120:=gF am;obtain⟨cA,cB,cC,cD,cE⟩:=info_parts pY;clear hf am aE aF;go_loopw [7,8] (λcF ao wr=>∃(d:Nat) (a:Option Addr) (x:Nat),ao=y K d/\d<=e.length/\cF=C a (eQ f e d) x/\Hid (gx af wr R ae cap f num ah e (C a (eQ f e d) x) d)) (λ_ ao _=>e.length - (intOf ao).toNat)
 case atStart=>exact⟨0,F,0,rfl,by omega,rfl,aH⟩
 case round=>
  obtain⟨d,a,x,rfl,hi,rfl,n⟩:=hrel;clear aH;have t:=(k cm).mod (k n).n.mod;have fs:=t.slice;by_cases m:d<e.length
  ·have cx:(d:Int)<(e.length:Int):=by omega
   have ea:(0:Int)<=d:=by omega
   have ec:K.wrap ((d:Int)+1)=((d+1:Nat):Int):=by rw[aB _ (by omega) (by omega)];rfl
   have S:=t.row.row d m;have Y:=t.row.P d m;have aa:=t.row.st d m;have Q:=t.row.pa d m;have ab:=t.row.cl d m;have ad:=t.row.un d m;obtain⟨c,hs⟩:∃c,e[d]=c:=⟨_,rfl⟩;rw[hs] at S Y aa Q ab ad;have w:=i ((G.refl No wr).alloc (v #[y K c.row,y K c.P,y K c.st,y K c.pa,y K c.cl,y K c.un] 63));have N:=i (X.new wr #[y K c.row,y K c.P,y K c.st,y K c.pa,y K c.cl,y K c.un] 63);have d9:=i hs
   cases r:f.has c.row c.P with
   |true=>
    have M:=i λo (q:G No wr o)=>sE ((k n).n.still q).AL ((k n).n.wf) c.row c.P r;obtain⟨aj,_⟩:=AK (k ax) (k ap) (k aq) d m (by rw[hs];exact r);rw[hs] at aj;have au:=i λo (q:G No wr o)=>((k n).still q).lay (k ax) (k ap) (k aq) m (by rw[hs];exact r) c hs;have av:=i λo (q:G No wr o)=>((k n).n.still q);have hlen:(stay f (e.take d)).length=th f e d:=rfl
    have ee:(f.idx c.row c.P:Int)<(th f e d:Nat):=by rw[<-hlen];omega
    have ef:th f e d<=120:=gF (k n).n.wf;have ed:(0:Int)<=(f.idx c.row c.P:Nat):=by omega
    generalize f.idx c.row c.P=H at *;have J:=i aj;have z:=i (AM (Q:=f) m (by rw[hs,r];simp));clear hs r aj hlen;have d8:=i n;clear t;go_wp2_with fail;refine((k M) _ (k w)).mono ?_;rintro aD j ⟨rfl,s⟩;have A:=i ((k w).trans s);have P:=i (s.has (k N) (λI=>I));clear S Y aa Q ab ad fs s;generalize wr.heap.size=aL at *;have aA:=(k P).cell;have ei:=(k P).lt;have u:=(k av) j (k A)
    have ej:j.cell? ⟨R,8,F⟩=E (C (E ⟨ae,0,F⟩) (th f e d) cap):=u.has.cell 8;have ek:=u.row.gm;have d0:=u.row.row H (k J);have d1:=u.row.P H (k J);have d2:=u.row.st H (k J);have d3:=u.row.pa H (k J);have d4:=u.row.cl H (k J);have d5:=u.row.un H (k J);generalize (stay f (e.take d))[H]'(k J)=I at *;have el:=u.row.lt;clear u M av N w;have co:=i ((k au) j (k A));clear au A;go_wp2
    exact⟨⟨d+1,a,x,rfl,by omega,by rw[k z],by rw[k z];exact k co⟩,by simp[intOf];omega⟩
   |false=>
    have M:=i λo (q:G No wr o)=>sF ((k n).n.still q).AL ((k n).n.wf) c.row c.P r;clear t;by_cases D:c.st=0
    ·have z:=i (AM (Q:=f) m (by rw[hs,D];simp));have aw:=i λo (q:G No wr o)=>((k n).still q).pass m (by rw[hs];exact r) (by rw[hs];exact D);have hd:(c.st !=0)=false:=by simp[D]
     clear hs r D;go_wp2_with fail;refine((k M) _ (k w)).mono ?_;rintro aD j ⟨rfl,s⟩;have A:=i ((k w).trans s);have P:=i (s.has (k N) (λI=>I));clear S Y aa Q ab ad fs s;generalize wr.heap.size=aL at *;have aA:=(k P).cell;have ct:=i ((k aw) _ (k A));clear M aw N w;go_wp2;exact⟨⟨d+1,a,x,rfl,by omega,by rw[k z],by rw[k z];exact k ct⟩,by simp[intOf];omega⟩
    ·have z:=i (J' (Q:=f) m (by rw[hs,r];exact⟨D,by simp⟩));have eh:eQ f e d<=120:=bF (AO f e d) cy;have ag:=i λ(j w3:U) (v':V) (cz:G No wr j)=>(k n).leave (w2:=j) (w3:=w3) (v':=v') m (by rw[hs];exact r) (by rw[hs];exact D) cz (v #[y K c.row,y K c.P,y K c.st,y K c.pa,y K c.cl,y K c.un] 63);rw[hs] at ag;have hd:(c.st !=0)=true:=by simp[D]
     have ar:=i λo (q:G No wr o)=>q.owns (k n).home (λ_ _ I=>I);clear hs r D;go_wp2_with fail;refine((k M) _ (k w)).mono ?_;rintro aD j ⟨rfl,s⟩;have A:=i ((k w).trans s);have P:=i (s.has (k N) (λI=>I));clear S Y aa Q ab ad fs s;generalize wr.heap.size=aL at *;have aA:=(k P).cell;have cn:=i λ(w3:U) (v':V)=>(k ag) j w3 v' (k A)
     have cp:=i ((k ar) _ ((k A).alloc (v #[y K c.row,y K c.P,y K c.st,y K c.pa,y K c.cl,y K c.un] 63)))
     have cq:=i (show Reads (j.alloc (v #[y K c.row,y K c.P,y K c.st,y K c.pa,y K c.cl,y K c.un] 63)) (C (E ⟨j.heap.size,0,F⟩) 1 1) 1 (aX c) from
      .inr ⟨⟨j.heap.size,0,F⟩,1,rfl,λH di hu=>by
       rw[dx,bg,(X.new j #[y K c.row,y K c.P,y K c.st,y K c.pa,y K c.cl,y K c.un] 63).cell,<-dE]
       exact hu⟩)
     clear M ag ar N w
     go_wp2_with (at_builtin;refine eI rfl (.tmp 81) (.tmp 83) 61 rfl 63 cA _ 6 48 nW cB cC cD cE rfl (by decide) (C a (eQ f e d) x) (eQ f e d) _ (by simp[Z]) (by exact k cp) (C (E ⟨j.heap.size,0,F⟩) 1 1) 1 (aX c) (by simp[Z]) (by exact k cq) rfl (by intro di hu;simp[aX,dc] at hu;obtain rfl|rfl|rfl|rfl|rfl|rfl:=hu<;>rfl) (by unfold maxLen;omega) (by omega) ?_;intro v' w3 ak aI aK;obtain⟨cu,Q,rfl⟩:=aC ak;have cr:=i ((k cn) w3 _ ak aI aK);clear ak aI aK)
     exact⟨⟨d+1,cu,Q,rfl,by omega,by rw[k z],by rw[k z];exact k cr⟩,by simp[intOf];omega⟩
  ·have cx:¬(d:Int)<(e.length:Int):=by omega
   obtain rfl:d=e.length:=by omega
   clear t;go_wp2
theorem vK{i:U} {a:Option Addr} {e:Nat} {c:List B} (f:i.ownsRow 0 63 6 (C a c.length e) c.length (c.flatMap aX)) (p:0<c.length):∃d,a=E ⟨d,0,F⟩/\aE i d e c:=by
 obtain⟨_,o|⟨d,cap,m,hv,_⟩⟩:=id f
 ·omega
 ·injection hv with j n k;subst j k;exact⟨d,rfl,(tW f).2⟩
structure iD (w wr:U) (j8 g cap:Nat) (Q:O) (num ep:Int) (acc0 hs:List B) (v:V) (n:Nat):Prop where
 ji:fQ w wr j8 g cap Q num ep (bW acc0 hs n)
 jZ:gY Q (bW acc0 hs n) (hs.length - n)
 home:wr.ownsRow 0 63 6 v hs.length (hs.flatMap aX)
 own:∀k,v.ownBlock=E k->w.heap.size<=k/\k≠j8/\k≠g
theorem iD.still{n wr w2:U} {k f cap:Nat} {c:O} {num e:Int} {d hs:List B} {m:V} {j:Nat} (a:iD n wr k f cap c num e d hs m j) (i:G No wr w2):iD n w2 k f cap c num e d hs m j:=
 ⟨a.ji.still i,a.jZ,i.owns a.home (λ_ _ o=>o),a.own⟩
theorem iD.free{m wr:U} {j f cap:Nat} {d:O} {num e:Int} {c hs:List B} {k:V} {a:Nat} (i:iD m wr j f cap d num e c hs k a) (n:a<hs.length):firstFree (bW c hs a)<(bW c hs a).length:=
 rN (n:=hs.length - a - 1) (by rw[show hs.length - a - 1+1=hs.length - a by omega];exact i.jZ)
theorem iD.next{D wr:U} {z f cap:Nat} {o:O} {num u:Int} {e hs:List B} {A:V} {a:Nat} (k:iD D wr z f cap o num u e hs A a) (N:∀i∈hs,i.wf/\i.st≠0) (w:a<hs.length) (i:B) (M:hs[a]=i) (d:Nat) (m:firstFree (bW e hs a)=d) (n:d<(bW e hs a).length) (r:B) (P:(bW e hs a)[d]=r):
  iD D ((((((((wr.setCell ⟨f,d* 6,F⟩ (y K i.row)).setCell ⟨f,d* 6+1,F⟩ (y K i.P)).setCell ⟨f,d* 6+2,F⟩ (y K i.st)).setCell ⟨f,d* 6+3,F⟩ (y K i.pa)).setCell ⟨f,d* 6+4,F⟩ (y K i.cl)).setCell ⟨f,d* 6+5,F⟩ (y K i.un)).setCell ⟨f,d* 6,F⟩ (y K r.row)).setCell ⟨f,d* 6+1,F⟩ (y K r.P)) z f cap o num u e hs A (a+1):=by
 subst m P M;have x:=N _ (dD w);have L:gY o (bW e hs a) ((hs.length - (a+1))+1):=by rw[show hs.length - (a+1)+1=hs.length - a by omega];exact k.jZ
 have q:=gY.step L x.1 x.2;have t:bW e hs (a+1)=bQ (bW e hs a) hs[a]:=by
  unfold bW;rw[sj w]
 have s:bW e hs (a+1)=(bW e hs a).set (firstFree (bW e hs a)) (B.at hs[a] (bW e hs a)[firstFree (bW e hs a)]):=by
  rw[t];unfold bQ;rw[nT,cK n];rfl
 rw[<-t] at q;have j:=k.ji;generalize Q:bW e hs a=c at *;have I:=(j.row.iW (firstFree c) n hs[a]);have J:=(I.put n 0 (by omega) (y K c[firstFree c].row) ⟨c[firstFree c].row,hs[a].P,hs[a].st,hs[a].pa,hs[a].cl,hs[a].un⟩ rfl).put n 1 (by omega) (y K c[firstFree c].P) (B.at hs[a] c[firstFree c]) rfl
 have p:=(((G.refl (λd=>d=f) wr).iW rfl (firstFree c) (y K hs[a].row) (y K hs[a].P) (y K hs[a].st) (y K hs[a].pa) (y K hs[a].cl) (y K hs[a].un)).setCell (p:=⟨f,firstFree c* 6,F⟩) (.inl rfl) (y K c[firstFree c].row)).setCell (p:=⟨f,firstFree c* 6+1,F⟩) (.inl rfl) (y K c[firstFree c].P)
 refine⟨⟨?_,?_,q.wf,j.ne,j.new,j.mod.trans' p (λd m hl=>by have:=j.new.2;omega)⟩,q,p.owns k.home (λd m H=>(k.own d m).2.2 H),k.own⟩
 ·have:=p.has j.has j.ne;rw[s,iU];exact this
 ·rw[s];exact J
theorem Kb{cj e:U} {j q cap c:Nat} {b2:O} {num b3:Int} {d hs:List B} {ci:V} (b8:c<hs.length) (u:Exit->Act->U->Prop) (f:Hid (iD cj e j q cap b2 num b3 d hs ci c)) (w x av aK aW a7 bw bL bY z Q ak am ao ap aq ar au aw ax ay aA aC aD aE aF aH aI aL aM aN aO aQ aR aS aT aU aV aX aY aZ a0 a1 a2 a3 a4 a5 a6 a8 a9 ba bb bc bd bf bh bi bk bl bm bn bo bp bq bs bt bu bv bx bz bA bB bC bD bE bG bH bJ bM bN bO bP bQ bR bS bT bU bV bZ b9 ca cb cc cd ce cf cg ch A D G H I J L M N P R S X Y aa ab ad ae af ag ah ai aj:V)
  (b4:∀(ck cl cm cn co cp cq cr ct:V),u (.exit 4) ⟨#[w,x,av,aK,aW,a7,b (E ⟨j,0,F⟩),bw,bL,bY,z,Q,y K (firstFree (bW d hs c):Nat),ak,am,ao,ap,aq,ar,au,aw,ax,ay,aA,aC,aD,aE,aF,aH,aI,aL,aM,aN,aO,aQ,aR,aS,aT,aU,aV,aX,aY,aZ,a0,a1,a2,a3,a4,a5,a6,a8,a9,ba,bb,bc,bd,bf,bh,bi,bk,bl,bm,bn,bo,bp,bq,bs,bt,bu,bv,bx,bz,bA,bB,bC,bD,bE,bG,bH,bJ,bM,bN,bO,bP,bQ,bR,bS,bT,bU,bV,bZ,ck,cl,cm,cn,co,cp,cq,cr,ct,A,D,G,H,I,J,L,M,N,P,R,S,X,Y,aa,ab,ad,ae,af,ag,ah,ai,aj],[]⟩ e):
  Code.wp T (swapLoop 2) u ⟨#[w,x,av,aK,aW,a7,b (E ⟨j,0,F⟩),bw,bL,bY,z,Q,y K 0,ak,am,ao,ap,aq,ar,au,aw,ax,ay,aA,aC,aD,aE,aF,aH,aI,aL,aM,aN,aO,aQ,aR,aS,aT,aU,aV,aX,aY,aZ,a0,a1,a2,a3,a4,a5,a6,a8,a9,ba,bb,bc,bd,bf,bh,bi,bk,bl,bm,bn,bo,bp,bq,bs,bt,bu,bv,bx,bz,bA,bB,bC,bD,bE,bG,bH,bJ,bM,bN,bO,bP,bQ,bR,bS,bT,bU,bV,bZ,b9,ca,cb,cc,cd,ce,cf,cg,ch,A,D,G,H,I,J,L,M,N,P,R,S,X,Y,aa,ab,ad,ae,af,ag,ah,ai,aj],[]⟩ e:=by
 conv=>arg 4;dsimp only
 conv=>arg 2;whnf
 have b5:=(k f).free b8;have cz:(bW d hs c).length<=120:=gF (k f).ji.wf
 have b1:=i (show ∀(a:Nat),a<(bW d hs c).length->∃st:Int,e.cell? ⟨q,a* 6+2,F⟩=E (y K st)/\(a<firstFree (bW d hs c)->st≠0)/\(a=firstFree (bW d hs c)->st=0) from λa s=>
  ⟨_,(k f).ji.row.st a s,λr=>DW r s,λr=>by subst r;exact rO b5⟩)
 have cy:e.cell? ⟨j,8,F⟩=E (C (E ⟨q,0,F⟩) (bW d hs c).length cap):=(k f).ji.has.cell 8;generalize firstFree (bW d hs c)=m at *;generalize (bW d hs c).length=n at *;go_loopw [12] (λt wr=>∃a:Nat,t=y K a/\a<=m/\wr=e) (λt _=>n - (intOf t).toNat)
 case atStart=>exact⟨0,rfl,by omega,rfl⟩
 case round=>
  obtain⟨a,rfl,s,rfl⟩:=hrel;have b7:a<n:=by omega
  have cx:(a:Int)<(n:Int):=by omega
  have cv:(0:Int)<=a:=by omega
  have cw:K.wrap ((a:Int)+1)=((a+1:Nat):Int):=by rw[aB _ (by omega) (by omega)];rfl
  obtain⟨st,cu,o,p⟩:=(k b1) a b7;by_cases b6:a<m
  ·have hd:(st !=0)=true:=by simpa using o b6
   clear o p;go_wp2;exact⟨⟨a+1,rfl,by omega,by trivial⟩,by simp[intOf];omega⟩
  ·obtain rfl:a=m:=by omega
   have hd:(st !=0)=false:=by simpa using p rfl
   clear o p;go_wp2;apply b4
end Go.Proofs.YthhibagcpjeihaaGreat
