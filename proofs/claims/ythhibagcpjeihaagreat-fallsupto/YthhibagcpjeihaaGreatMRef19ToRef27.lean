import Derived.Test.YthhibagcpjeihaaGreatMRef14ToRef18
import Derived.Test.YthhibagcpjeihaaGreatMPg1ToWr5
import Derived.Deep.DeepCutAuto
import Derived.Deep.RegionLawGrows
import Derived.Deep.CutBlock
open Go.Proofs.Tryz
open Go.Value renaming int->y,pointer->b,slice->C,agg->l,ownBlock->az
open Go.IntKind renaming i64->K
open Option renaming none->F,some->E
open Go renaming World->U,Value->V
open Go.Proofs.Tryz renaming prog->T,underlying61->nW,underlying70->oB
open Go.Ending renaming returned->g
open Go.Obj renaming cells->v
open Nat renaming lt_of_lt_of_le->aG,zero_add->bg,le_refl->bK,not_lt_zero->dZ,zero_le->fJ
open Go.Act renaming eval->Z,put->aP
open List renaming eq_nil_of_length_eq_zero->fS,length_take->dj,getElem?_take->lj,length_drop->lX,getElem_append_right->qI,getElem_append_left->qK,getElem_take->oy
open Array renaming getElem?_toList->dE
open Go.World renaming ownsRow_nil->cJ,size_setCell->kx
open Go.Addr renaming add_mid->dx
open Go.Region renaming wanted->gM
open Go.Oper renaming wp->eT
namespace Go.Proofs.YthhibagcpjeihaaGreat
open Go.RowKit
open M
set_option linter.unusedVariables false
set_option linter.unusedSimpArgs false
set_option maxRecDepth 100000
set_option maxHeartbeats 4000000
def bS(a:e):List V:=(aV a).toList
theorem kN(a:e):(bS a).length=10:=rfl
theorem z'{f:U} {d n cap:Nat} {c:List e} (m:f.ownsRow 0 134 10 (C (E ⟨d,0,F⟩) n cap) c.length (c.flatMap bS)):n=c.length/\dn f d cap c:=by
 obtain⟨B,o|⟨A,z,i,hv,hb,p,s,r,t,u⟩⟩:=m
 ·exact absurd o.1 (by simp)
 ·injection hv with a j k;injection a with a;injection a with a;subst a j k;refine⟨rfl,⟨i,p,t,λw hi x q=>?_⟩,s,r⟩;have:=nK 10 (by omega) bS kN c w hi x q;rw[<-u,lj,if_pos (by omega)] at this;rw[<-dE,this];simp[bS]
theorem Ja{j:U} {d cap:Nat} {a:List e} (f:dn j d cap a):j.ownsRow 0 134 10 (C (E ⟨d,0,F⟩) a.length cap) a.length (a.flatMap bS):=by
 obtain⟨k,n,o,p⟩:=f.cur;refine⟨kj 10 bS kN a,.inr ⟨d,cap,k,rfl,fJ _,n,f.le,f.max,o,?_⟩⟩;apply List.ext_getElem?;intro c;rw[lj];by_cases i:c<a.length* 10
 ·rw[if_pos i];have hi:c / 10<a.length:=by omega
  have m:c=c / 10* 10+c % 10:=by omega
  rw[m,nK 10 (by omega) bS kN a (c / 10) hi (c % 10) (by omega),dE,p _ hi _ (by omega)];simp[bS]
 ·rw[if_neg i,List.getElem?_eq_none (by rw[kj 10 bS kN];omega)]
theorem Aa{i:U} {f:Nat->Nat} {n:Nat} {d:V} {xs:List e} {now:Int} (j:aF i f n d xs now):i.ownsRow 0 134 10 d xs.length (xs.flatMap bS)/\∀c,d.ownBlock=E c->f c=2:=by
 obtain⟨rfl,rfl⟩|⟨o,cap,rfl,k,m⟩:=j.jk
 ·exact⟨by simpa using cJ _ _ _ _,λc a=>by simp[az] at a⟩
 ·exact⟨Ja k,λc a=>by simp[az] at a;rw[<-a];exact m⟩
structure oA (w wx:U) (cb:Nat) (xs:List e) (now:Int) (i:Nat) (v:V) (ys:List e) (ow:Nat->Nat):Prop where
 aR:aF wx ow cb v ys now
 new:∀k,ow k≠0->w.heap.size<=k
 len:ys.length=i
 same:∀j (h:j<ys.length) (h':j<xs.length),ys[j].f=xs[j].f
 mod:G No w wx
theorem Jb{ah o w3 w4:U} {m c s c3:Nat} {xs ys:List e} {now:Int} {P v2:V} {q:Nat->Nat} {a3:Option Addr} (f:oA ah o m xs now c P ys q) (hi:c<xs.length) (aL:xs.length<=20) (N:L xs[c].f.p xs[c].f.S) (ap:s=xs[c].f.S.length) (J:w3.ownsRow 0 63 6 (C a3 s c3) s (xs[c].f.S.flatMap aX)) (am:(o.alloc (v (aV xs[c]) 134)).grownBy w3 (C F 0 0).ownBlock) (aq:dY (o.alloc (v (aV xs[c]) 134)) (C F 0 0) (C a3 s c3))
  (D:Obj) (ar:∀d,a3=E ⟨d,0,F⟩->w4.ownsRow 0 134 10 v2 (c+1) (ys.flatMap bS++bS ⟨xs[c].f,d,c3⟩)) (A:((w3.setCell ⟨o.heap.size,8,F⟩ (C a3 s c3)).alloc D).drew.grownBy w4 P.ownBlock) (ae:dY ((w3.setCell ⟨o.heap.size,8,F⟩ (C a3 s c3)).alloc D).drew P v2):∃aK aB,oA ah (w4.setCell ⟨m,0,F⟩ v2) m xs now (c+1) v2 aK aB:=by
 have aT:0<xs[c].f.S.length:=by
  have i:=N.len;obtain⟨Q,_,R,_⟩:=aM.wf.bounds N;have i:(xs[c].f.S.length:Int)=xs[c].f.p.rows* xs[c].f.p.w:=i;have Q:1<=xs[c].f.p.rows:=Q;have R:1<=xs[c].f.p.w:=R;have:0<xs[c].f.p.rows* xs[c].f.p.w:=Int.mul_pos (by omega) (by omega);omega
 obtain⟨d,rfl⟩:∃d,a3=E ⟨d,0,F⟩:=by
  obtain⟨_,i|⟨H,cap,ai,hv,_⟩⟩:=J
  ·omega
  ·injection hv with aj;exact⟨H,aj⟩
 rw[ap] at J A ae;have ad:=(tW J).2;have aR:o.heap.size<d:=by
  obtain i|i:=aq d rfl
  ·simp[az] at i
  ·simp at i;omega
 have aO:=ad.lt;have av:G No o w3:=((G.refl No o).alloc _).grown am (by simp[az]);have aw:G No o (w3.setCell ⟨o.heap.size,8,F⟩ (C (E ⟨d,0,F⟩) xs[c].f.S.length c3)):=av.setCell (.inr (bK _)) _;obtain⟨aS,M⟩:=Aa f.aR;have O:G (λa=>q a=2) o w4:=by
  refine((aw.mono (S':=λa=>q a=2) (λ_ _ aI=>aI.elim)).alloc D).drew.grown A (λa p=>.inl ?_);exact M a p
 have I:q m=1:=f.aR.aW;have aN:=f.aR.has.lt;have aa:=ar d rfl;obtain⟨k,u,au⟩:∃k u,v2=C (E ⟨k,0,F⟩) (c+1) u:=by
  obtain⟨_,i|⟨H,cap,ai,hv,_⟩⟩:=aa
  ·omega
  ·exact⟨H,cap,hv⟩
 subst au;have hy:(ys++[(⟨xs[c].f,d,c3⟩:e)]).length=c+1:=by simp[f.len]
 have ab:dn w4 k u (ys++[⟨xs[c].f,d,c3⟩]):=by
  have:=aa;rw[<-hy] at this;refine(z' (n:=(ys++[(⟨xs[c].f,d,c3⟩:e)]).length) ?_).2;simpa using this
 have aW:o.heap.size<w3.heap.size:=by omega
 have B:q k=2\/w3.heap.size<=k:=by
  obtain i|i:=ae k rfl
  ·exact .inl (M k i)
  ·right;simp at i;omega
 have X:k≠m:=by
  rintro rfl;obtain i|i:=B<;>omega
 have ak:k≠d:=by
  rintro rfl;obtain i|i:=B
  ·have:=f.aR.aU k (by omega);omega
  ·omega
 have Y:∀j (r:j<(ys++[(⟨xs[c].f,d,c3⟩:e)]).length),j<c\/j=c:=λj r=>by rw[hy] at r;omega
 have S:d≠m:=by omega
 have ag:q d=0:=by
  by_cases n:q d=0
  ·exact n
  ·have:=f.aR.aU d n;omega
 refine⟨ys++[⟨xs[c].f,d,c3⟩],λa=>if a=d then c+3 else if a=k then 2 else q a,⟨?_,?_,?_,?_,?_,?_⟩,λa p=>?_,hy,λj r ao=>?_,?_⟩
 ·exact(O.has f.aR.has (by rw[I];omega)).set 0 _
 ·refine .inr ⟨k,u,by rw[hy],ab.mod (S:=λa=>a=m) ((G.refl (λa=>a=m) w4).setCell (p:=⟨m,0,F⟩) (.inl rfl) _) X,?_⟩;simp[ak]
 ·simp[S.symm,X.symm,I]
 ·intro a p;have aU:w3.heap.size<=w4.heap.size:=by
   have:=A.size;simp at this;omega
  simp only[kx];by_cases n:a=d
  ·omega
  ·by_cases w:a=k
   ·rw[w];exact ab.lt
   ·simp only[if_neg n,if_neg w] at p;have:=f.aR.aU a p;omega
 ·intro j r;have af:G (λa=>a=m) w4 (w4.setCell ⟨m,0,F⟩ (C (E ⟨k,0,F⟩) (c+1) u)):=(G.refl (λa=>a=m) w4).setCell (p:=⟨m,0,F⟩) (.inl rfl) _;obtain n|n:=Y j r
  ·have x:j<ys.length:=by rw[f.len];exact n
   rw[qK x];obtain⟨aF,t,aH⟩:=f.aR.S j x;have ax:ys[j].g≠d:=λz=>by rw[z,ag] at t;omega
   have ay:ys[j].g≠k:=λz=>by
    obtain i|i:=B
    ·rw[z,i] at t;omega
    ·have:=f.aR.aU ys[j].g (by rw[t];omega);omega
   have aA:ys[j].g≠m:=λz=>by rw[z,I] at t;omega
   refine⟨(aF.mod O (by rw[t];omega)).mod af aA,by simp[ax,ay,t],aH⟩
  ·subst n;have aQ:¬j<ys.length:=by rw[f.len];omega
   rw[qI (by omega)];simp only[f.len,Nat.sub_self,List.getElem_cons_zero];have aC:aE (w3.setCell ⟨o.heap.size,8,F⟩ (C (E ⟨d,0,F⟩) xs[j].f.S.length c3)) d c3 xs[j].f.S:=ad.Em (by show d≠o.heap.size;omega) _;have aD:aE w4 d c3 xs[j].f.S:=aC.mod (S:=λa=>q a=2) (((G.refl (λa=>q a=2) _).alloc D).drew.grown A (λa p=>.inl (M a p))) (by rw[ag];omega);exact⟨aD.mod af S,by simp,N⟩
 ·rw[hy];omega
 ·by_cases n:a=d
  ·have:=f.mod.size;omega
  ·by_cases w:a=k
   ·have:=f.mod.size;obtain i|i:=B
    ·rw[w];exact f.new k (by omega)
    ·omega
   ·simp only[if_neg n,if_neg w] at p;exact f.new a p
 ·obtain n|n:=Y j r
  ·have x:j<ys.length:=by rw[f.len];exact n
   rw[qK x];exact f.same j x ao
  ·subst n;rw[qI (by rw[f.len];omega)];simp[f.len]
 ·refine(f.mod.trans' O (λa p hl=>?_)).setCell (.inr ?_) _
  ·have:=f.new a (by omega);omega
  ·exact f.new m (by omega)
set_option maxHeartbeats 8000000
theorem vB:(T.info? 134).map (λa=>(a.zero,a.size,a.bytes))=E (E (l #[y K 0,y K 0,y K 0,y K 0,y K 0,y K 0,y K 0,y K 0,C F 0 0,y K 0]),10,96):=by kernel_rfl
theorem Jc(c:List B):∀a∈c.flatMap aX,a.oneCell'=true:=by
 intro a hu;obtain⟨d,_,hs⟩:=List.mem_flatMap.1 hu;simp[aX,dc] at hs;obtain rfl|rfl|rfl|rfl|rfl|rfl:=hs<;>rfl
theorem sW(a:U) (now:Int) (xs:List e):oA a (a.alloc (v #[C F 0 0,y K now] 72)) a.heap.size xs now 0 (C F 0 0) [] (λc=>if c=a.heap.size then 1 else 0):=by
 refine⟨⟨X.new a _ _,.inl ⟨rfl,rfl⟩,if_pos rfl,λc f=>?_,λj hi=>absurd hi (dZ _),by simp⟩,λc f=>?_,rfl,λk i=>absurd i (dZ _),(G.refl No a).alloc _⟩
 ·by_cases d:c=a.heap.size
  ·simp[d]
  ·exact absurd (if_neg d) f
 ·by_cases d:c=a.heap.size
  ·omega
  ·exact absurd (if_neg d) f
theorem Jd{p:U} {aZ:Nat->Nat} {Q gf cap:Nat} {xs:List e} {now:Int} (q:aF p aZ Q (C (E ⟨gf,0,F⟩) xs.length cap) xs now) (ah:0<xs.length):Calls T 26 #[b (E ⟨Q,0,F⟩)] p λs w'=>∃u ys t,s=g (b (E ⟨p.heap.size,0,F⟩))/\oA p w' p.heap.size xs now xs.length u ys t:=by
 have hc:=q.has.cell;have ap:=i q;have bh:=q.dU;have ad:=i (sW p now xs);obtain⟨aY,aj⟩:=q.parts rfl ah;have ax:=i aj;have av:=i q.has;clear q aj aY ah;obtain⟨aU,a0,a1,a2,a3⟩:=info_parts pY;obtain⟨aW,a4,a5,a6,a7⟩:=info_parts vB;go_enter func26,ntmps26;go_wp2_with fail;generalize bo:p.heap.size=r at *
 go_loopw [4] (λO wr=>∃a:Nat,O=y K a/\a<=xs.length/\∃u ys t,Hid (oA p wr r xs now a u ys t)) (λO _=>xs.length - (intOf O).toNat)
 case atStart=>exact⟨0,rfl,by omega,_,_,_,ad⟩
 case round=>
  obtain⟨a,rfl,hi,u,ys,t,f⟩:=hrel;clear ad hc;have a8:wr.cell? ⟨Q,0,F⟩=E (C (E ⟨gf,0,F⟩) xs.length cap):=((k f).mod.has (k av) (λn=>n)).cell 0;by_cases j:a<xs.length
  ·have aS:(a:Int)<(xs.length:Int):=by omega
   have bl:(0:Int)<=a:=by omega
   have bq:K.wrap ((a:Int)+1)=((a+1:Nat):Int):=by rw[aB _ (by omega) (by omega)];rfl
   have m:=(k ax).mod (k f).mod (λn=>n);have aA:wr.cell? ⟨gf,a* 10,F⟩=E (y K xs[a].f.num):=m.cell a j 0 (by omega);have aD:wr.cell? ⟨gf,a* 10+1,F⟩=E (y K xs[a].f.p.rows):=m.cell a j 1 (by omega);have aE:wr.cell? ⟨gf,a* 10+2,F⟩=E (y K xs[a].f.p.w):=m.cell a j 2 (by omega);have aH:wr.cell? ⟨gf,a* 10+3,F⟩=E (y K xs[a].f.p.front):=m.cell a j 3 (by omega)
   have aI:wr.cell? ⟨gf,a* 10+4,F⟩=E (y K xs[a].f.p.I):=m.cell a j 4 (by omega);have aK:wr.cell? ⟨gf,a* 10+5,F⟩=E (y K xs[a].f.p.R):=m.cell a j 5 (by omega);have aL:wr.cell? ⟨gf,a* 10+6,F⟩=E (y K xs[a].f.p.n):=m.cell a j 6 (by omega);have aM:wr.cell? ⟨gf,a* 10+7,F⟩=E (y K xs[a].f.p.f):=m.cell a j 7 (by omega)
   have aN:wr.cell? ⟨gf,a* 10+8,F⟩=E (C (E ⟨xs[a].g,0,F⟩) xs[a].f.S.length xs[a].cap):=m.cell a j 8 (by omega);have aO:wr.cell? ⟨gf,a* 10+9,F⟩=E (y K xs[a].f.ep):=m.cell a j 9 (by omega);obtain⟨ak,os,wf⟩:=(k ap).S a j;have bt:xs[a].f.S.length<=120:=gF wf;have am:=ak.mod (k f).mod (λn=>n);have ao:=am.mod ((G.refl No wr).alloc (v (aV xs[a]) 134)) (λn=>n);have ab:=i (mn (CA ao))
   have aa:=i (Jc xs[a].f.S);have S:=i (kj 6 aX pX xs[a].f.S);have ay:=i wf;have w:=i (X.new wr (aV xs[a]) 134);have z:=Aa (k f).aR;rw[(k f).len] at z;obtain⟨J,L,rfl⟩:=aC z.1;have H:=i z;have D:=i ((k f).aR.has.alloc (v (aV xs[a]) 134));have a9:=(k f).aR.has.lt;have af:=i λ(w3 B:U) (c:Option Addr) (d:Nat) (A:V)=>Jb (w3:=w3) (w4:=B) (a3:=c) (c3:=d) (v2:=A) (k f) j (by omega) wf rfl
   clear m ak os wf am ao z;unfold aV at *
   go_wp2_with (first|(at_builtin;refine eI rfl (.tmp 29) (.tmp 31) 61 rfl 63 aU _ 6 48 nW a0 a1 a2 a3 rfl (by decide) (C F 0 0) 0 [] (by simp[Z]) (by exact cJ _ _ _ _) (C (E ⟨xs[a].g,0,F⟩) xs[a].f.S.length xs[a].cap) xs[a].f.S.length (xs[a].f.S.flatMap aX) (by simp[Z]) (by exact k ab) (k S) (k aa) (by unfold maxLen;omega) (by omega) ?_;intro v' w3 x o N;obtain⟨c,d,rfl⟩:=aC x;have bf:=(X.grown (k w) o (by simp[az])).cell;have bi:=(X.grown (k w) o (by simp[az])).frozen;have bc:w3.cell? ⟨r,0,F⟩=E (C J a L):=(X.grown (k D) o (by simp[az])).cell 0;have bd:=(X.grown (k D) o (by simp[az])).frozen;have bw:=(X.grown (k w) o (by simp[az])).lt))
   rw[bg,List.nil_append] at x;simp only[bg] at N;have bv:r<w3.heap.size:=by omega
   have ae:G No wr (w3.setCell ⟨wr.heap.size,8,F⟩ (C c xs[a].f.S.length d)):=(((G.refl No wr).alloc _).grown o (by simp[az])).setCell (.inr (bK _)) _
   have I:G No wr (((w3.setCell ⟨wr.heap.size,8,F⟩ (C c xs[a].f.S.length d)).alloc (v #[y K xs[a].f.num,y K xs[a].f.p.rows,y K xs[a].f.p.w,y K xs[a].f.p.front,y K xs[a].f.p.I,y K xs[a].f.p.R,y K xs[a].f.p.n,y K xs[a].f.p.f,C c xs[a].f.S.length d,y K xs[a].f.ep] 134)).drew):=(ae.alloc _).drew;have ar:=i (I.owns (k H).1 (λ_ _ n=>n))
   have au:=i (show Reads (((w3.setCell ⟨wr.heap.size,8,F⟩ (C c xs[a].f.S.length d)).alloc (v #[y K xs[a].f.num,y K xs[a].f.p.rows,y K xs[a].f.p.w,y K xs[a].f.p.front,y K xs[a].f.p.I,y K xs[a].f.p.R,y K xs[a].f.p.n,y K xs[a].f.p.f,C c xs[a].f.S.length d,y K xs[a].f.ep] 134)).drew) (C (E ⟨w3.heap.size,0,F⟩) 1 1) 1 [y K xs[a].f.num,y K xs[a].f.p.rows,y K xs[a].f.p.w,y K xs[a].f.p.front,y K xs[a].f.p.I,y K xs[a].f.p.R,y K xs[a].f.p.n,y K xs[a].f.p.f,C c xs[a].f.S.length d,y K xs[a].f.ep] from
    .inr ⟨⟨w3.heap.size,0,F⟩,1,rfl,λbu P hu=>by
     have ag:=(X.new (w3.setCell ⟨wr.heap.size,8,F⟩ (C c xs[a].f.S.length d)) #[y K xs[a].f.num,y K xs[a].f.p.rows,y K xs[a].f.p.w,y K xs[a].f.p.front,y K xs[a].f.p.I,y K xs[a].f.p.R,y K xs[a].f.p.n,y K xs[a].f.p.f,C c xs[a].f.S.length d,y K xs[a].f.ep] 134).drew
     rw[kx] at ag
     rw[dx,bg,ag.cell,<-dE]
     exact hu⟩)
   have R:=i (I.has (k f).aR.has (λn=>n))
   have Y:=i (show E r≠(C J a L).ownBlock from λs=>by
    have bn:=(k H).2 r s.symm
    have bm:=(k f).aR.aW
    omega)
   have aw:=i λ(B:U) (A:V)=>(k af) w3 B c d A x o N (v #[y K xs[a].f.num,y K xs[a].f.p.rows,y K xs[a].f.p.w,y K xs[a].f.p.front,y K xs[a].f.p.I,y K xs[a].f.p.R,y K xs[a].f.p.n,y K xs[a].f.p.f,C c xs[a].f.S.length d,y K xs[a].f.ep] 134)
   have aq:=i (show ∀P∈([y K xs[a].f.num,y K xs[a].f.p.rows,y K xs[a].f.p.w,y K xs[a].f.p.front,y K xs[a].f.p.I,y K xs[a].f.p.R,y K xs[a].f.p.n,y K xs[a].f.p.f,C c xs[a].f.S.length d,y K xs[a].f.ep]:List V),P.oneCell'=true from by
    intro P hu
    simp at hu
    obtain rfl|rfl|rfl|rfl|rfl|rfl|rfl|rfl|rfl|rfl:=hu<;>rfl)
   clear ae I af x o N H ab aa S ay w D f aA aD aE aH aI aK aL aM aN aO a8
   go_region_law (refine pW rfl (.tmp 38) (.tmp 40) 70 rfl 134 aW _ 10 96 oB a4 a5 a6 a7 rfl (by decide) (C J a L) a (ys.flatMap bS) (by simp[Z,aP]) (by exact k ar) (C (E ⟨w3.heap.size,0,F⟩) 1 1) 1 [y K xs[a].f.num,y K xs[a].f.p.rows,y K xs[a].f.p.w,y K xs[a].f.p.front,y K xs[a].f.p.I,y K xs[a].f.p.R,y K xs[a].f.p.n,y K xs[a].f.p.f,C c xs[a].f.S.length d,y K xs[a].f.ep] (by simp[Z,aP]) (by exact k au) rfl (k aq) (by unfold maxLen;omega) (by omega) ?_;intro A B ai M aT;obtain⟨ba,bb,rfl⟩:=aC ai;have bs:=(X.grown (by exact k R) M (k Y)).cell 0;have bp:=(X.grown (by exact k R) M (k Y)).frozen)
   all_goals go_wp2
   all_goals
    obtain⟨bz,bx,aQ⟩:=(k aw) _ _ (λbk aR=>by subst aR;exact ai) M aT;exact⟨⟨a+1,rfl,by omega,_,_,_,aQ⟩,by simp[intOf];omega⟩
  ·have aS:¬(a:Int)<(xs.length:Int):=by omega
   have s:a=xs.length:=by omega
   subst s;go_wp2;go_ret;exact⟨rfl,u,ys,t,k f⟩
theorem Ab{a:U} {d:Nat} {now:Int} (c:X a d #[C F 0 0,y K now] 72):Calls T 26 #[b (E ⟨d,0,F⟩)] a λe w'=>e=g (b (E ⟨a.heap.size,0,F⟩))/\w'=a.alloc (v #[C F 0 0,y K now] 72):=by
 have hc:=c.cell;have i:=c.lt;clear c;go_enter func26,ntmps26;go_wp2_with fail;go_loopw [4] (λf wr=>f=y K 0/\wr=a.alloc (v #[C F 0 0,y K now] 72)) (λ_ _=>0)
 case atStart=>exact⟨rfl,rfl⟩
 case round=>
  obtain⟨rfl,rfl⟩:=hrel;go_wp2;go_ret;exact⟨rfl,rfl⟩
theorem Je{a:U} {q:Nat->Nat} {j:Nat} {t:V} {xs:List e} {now:Int} (c:aF a q j t xs now):Calls T 26 #[b (E ⟨j,0,F⟩)] a λd w'=>∃v' ys r,d=g (b (E ⟨a.heap.size,0,F⟩))/\oA a w' a.heap.size xs now xs.length v' ys r:=by
 have n:=c;obtain⟨rfl,rfl⟩|⟨u,cap,rfl,o,p⟩:=c.jk
 ·refine(Ab c.has).mono ?_;rintro d w' ⟨rfl,rfl⟩;exact⟨_,_,_,rfl,sW a now []⟩
 ·by_cases f:0<xs.length
  ·exact Jd c f
  ·have:xs=[]:=fS (by omega);subst this;have hc:=c.has.cell;have w:=c.has.lt;clear c n o p f;have m:=i (sW a now ([]:List e));go_enter func26,ntmps26;go_wp2_with fail;go_loopw [4] (λs wr=>s=y K 0/\wr=a.alloc (v #[C F 0 0,y K now] 72)) (λ_ _=>0)
   case atStart=>exact⟨rfl,rfl⟩
   case round=>
    obtain⟨rfl,rfl⟩:=hrel;go_wp2;go_ret;exact⟨_,_,_,rfl,k m⟩
theorem Jf{c:U} {p:Nat->Nat} {n:Nat} {q:V} {xs:List e} {now:Int} (j:aF c p n q xs now) (a:N) (m:Nat) (hf:cT xs a.m=m):Calls T 53 #[b (E ⟨n,0,F⟩),l (Q a)] c λf w'=>f=g (y K 3)/\G No c w':=by
 have d:=(j.mod ((G.refl No c).alloc (v (Q a) 41)) (λ_ _ r=>r)).find a.m;rw[hf] at d;have d:=i d;have o:=i ((G.refl No c).alloc (v (Q a) 41));have s:(m:Int)>=0:=by omega
 clear j hf;unfold Q at *;go_enter func53,ntmps53;go_wp2_with fail;refine(k d).mono ?_;rintro f t ⟨rfl,rfl⟩;go_wp2;go_ret;exact⟨rfl,k o⟩
theorem Jg{n:U} {I:Nat->Nat} {z:Nat} {J:V} {xs:List e} {now:Int} (x:aF n I z J xs now) (a:N) (hf:cT xs a.m= -1) (B:¬(a.p.sized=true/\a.p.limited=true)):Calls T 53 #[b (E ⟨z,0,F⟩),l (Q a)] n λf w'=>f=g (y K 4)/\G No n w':=by
 have o:=(x.mod ((G.refl No n).alloc (v (Q a) 41)) (λ_ _ c=>c)).find a.m;rw[hf] at o;have o:=i o;have p:=i λr=>qn a.p r;have q:=i λr=>uw a.p r;have w:=i ((G.refl No n).alloc (v (Q a) 41));have d:=i (X.new n (Q a) 41);clear x hf;unfold eb at p q;unfold Q at *;have D:a.p.sized=false\/(a.p.sized=true/\a.p.limited=false):=by
  cases m:a.p.sized<;>cases s:a.p.limited<;>simp_all
 clear B;obtain m|⟨m,s⟩:=D
 ·rw[m] at p;generalize a.p.limited=O at *;clear m;go_enter func53,ntmps53;go_wp2_with fail;refine(k o).mono ?_;rintro f L ⟨rfl,rfl⟩;have hb:=(k d).cell;have t:=(k d).lt;go_wp2_with fail;refine((k p) _).mono ?_;rintro f M ⟨rfl,j⟩;have A:=(j.has (k d) (λc=>c)).cell;have H:=(j.has (k d) (λc=>c)).lt;clear hb t;go_wp2_with fail;refine((k q) _).mono ?_;rintro f w3 ⟨rfl,u⟩;go_wp2;go_ret
  exact⟨rfl,((k w).trans j).trans u⟩
 ·rw[m] at p;rw[s] at q;clear m s;go_enter func53,ntmps53;go_wp2_with fail;refine(k o).mono ?_;rintro f L ⟨rfl,rfl⟩;have hb:=(k d).cell;have t:=(k d).lt;go_wp2_with fail;refine((k p) _).mono ?_;rintro f M ⟨rfl,j⟩;have A:=(j.has (k d) (λc=>c)).cell;have H:=(j.has (k d) (λc=>c)).lt;clear hb t;go_wp2_with fail;refine((k q) _).mono ?_;rintro f w3 ⟨rfl,u⟩;go_wp2;go_ret
  exact⟨rfl,((k w).trans j).trans u⟩
def di(num:Int) (p:O) (a cap:Nat):e:=⟨⟨num,p,q p,1⟩,a,cap⟩
structure gv (w wx:U) (num:Int) (p:O) (cs:Array V) (bb b0 g cap:Nat):Prop where
 box:X wx bb (aV (di num p g cap)) 134
 cmd:X wx b0 cs 41
 row:aE wx g cap (q p)
 j8:w.heap.size<=bb
 Ac:w.heap.size<=g
 ne:bb≠b0
 mod:G No w wx
theorem gv.still{i j w2:U} {num:Int} {p:O} {cs:Array V} {e b0 f cap:Nat} (a:gv i j num p cs e b0 f cap) (d:G No j w2):gv i w2 num p cs e b0 f cap:=
 ⟨d.has a.box (λc=>c),d.has a.cmd (λc=>c),a.row.mod d (λc=>c),a.j8,a.Ac,a.ne,a.mod.trans d⟩
theorem gv.made{i w3 a:U} {num:Int} {p:O} {cs:Array V} {b0 c cap:Nat} (k:G No i w3) (e:G No w3 a) (hc:X w3 b0 cs 41) (m:aE a c cap (q p)) (n:w3.heap.size<c):gv i (a.alloc (v #[y K num,y K p.rows,y K p.w,y K p.front,y K p.I,y K p.R,y K p.n,y K p.f,C (E ⟨c,0,F⟩) (q p).length cap,y K 1] 134)) num p cs a.heap.size b0 c cap:=by
 show gv i (a.alloc (v (aV (di num p c cap)) 134)) num p cs a.heap.size b0 c cap;have f:G No a (a.alloc (v (aV (di num p c cap)) 134)):=(G.refl _ _).alloc _;have j:=e.has hc (λd=>d);have:=k.size;have:=e.size;exact⟨X.new _ _ _,f.has j (λd=>d),m.mod f (λd=>d),by omega,by omega,by have:=j.lt;omega,(k.trans e).trans f⟩
theorem gv.sX{j w3 c:U} {num:Int} {p:O} {cs:Array V} {a b0 d cap:Nat} (m:G No j w3) (e:G No w3 c) (hc:X w3 b0 cs 41) (f:X w3 a #[y K 0,y K 0,y K 0,y K 0,y K 0,y K 0,y K 0,y K 0,C F 0 0,y K 0] 134) (I:j.heap.size<=a) (L:aE c d cap (q p)) (P:w3.heap.size<d):gv j ((((((((((c.setCell ⟨a,0,F⟩ (y K num)).setCell ⟨a,1,F⟩ (y K p.rows)).setCell ⟨a,2,F⟩ (y K p.w)).setCell ⟨a,3,F⟩ (y K p.front)).setCell ⟨a,4,F⟩ (y K p.I)).setCell ⟨a,5,F⟩ (y K p.R)).setCell ⟨a,6,F⟩ (y K p.n)).setCell ⟨a,7,F⟩ (y K p.f)).setCell ⟨a,8,F⟩ (C (E ⟨d,0,F⟩) (q p).length cap)).setCell ⟨a,9,F⟩ (y K 1)) num p cs a b0 d cap:=by
 have N:=e.has f (λk=>k);have o:=e.has hc (λk=>k);have Q:=f.lt;have n:a≠b0:=f.ne hc (by decide);have J:d≠a:=by omega
 have i:G (λM=>M=a) c ((((((((((c.setCell ⟨a,0,F⟩ (y K num)).setCell ⟨a,1,F⟩ (y K p.rows)).setCell ⟨a,2,F⟩ (y K p.w)).setCell ⟨a,3,F⟩ (y K p.front)).setCell ⟨a,4,F⟩ (y K p.I)).setCell ⟨a,5,F⟩ (y K p.R)).setCell ⟨a,6,F⟩ (y K p.n)).setCell ⟨a,7,F⟩ (y K p.f)).setCell ⟨a,8,F⟩ (C (E ⟨d,0,F⟩) (q p).length cap)).setCell ⟨a,9,F⟩ (y K 1)):=
  ((((((((((G.refl _ c).at 0 _).at 1 _).at 2 _).at 3 _).at 4 _).at 5 _).at 6 _).at 7 _).at 8 _).at 9 _
 have s:X (c.setCell ⟨a,0,F⟩ (y K num)) a #[y K num,y K 0,y K 0,y K 0,y K 0,y K 0,y K 0,y K 0,C F 0 0,y K 0] 134:=N.set 0 _;have t:X ((c.setCell ⟨a,0,F⟩ (y K num)).setCell ⟨a,1,F⟩ (y K p.rows)) a #[y K num,y K p.rows,y K 0,y K 0,y K 0,y K 0,y K 0,y K 0,C F 0 0,y K 0] 134:=s.set 1 _
 have u:X (((c.setCell ⟨a,0,F⟩ (y K num)).setCell ⟨a,1,F⟩ (y K p.rows)).setCell ⟨a,2,F⟩ (y K p.w)) a #[y K num,y K p.rows,y K p.w,y K 0,y K 0,y K 0,y K 0,y K 0,C F 0 0,y K 0] 134:=t.set 2 _
 have w:X ((((c.setCell ⟨a,0,F⟩ (y K num)).setCell ⟨a,1,F⟩ (y K p.rows)).setCell ⟨a,2,F⟩ (y K p.w)).setCell ⟨a,3,F⟩ (y K p.front)) a #[y K num,y K p.rows,y K p.w,y K p.front,y K 0,y K 0,y K 0,y K 0,C F 0 0,y K 0] 134:=u.set 3 _
 have x:X (((((c.setCell ⟨a,0,F⟩ (y K num)).setCell ⟨a,1,F⟩ (y K p.rows)).setCell ⟨a,2,F⟩ (y K p.w)).setCell ⟨a,3,F⟩ (y K p.front)).setCell ⟨a,4,F⟩ (y K p.I)) a #[y K num,y K p.rows,y K p.w,y K p.front,y K p.I,y K 0,y K 0,y K 0,C F 0 0,y K 0] 134:=w.set 4 _
 have z:X ((((((c.setCell ⟨a,0,F⟩ (y K num)).setCell ⟨a,1,F⟩ (y K p.rows)).setCell ⟨a,2,F⟩ (y K p.w)).setCell ⟨a,3,F⟩ (y K p.front)).setCell ⟨a,4,F⟩ (y K p.I)).setCell ⟨a,5,F⟩ (y K p.R)) a #[y K num,y K p.rows,y K p.w,y K p.front,y K p.I,y K p.R,y K 0,y K 0,C F 0 0,y K 0] 134:=x.set 5 _
 have A:X (((((((c.setCell ⟨a,0,F⟩ (y K num)).setCell ⟨a,1,F⟩ (y K p.rows)).setCell ⟨a,2,F⟩ (y K p.w)).setCell ⟨a,3,F⟩ (y K p.front)).setCell ⟨a,4,F⟩ (y K p.I)).setCell ⟨a,5,F⟩ (y K p.R)).setCell ⟨a,6,F⟩ (y K p.n)) a #[y K num,y K p.rows,y K p.w,y K p.front,y K p.I,y K p.R,y K p.n,y K 0,C F 0 0,y K 0] 134:=z.set 6 _
 have B:X ((((((((c.setCell ⟨a,0,F⟩ (y K num)).setCell ⟨a,1,F⟩ (y K p.rows)).setCell ⟨a,2,F⟩ (y K p.w)).setCell ⟨a,3,F⟩ (y K p.front)).setCell ⟨a,4,F⟩ (y K p.I)).setCell ⟨a,5,F⟩ (y K p.R)).setCell ⟨a,6,F⟩ (y K p.n)).setCell ⟨a,7,F⟩ (y K p.f)) a #[y K num,y K p.rows,y K p.w,y K p.front,y K p.I,y K p.R,y K p.n,y K p.f,C F 0 0,y K 0] 134:=A.set 7 _
 have D:X (((((((((c.setCell ⟨a,0,F⟩ (y K num)).setCell ⟨a,1,F⟩ (y K p.rows)).setCell ⟨a,2,F⟩ (y K p.w)).setCell ⟨a,3,F⟩ (y K p.front)).setCell ⟨a,4,F⟩ (y K p.I)).setCell ⟨a,5,F⟩ (y K p.R)).setCell ⟨a,6,F⟩ (y K p.n)).setCell ⟨a,7,F⟩ (y K p.f)).setCell ⟨a,8,F⟩ (C (E ⟨d,0,F⟩) (q p).length cap)) a #[y K num,y K p.rows,y K p.w,y K p.front,y K p.I,y K p.R,y K p.n,y K p.f,C (E ⟨d,0,F⟩) (q p).length cap,y K 0] 134:=B.set 8 _
 have H:X ((((((((((c.setCell ⟨a,0,F⟩ (y K num)).setCell ⟨a,1,F⟩ (y K p.rows)).setCell ⟨a,2,F⟩ (y K p.w)).setCell ⟨a,3,F⟩ (y K p.front)).setCell ⟨a,4,F⟩ (y K p.I)).setCell ⟨a,5,F⟩ (y K p.R)).setCell ⟨a,6,F⟩ (y K p.n)).setCell ⟨a,7,F⟩ (y K p.f)).setCell ⟨a,8,F⟩ (C (E ⟨d,0,F⟩) (q p).length cap)).setCell ⟨a,9,F⟩ (y K 1)) a #[y K num,y K p.rows,y K p.w,y K p.front,y K p.I,y K p.R,y K p.n,y K p.f,C (E ⟨d,0,F⟩) (q p).length cap,y K 1] 134:=D.set 9 _
 refine⟨H,i.has o (λr=>n r.symm),L.mod i J,I,by have:=m.size;have:=e.size;omega,n,(m.trans e).trans' i (λR hi hl=>by omega)⟩
theorem Jh{i:Type} (xs:List i) (e:i) (a c:Nat) (m:a<=xs.length) (hi:c<(xs.take a++e::xs.drop a).length):(∃d:c<xs.length,c<a/\(xs.take a++e::xs.drop a)[c]=xs[c])\/(c=a/\(xs.take a++e::xs.drop a)[c]=e)\/(∃d:c - 1<xs.length,a<c/\(xs.take a++e::xs.drop a)[c]=xs[c - 1]):=by
 have hl:(xs.take a).length=a:=by rw[dj];omega
 have k:c<xs.length+1:=by simp at hi;omega
 obtain d|d|d:=Nat.lt_trichotomy c a
 ·refine .inl ⟨by omega,d,?_⟩;rw[qK (by omega),oy]
 ·refine .inr (.inl ⟨d,?_⟩);subst d;rw[qI (by omega)];simp[hl]
 ·refine .inr (.inr ⟨by omega,d,?_⟩);rw[qI (by omega)];obtain⟨f,j⟩:∃f,c=a+1+f:=⟨c - a - 1,by omega⟩;subst j;simp only[hl,show a+1+f - a=f+1 by omega,List.getElem_cons_succ,List.getElem_drop];congr 1;omega
theorem Ji{s w':U} {d:Nat->Nat} {t gf w c cap f:Nat} {ab:V} {xs:List e} {now:Int} (j:aF s d t ab xs now) (D:G (λa=>a=t) s w') (num:Int) (p:O) (Q:f<=xs.length) (ae:xs.length<20) (P:X w' t #[C (E ⟨gf,0,F⟩) (xs.length+1) w,y K now] 72) (J:dn w' gf w (xs.take f++di num p c cap::xs.drop f)) (hs:aE w' c cap (q p))
  (af:s.heap.size<=c) (ag:s.heap.size<=gf) (R:c≠gf) (S:L p (q p)):∃N,aF w' N t (C (E ⟨gf,0,F⟩) (xs.length+1) w) (xs.take f++di num p c cap::xs.drop f) now/\∀a,N a≠0->d a≠0\/s.heap.size<=a:=by
 have hlen:(xs.take f++di num p c cap::xs.drop f).length=xs.length+1:=by simp;omega
 refine⟨λa=>if a=gf then 2 else if a=c then f+3 else if d a=2 then 0 else if f+3<=d a then d a+1 else d a,⟨P,.inr ⟨gf,w,by rw[hlen],J,by simp only[if_pos]⟩,?_,λa k=>?_,λm hi=>?_,by rw[hlen];omega⟩,λa k=>?_⟩
 ·have ah:=j.aU t (by rw[j.aW];omega);have n:=j.aW;rw[if_neg (by omega),if_neg (by omega),if_neg (by omega),if_neg (by omega),n]
 ·by_cases x:a=gf
  ·subst x;obtain⟨ad,Y,_⟩:=J.cur;exact Y.lt
  ·by_cases z:a=c
   ·subst z;exact hs.lt
   ·rw[if_neg x,if_neg z] at k;have:d a≠0:=by
     intro n;rw[n] at k;simp at k
    exact aG (j.aU a this) D.size
 ·have B:∀i (r:i<xs.length),xs[i].g<s.heap.size/\d xs[i].g=i+3:=λi r=>⟨j.aU _ (by rw[(j.S i r).2.1];omega),(j.S i r).2.1⟩;have M:∀i (r:i<xs.length),¬xs[i].g=t:=λi r n=>by have:=(B i r).2;rw[n,j.aW] at this;omega
  obtain⟨o,A,u⟩|⟨A,u⟩|⟨o,A,u⟩:=Jh xs (di num p c cap) f m Q hi
  ·rw[u];obtain⟨H,aa,I⟩:=j.S m o;refine⟨H.mod D (M m o),?_,I⟩;have:=B m o;rw[if_neg (by omega),if_neg (by omega),if_neg (by omega),if_neg (by omega)];exact this.2
  ·rw[u];refine⟨hs,?_,S⟩;show(if c=gf then 2 else if c=c then f+3 else if d c=2 then 0 else if f+3<=d c then d c+1 else d c)=m+3;rw[if_neg R,if_pos rfl,A]
  ·rw[u];obtain⟨H,aa,I⟩:=j.S (m - 1) o;refine⟨H.mod D (M (m - 1) o),?_,I⟩;have:=B (m - 1) o;rw[if_neg (by omega),if_neg (by omega),if_neg (by omega),if_pos (by omega)];omega
 ·by_cases x:a=gf
  ·right;omega
  ·by_cases z:a=c
   ·right;omega
   ·have k:(if a=gf then 2 else if a=c then f+3 else if d a=2 then 0 else if f+3<=d a then d a+1 else d a)≠0:=k;rw[if_neg x,if_neg z] at k;left;intro n;rw[n] at k;simp at k
theorem sY(d:List e):∀c∈d.flatMap bS,c.oneCell'=true:=by
 intro c hu;obtain⟨f,_,a⟩:=List.mem_flatMap.1 hu;simp[bS,aV] at a;obtain rfl|rfl|rfl|rfl|rfl|rfl|rfl|rfl|rfl|rfl:=a<;>rfl
theorem Jj{i:U} {gf cap:Nat} {xs:List e} (j:dn i gf cap xs) (c:Nat) (hi:c<=xs.length) (d:Nat):Reads i (C (E ⟨gf,0,F⟩) c d) c ((xs.take c).flatMap bS):=
 .inr ⟨⟨gf,0,F⟩,d,rfl,λa n hu=>by
  have k:a<((xs.take c).flatMap bS).length:=(List.getElem?_eq_some_iff.1 hu).1
  rw[kj 10 bS kN,dj] at k
  have m:a / 10<c:=by omega
  have f:a=a / 10* 10+a % 10:=by omega
  rw[f,nK 10 (by omega) bS kN (xs.take c) (a / 10) (by rw[dj];omega) (a % 10) (by omega),oy] at hu
  rw[dx,bg,f,j.cell (a / 10) (by omega) (a % 10) (by omega),<-dE]
  exact hu⟩
theorem Jk{i:U} {gf cap:Nat} {xs:List e} (j:dn i gf cap xs) (c:Nat) (hi:c<=xs.length) (d:Nat):Reads i (C (E ⟨gf,c* 10,F⟩) (xs.length - c) d) (xs.length - c) ((xs.drop c).flatMap bS):=
 .inr ⟨⟨gf,c* 10,F⟩,d,rfl,λa n hu=>by
  have k:a<((xs.drop c).flatMap bS).length:=(List.getElem?_eq_some_iff.1 hu).1
  rw[kj 10 bS kN,lX] at k
  have m:a / 10<xs.length - c:=by omega
  have f:a=a / 10* 10+a % 10:=by omega
  rw[f,nK 10 (by omega) bS kN (xs.drop c) (a / 10) (by rw[lX];omega) (a % 10) (by omega),List.getElem_drop] at hu
  rw[dx,f,show c* 10+(a / 10* 10+a % 10)=(c+a / 10)* 10+a % 10 by omega,j.cell (c+a / 10) (by omega) (a % 10) (by omega),<-dE]
  exact hu⟩
theorem Jl{w:U} {gf:Nat} {xs:List e} (a:Nat) (hi:a=xs.length) (c:Nat):Reads w (C (E ⟨gf,0,F⟩) (xs.length - a) c) (xs.length - a) ((xs.drop a).flatMap bS):=
 .inr ⟨⟨gf,0,F⟩,c,rfl,λd f hu=>by
  rw[hi,List.drop_length] at hu
  simp at hu⟩
theorem Ad(a:U) (d:TypeId) (c:e):Reads (a.alloc (v (aV c) d)) (C (E ⟨a.heap.size,0,F⟩) 1 1) 1 (bS c):=
 .inr ⟨⟨a.heap.size,0,F⟩,1,rfl,λi j hu=>by
  have f:=X.new a (aV c) d
  rw[dx,bg,f.cell,<-dE]
  exact hu⟩
theorem pC{f:Program} {ops:Array Oper} {c:Oper} {a:Act} {m:U} {i:Act->U->Prop} {o:Exit->Act->U->Prop} {n:Prop} (r:c.guard=F) (e:FuncId) (args:Array Operand) (x:Array TypeId) (s:c.op=Op.call { callee:=Callee.value (Operand.func e),args:=args,argTypes:=x }) (vs:Array V) (u:args.map a.eval=vs) (q:∀j,(callFunc e vs).run f j=.ok (.enter e vs) j) (R:V->U->Prop) (hc:Calls f e vs m λk w'=>∃d,k=g d/\R d w')
  (p:∀d w',R d w'->i (a.put c.dst d) w'):if gM c (yielded ops a.tmps)=true then eT f c a m i o else n:=by
 have w:gM c (yielded ops a.tmps)=true:=by simp[gM,r]
 rw[if_pos w];unfold eT execOp;simp[go_sem,s,u];rw[q];simp[go_sem];refine hc.mono ?_;rintro k w' ⟨d,rfl,t⟩;exact p _ _ t
theorem sZ{e:U} {d:V} (a:dY e (C F 0 0) d):∀c,d.ownBlock=E c->No c\/e.heap.size<=c:=λc f=>by
 obtain a|a:=a c f
 ·simp[az] at a
 ·exact .inr a
theorem qM{a f:U} {e v':V} (i:∀c,e.ownBlock=E c->No c\/a.heap.size<=c) (k:a.heap.size<=f.heap.size) (hs:dY f e v'):∀c,v'.ownBlock=E c->No c\/a.heap.size<=c:=λc j=>by
 obtain d|d:=hs c j
 ·exact i c d
 ·exact .inr (by omega)
structure vC (w w':U) (ow:Nat->Nat) (wb:Nat) (xs:List e) (now:Int) (num:Int) (p:O):Prop where
 mod:G (λk=>k=wb) w w'
 ex:∃v' n g cap ow',n<=xs.length/\(∀j (hj:j<xs.length),j<n->xs[j].f.num<num)/\(∀hj:n<xs.length,¬xs[n].f.num<num)/\aF w' ow' wb v' (xs.take n++di num p g cap::xs.drop n) now/\∀k,ow' k≠0->ow k≠0\/w.heap.size<=k
theorem Ae{p wc:U} {ow:Nat->Nat} {c N b0 f cap i:Nat} {ai:V} {xs:List e} {now j:Int} {d:O} {cs:Array V} (x:aF p ow c ai xs now) (r:gv p wc j d cs N b0 f cap) (ae:L d (q d)) (hi:i<=xs.length) (S:xs.length<20) (k:U) (n:V) (H:G No wc k) (hv:∀a,n.ownBlock=E a->No a\/wc.heap.size<=a) (M:Nat) (I:List V) (hl:I=(xs.take i++di j d f cap::xs.drop i).flatMap bS) (Y:M=xs.length+1) (z:k.ownsRow 0 134 10 n M I):
  G (λa=>a=c) p (k.setCell ⟨c,0,F⟩ n)/\∃v' t f cap u,t<=xs.length/\t=i/\aF (k.setCell ⟨c,0,F⟩ n) u c v' (xs.take t++di j d f cap::xs.drop t) now/\∀a,u a≠0->ow a≠0\/p.heap.size<=a:=by
 subst hl Y;have hlen:(xs.take i++di j d f cap::xs.drop i).length=xs.length+1:=by simp;omega
 rw[<-hlen] at z;have B:=r.mod.trans H;have A:G (λa=>a=c) p (k.setCell ⟨c,0,F⟩ n):=(B.mono (λ_ _ s=>s.elim)).at 0 n;obtain⟨m,o,rfl⟩:∃m o,n=C (E ⟨m,0,F⟩) (xs.take i++di j d f cap::xs.drop i).length o:=by
  obtain⟨_,R|⟨Q,P,aj,ad,_⟩⟩:=z
  ·rw[hlen] at R;omega
  ·exact⟨Q,P,ad⟩
 have ab:=(z' z).2;have ak:wc.heap.size<=m:=by
  obtain w|w:=hv m rfl
  ·exact w.elim
  ·exact w
 have am:=r.row.lt;have ao:=r.mod.size;have hb:c<p.heap.size:=x.has.lt;have aa:=r.Ac;have D:=(B.has x.has (λs=>s)).set 0 (C (E ⟨m,0,F⟩) (xs.take i++di j d f cap::xs.drop i).length o);have af:X (k.setCell ⟨c,0,F⟩ (C (E ⟨m,0,F⟩) (xs.take i++di j d f cap::xs.drop i).length o)) c #[C (E ⟨m,0,F⟩) (xs.length+1) o,y K now] 72:=by
  rw[hlen] at D ⊢;exact D
 have J:G (λa=>a=c) k (k.setCell ⟨c,0,F⟩ (C (E ⟨m,0,F⟩) (xs.take i++di j d f cap::xs.drop i).length o)):=(G.refl _ k).at 0 _;obtain⟨u,ag,ah⟩:=Ji x A j d hi S af (ab.mod J (by omega)) ((r.row.mod H (λs=>s)).mod J (by omega)) aa (by omega) (by omega) ae;exact⟨A,_,i,f,cap,u,hi,rfl,ag,ah⟩
theorem Jm{w:U} {a2:Nat->Nat} {af A u:Nat} {xs:List e} {now:Int} (J:aF w a2 af (C (E ⟨A,0,F⟩) xs.length u) xs now) (cd:0<xs.length) (j:N) (hf:cT xs j.m= -1) (aq:j.p.sized=true) (aZ:j.p.limited=true) (b7:xs.length<20):Calls T 53 #[b (E ⟨af,0,F⟩),l (Q j)] w λx w'=>x=g (y K 0)/\vC w w' a2 af xs now j.m j.p:=by
 have M:=(J.mod ((G.refl No w).alloc (v (Q j) 41)) (λ_ _ c=>c)).find j.m;rw[hf] at M;have M:=i M;have ai:=i λt=>qn j.p t;have ah:=i λt=>uw j.p t
 have ag:=i λt=>(show Calls T 84 #[eb j.p] t λx w'=>∃bB,x=g bB/\∃m cap,bB=C (E ⟨m,0,F⟩) (q j.p).length cap/\aE w' m cap (q j.p)/\t.heap.size<m/\G No t w' from
  (ux j.p aq t).mono λx w' ⟨m,cap,b5,b6⟩=>⟨_,b5,m,cap,rfl,b6⟩)
 have bU:=i (ly aq aZ);have bo:=i ((G.refl No w).alloc (v (Q j) 41));have H:=i (X.new w (Q j) 41);rw[aq] at ai;rw[aZ] at ah;obtain⟨ch,bA⟩:=J.parts rfl cd;have ak:=i bA;have s:=i J;obtain⟨kind,f,aN,ac,bb,ba,a4,aR,time,d⟩:=j;simp only at *;clear J hf aq aZ bA ch;unfold eb at ai ah ag;unfold Q at *;go_enter func53,ntmps53;go_wp2_with fail;refine(k M).mono ?_;rintro x cF ⟨rfl,rfl⟩;have hb:=(k H).cell
 have ce:=(k H).lt;go_wp2_with fail;refine((k ai) _).mono ?_;rintro x cG ⟨rfl,ad⟩;have b8:=(ad.has (k H) (λc=>c)).cell;have cf:=(ad.has (k H) (λc=>c)).lt;clear hb ce;go_wp2_with fail;refine((k ah) _).mono ?_;rintro x w3 ⟨rfl,a0⟩;have aj:=i (((k bo).trans ad).trans a0);have L:=i (a0.has (ad.has (k H) (λc=>c)) (λc=>c));clear b8 cf ad a0 H bo M ai ah;generalize w.heap.size=b0 at *
 have b9:=(k L).cell;have bz:=(k L).lt;go_upto_region 8 with fail;go_cut [8] (λci bf=>∃Y m cap,ci=b (E ⟨Y,0,F⟩)/\Hid (gv w bf f d #[y K kind,y K f,y K aN,y K ac,y K bb,y K ba,y K a4,y K aR,y K time,y K d.rows,y K d.w,y K d.front,y K d.I,y K d.R,y K d.n,y K d.f] Y b0 m cap))
 case first=>
  have aA:=i (k L).drew;have bW:=i (k aj).drew;have a1:G No w3 ((w3.alloc (v #[y K 0,y K 0,y K 0,y K 0,y K 0,y K 0,y K 0,y K 0,C F 0 0,y K 0] 134)).drew):=((G.refl _ w3).alloc _).drew;have aD:=i (a1.has (k L) (λc=>c));have bY:=i ((k aj).trans a1);have ao:=i (X.new w3 #[y K 0,y K 0,y K 0,y K 0,y K 0,y K 0,y K 0,y K 0,C F 0 0,y K 0] 134).drew;have ct:=i (show b0<=w3.heap.size from Nat.le_of_lt bz)
  clear a1
  go_region_law (first
   |(refine pC rfl 84 _ _ rfl #[l #[y K d.rows,y K d.w,y K d.front,y K d.I,y K d.R,y K d.n,y K d.f]] (by simp[Z,aP]) (λt=>by kernel_rfl) _ ((k ag) w3.drew) ?_;rintro cl cr ⟨aT,aQ,rfl,aU,bh,r⟩;have ca:=(r.has (k aA) (λc=>c)).cell;have cg:=(r.has (k aA) (λc=>c)).lt)
   |(refine pC rfl 84 _ _ rfl #[l #[y K d.rows,y K d.w,y K d.front,y K d.I,y K d.R,y K d.n,y K d.f]] (by simp[Z,aP]) (λt=>by kernel_rfl) _ ((k ag) _) ?_;rintro cl cr ⟨aT,aQ,rfl,aU,bh,r⟩;have ca:=(r.has (k aD) (λc=>c)).cell;have cg:=(r.has (k aD) (λc=>c)).lt;have cH:=(r.has (k ao) (λc=>c)).cell;have cI:=(r.has (k ao) (λc=>c)).frozen;have cL:=(r.has (k ao) (λc=>c)).lt))
  all_goals go_wp2
  all_goals go_meet
  all_goals first
   |with_reducible exact⟨_,aT,aQ,rfl,i (gv.made (k bW) r (k aA) aU bh)⟩
   |with_reducible exact⟨_,aT,aQ,rfl,i (gv.sX (k bY) r (k aD) (k ao) (k aj).size aU bh)⟩
 case rest=>
  obtain⟨Y,m,cap,rfl,aK⟩:=hcut;obtain⟨ar,au,av,aw,ax⟩:=info_parts vB;clear L aj ag b9 bz
  apply_assumption
  go_upto_block 0 with fail;go_cut [9] (λae bf=>∃a:Nat,ae=y K a/\a<=xs.length/\Hid (∀n (o:n<xs.length),n<a->xs[n].f.num<f)/\Hid (∀o:a<xs.length,¬xs[a].f.num<f)/\Hid (gv w bf f d #[y K kind,y K f,y K aN,y K ac,y K bb,y K ba,y K a4,y K aR,y K time,y K d.rows,y K d.w,y K d.front,y K d.I,y K d.R,y K d.n,y K d.f] Y b0 m cap))
  case first=>
   go_wp2_with fail;go_loopw [9] (λae wr=>∃a:Nat,ae=y K a/\a<=xs.length/\Hid (∀n (o:n<xs.length),n<a->xs[n].f.num<f)/\Hid (gv w wr f d #[y K kind,y K f,y K aN,y K ac,y K bb,y K ba,y K a4,y K aR,y K time,y K d.rows,y K d.w,y K d.front,y K d.I,y K d.R,y K d.n,y K d.f] Y b0 m cap)) (λae _=>xs.length - (intOf ae).toNat)
   case atStart=>exact⟨0,rfl,by omega,λn o J=>absurd J (dZ _),aK⟩
   case round=>
    obtain⟨a,rfl,hi,B,p⟩:=hrel;clear aK;have cm:wr.cell? ⟨af,0,F⟩=E (C (E ⟨A,0,F⟩) xs.length u):=((k p).mod.has (k s).has (λc=>c)).cell 0;have cu:wr.cell? ⟨b0,1,F⟩=E (y K f):=(k p).cmd.cell 1;have cv:=(k p).cmd.lt;have cp:=((k p).mod.has (k s).has (λc=>c)).lt;have b4:(0:Int)<=a:=by omega
    by_cases bv:a<xs.length
    ·have aW:(a:Int)<(xs.length:Int):=by omega
     have cb:decide ((a:Int)<(xs.length:Int))=true:=by simpa using aW
     have cz:K.wrap ((a:Int)+1)=((a+1:Nat):Int):=by rw[aB _ (by omega) (by omega)];rfl
     have a9:=(k ak).mod (k p).mod (λc=>c);have cw:wr.cell? ⟨A,a* 10,F⟩=E (y K xs[a].f.num):=a9.cell a bv 0 (by omega);by_cases ap:xs[a].f.num<f
     ·have cc:decide (xs[a].f.num<f)=true:=by simpa using ap
      have bJ:=i (show ∀n (o:n<xs.length),n<a+1->xs[n].f.num<f from λn o cD=>by
       by_cases x:n=a
       ·subst x;exact ap
       ·exact(k B) n o (by omega))
      clear a9 B;go_wp2_with fail;go_quiet (fail);go_wp2;exact⟨⟨a+1,rfl,by omega,bJ,(k p).still ((G.refl No _).drewN _)⟩,by simp[intOf];omega⟩
     ·have cc:decide (xs[a].f.num<f)=false:=by simpa using ap
      have I:=i (show ∀o:a<xs.length,¬xs[a].f.num<f from λ_=>ap);clear a9;go_wp2_with fail;go_quiet (fail);go_wp2;go_meet;exact⟨a,rfl,by omega,B,I,(k p).still ((G.refl No _).drewN _)⟩
    ·have aW:¬(a:Int)<(xs.length:Int):=by omega
     have cb:decide ((a:Int)<(xs.length:Int))=false:=by simpa using aW
     have I:=i (show ∀o:a<xs.length,¬xs[a].f.num<f from λo=>absurd o bv);go_wp2_with fail;go_quiet (fail);go_wp2;go_meet;exact⟨a,rfl,by omega,B,I,(k p).still ((G.refl No _).drewN _)⟩
  case rest=>
   obtain⟨a,rfl,hi,B,I,p⟩:=hcut;have cm:=((k p).mod.has (k s).has (λc=>c)).cell 0;have cp:=((k p).mod.has (k s).has (λc=>c)).lt;have b4:(0:Int)<=a:=by omega
   have cC:(a:Int)<=(xs.length:Int):=by omega
   have cx:=(k ak).le;have cA:(a:Int)<=(u:Int):=by omega
   have cB:a<=u:=by omega
   clear aK;have O:=p;have bZ:=i ((k ak).mod (k p).mod (λc=>c));go_upto_region 13 with fail;have bR:=i (Jj (k bZ) a hi u);have bN:=i (sY (xs.take a));have bH:=i (show((xs.take a).flatMap bS).length=a* 10 from by rw[kj 10 bS kN,dj,Nat.min_eq_left hi]);have bV:=i (show ∀bc∈bS (di f d m cap),bc.oneCell'=true from λbc hu=>sY [di f d m cap] bc (by simpa using hu))
   go_upto_region 15 with(first
    |(at_builtin;refine eI rfl (.tmp 59) (.tmp 65) 70 rfl 134 ar _ 10 96 oB au av aw ax rfl (by decide) (C F 0 0) 0 [] (by simp[Z]) (by exact cJ _ _ _ _) (C (E ⟨A,0,F⟩) a u) a ((xs.take a).flatMap bS) (by simp[Z]) (by exact k bR) (k bH) (k bN) (by unfold maxLen;omega) (by omega) ?_;intro cj ay aX bt bw;
      rw[bg,List.nil_append] at aX;have bL:=i aX;have bn:=i bw;have aM:=i ((G.refl No _).grown bt (by simp[az]));clear aX bt bw;have aL:=i ((k O).still (k aM));have bq:=(k aL).box.cell;have b2:=(k aL).box.lt;unfold aV di at bq;have r:G No ay (ay.alloc (v (aV (di f d m cap)) 134)):=(G.refl _ _).alloc _;have bM:=i (r.owns (k bL) (λ_ _ c=>c));have bO:=i (Ad ay 134 (di f d m cap));clear r aL)
    |(at_builtin;refine eI rfl (.tmp 67) (.tmp 69) 70 rfl 134 ar _ 10 96 oB au av aw ax rfl (by decide) cj a ((xs.take a).flatMap bS) (by simp[Z]) (by exact k bM) (C (E ⟨ay.heap.size,0,F⟩) 1 1) 1 (bS (di f d m cap)) (by simp[Z]) (by exact k bO) rfl (k bV) (by unfold maxLen;omega) (by omega) ?_;intro cE bG aY bu bx;
      clear bq b2;obtain⟨bp,bs,rfl⟩:=aC aY;have bl:=i aY;have bT:=i bx;have P:=i (((k aM).alloc _).grown bu (sZ (k bn)));clear aY bu bx;have S:=(k O).mod.trans (k P);have bC:bG.cell? ⟨af,0,F⟩=E (C (E ⟨A,0,F⟩) xs.length u):=(S.has (k s).has (λc=>c)).cell 0;have bD:=(S.has (k s).has (λc=>c)).frozen;have bE:=(S.has (k s).has (λc=>c)).lt;have bP:=i (Jk ((k ak).mod S (λc=>c)) a hi (u - a));clear S))
   have bm:=i (sY (xs.drop a));have bk:=i (show((xs.drop a).flatMap bS).length=(xs.length - a)* 10 from by rw[kj 10 bS kN,lX]);have am:=i (qM (sZ (k bn)) (by have:=(k aM).size;simp;omega) (k bT));have bi:=i (Ae (xs:=xs) (now:=now) (ow:=a2) (i:=a) (k s) (k O) (k bU) hi b7);by_cases cy:u=a
   ·have bQ:=i (Jl (w:=bG) (gf:=A) (xs:=xs) a (by omega) 0)
    go_wp2_with (at_builtin;refine eI rfl (.tmp 72) (.tmp 78) 70 rfl 134 ar _ 10 96 oB au av aw ax rfl (by decide) (C bp (a+1) bs) (a+1) ((xs.take a).flatMap bS++bS (di f d m cap)) (by simp[Z]) (by exact k bl) (C (E ⟨A,0,F⟩) (xs.length - a) 0) (xs.length - a) ((xs.drop a).flatMap bS) (by simp[Z]) (by exact k bQ) (k bk) (k bm) (by unfold maxLen;omega) (by omega) ?_;intro ck bd D aa ab;obtain⟨b1,b3,rfl⟩:=aC D;have aH:=i D;have aI:=i ab;have R:=i ((k P).grown aa (k am));clear D aa ab bC bD bE;have z:=((k O).mod.trans (k R)).has (k s).has (λc=>c);have cn:=z.cell 0;have co:=z.frozen;have cq:=z.lt;clear z)
    go_ret;obtain⟨a5,v',n',aS,aO,a3,a6,rfl,a7,a8⟩:=(k bi) bd _ (k R) (qM (k am) (k P).size (k aI)) _ _ (by simp) (by omega) (k aH);exact⟨rfl,⟨a5,v',n',aS,aO,a3,a6,k B,λo=>by have:=k I o;omega,a7,a8⟩⟩
   ·go_wp2_with (at_builtin;refine eI rfl (.tmp 72) (.tmp 78) 70 rfl 134 ar _ 10 96 oB au av aw ax rfl (by decide) (C bp (a+1) bs) (a+1) ((xs.take a).flatMap bS++bS (di f d m cap)) (by simp[Z]) (by exact k bl) (C (E ⟨A,a* 10,F⟩) (xs.length - a) (u - a)) (xs.length - a) ((xs.drop a).flatMap bS) (by simp[Z]) (by exact k bP) (k bk) (k bm) (by unfold maxLen;omega) (by omega) ?_;intro ck bd D aa ab;obtain⟨b1,b3,rfl⟩:=aC D;have aH:=i D;have aI:=i ab;have R:=i ((k P).grown aa (k am));clear D aa ab bC bD bE;have z:=((k O).mod.trans (k R)).has (k s).has (λc=>c);have cn:=z.cell 0;have co:=z.frozen;have cq:=z.lt;clear z)
    go_ret;obtain⟨a5,v',n',aS,aO,a3,a6,rfl,a7,a8⟩:=(k bi) bd _ (k R) (qM (k am) (k P).size (k aI)) _ _ (by simp) (by omega) (k aH);exact⟨rfl,⟨a5,v',n',aS,aO,a3,a6,k B,λo=>by have:=k I o;omega,a7,a8⟩⟩
end Go.Proofs.YthhibagcpjeihaaGreat
