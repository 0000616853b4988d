import Derived.Test.YthhibagcpjeihaaGreatW6
import Derived.Test.YthhibagcpjeihaaGreatW7
import Derived.Test.YthhibagcpjeihaaGreatW4
open Go.Proofs.Tryz
open Go.Addr renaming mk->u
open Go.Value renaming int->F,pointer->g,slice->C,bool->L,agg->t,tuple->aq,ownBlock->aV
open Go.IntKind renaming i64->K
open Option renaming none->J,some->E
open Go renaming World->U,Value->V
open Go.Proofs.Tryz renaming prog->h
open Go.Ending renaming returned->q
open Go.Obj renaming cells->m
open Go.Act renaming eval->aM,put->bN
open Go.Instr renaming typeAssert->eb
open Go.Region renaming wanted->jD
open List renaming range->jF
open Go.Oper renaming wp->gu
set_option linter.unusedVariables false
set_option linter.unusedSimpArgs false
set_option maxRecDepth 100000
set_option maxHeartbeats 4000000
namespace Go.Proofs.YthhibagcpjeihaaGreat
open Go.RowKit
open M
def wJ(a:aH)(b:Nat):Int:=if a.ay<(a.used:Int)+b then 15 else 0
def fQ(b:aH)(a:Nat)(c:List Int):Bool×aH:=if (oO b a c).1=true then gS (oO b a c).2 a else(false,(oO b a c).2)
def iq(a:aH)(c:Nat)(b:List Int):Int×aH:=
 if a.ay<(a.used:Int)+b.length then(15,a) else if (fQ a c b).1=true then(0,(fQ a c b).2) else(16,(fQ a c b).2)
variable {I:U} {o:Nat} {B:aH} {W:Array V} {w Q:List Int} {P p:Nat->Nat} {S:Int} {j:Nat->Prop} {k:Nat->Option (O×List z)} {v:Nat->Option Nat} {N:aD} {i:V}
theorem Dg{S:Nat->Prop}{tb:Nat}(k:X I o W 121)(n:W[30]? =E (g (E (u tb 0 J))))(p:aS I S tb B)(a:Nat)(v:a<=17592186044416):Calls h 106 #[g (E (u o 30 J)),F K a] I λj w'=>j=q (F K (wJ B a))/\G No I w':=by
 have r:=k.T 30;rw[n] at r;have lt:=k.lt;have d:=l (KE p a (by omega) (by omega));unfold wJ;clear k p n;by_cases e:B.ay<(B.used:Int)+a
 .rw[D e];have hd:decide ((B.used:Int)+a<=B.ay)=false:=by simp;omega
  rw[hd] at d;clear e hd;go_enter func106,ntmps106;go_wp2_with fail;refine(b d).mono ?_;rintro j s ⟨rfl,c⟩;have i:=l c;clear c;go_wp2;go_ret;exact⟨rfl,b i⟩
 .rw[f e];have hd:decide ((B.used:Int)+a<=B.ay)=true:=by simp;omega
  rw[hd] at d;clear e hd;go_enter func106,ntmps106;go_wp2_with fail;refine(b d).mono ?_;rintro j s ⟨rfl,c⟩;have i:=l c;clear c;go_wp2;go_ret;exact⟨rfl,b i⟩
theorem Dh(a:X I o W 121)(b:W[30]? =E (g J))(e:Int):Calls h 106 #[g (E (u o 30 J)),F K e] I λd w'=>d=q (F K 17)/\w'=I:=by
 have c:=a.T 30;rw[b] at c;have lt:=a.lt;clear a b;go_enter func106,ntmps106;go_wp2;go_ret;exact⟨rfl,rfl⟩
theorem uC(a:X I o W 121)(b:Bool)(c:W[32]? =E (L b)):Calls h 78 #[g (E (u o 30 J))] I λe w'=>e=q (L b)/\w'=I:=by
 have d:=a.T 32;rw[c] at d;have lt:=a.lt;clear a c;go_enter func78,ntmps78;go_wp2;go_ret;exact⟨rfl,rfl⟩
theorem wK(a:X I o W 121)(e:V)(b:W[30]? =E e):Calls h 108 #[g (E (u o 30 J))] I λd w'=>d=q (F K 16)/\w'=I.setCell (u o 30 J) (g J):=by
 have c:=a.T 30;rw[b] at c;have lt:=a.lt;have i:=a.aC;clear a b;go_enter func108,ntmps108;go_wp2;go_ret;exact⟨rfl,rfl⟩
theorem Di{S:Nat->Prop}{tb:Nat}(r:X I o W 121)(A:W[30]? =E (g (E (u tb 0 J))))(ai:¬S o)(y:aS I S tb B)(c:Nat)(hi:c<4)(s:Option Addr)(p:Nat)(a:List Int)(N:Reads I (C s a.length p) a.length (dt a))(O:(C s a.length p).ownBlock≠E tb)(ak:∀x∈a,0<=x/\x<256)(aj:(B.b c).length+a.length<=17592186044416):
  Calls h 107 #[g (E (u o 30 J)),F K c,C s a.length p] I λe w'=>e=q (L (fQ B c a).1)/\aS w' (λd=>S d\/I.heap.size<=d) tb (fQ B c a).2/\G S I w':=by
 have H:=r.T 30;rw[A] at H;have lt:=r.lt;have n:=l (KF y c hi s p a N O ak aj);have aa:=l y.dq;have Z:=l r;unfold fQ;clear N r y;generalize ah:a.length=au at *;clear ah O;generalize oO B c a=Q at *;obtain⟨ae,z⟩:=Q;simp only at n ⊢
 cases ae with
 |false=>
  rw[f (by simp)];go_enter func107,ntmps107;go_wp2_with fail;refine(b n).mono ?_;rintro e am ⟨rfl,k,i⟩;have T:=l k;have v:=l i;clear k i;go_wp2;go_ret;exact⟨rfl,b T,b v⟩
 |true=>
  rw[D rfl];have j:=l λad (ag:aS ad (λd=>S d\/I.heap.size<=d) tb z)=>yZ ag c hi;generalize gS z c=R at *;obtain⟨ap,ao⟩:=R;simp only at j ⊢;go_enter func107,ntmps107;go_wp2_with fail;refine(b n).mono ?_;rintro e am ⟨rfl,k,i⟩;have w:=i.e (b Z) ai;have af:=w.T 30;rw[A] at af;have ar:=w.lt;have j:=l ((b j) _ k);have v:=l i;clear k i w n H;go_wp2_with fail;refine(b j).mono ?_;rintro e av ⟨rfl,M,P⟩
  have Y:=l M;have ab:=l ((b v).trans (P.mono (λd _ (e:d=tb)=>by rw[e];exact b aa)));clear M P j;go_wp2;go_ret;exact⟨rfl,b Y,b ab⟩
theorem Dj{S:Nat->Prop}{tb:Nat}(w:X I o W 121)(aa:W[30]? =E (g (E (u tb 0 J))))(ad:¬S o)(P:aS I S tb B)(k:Nat)(hi:k<2)(ag:W[31]? =E (F K k))(Q:Option Addr)(N:Nat)(c:List Int)(aj:Reads I (C Q c.length N) c.length (dt c))(ak:(C Q c.length N).ownBlock≠E tb)(ai:∀x∈c,0<=x/\x<256)(ah:(B.b k).length+c.length<=17592186044416):
  Calls h 80 #[g (E (u o 30 J)),C Q c.length N] I λi w'=>i=q (F K (iq B k c).1)/\aS w' (λa=>S a\/I.heap.size<=a) tb (iq B k c).2/\X w' o (if (iq B k c).1=16 then W.setIfInBounds 30 (g J) else W) 121/\G (λa=>S a\/a=o) I w':=by
 have n:=l (Dg w aa P c.length (by omega));have s:=l λaf (O:G No I af)=>(Di (O.e w (λx=>x)) aa ad (P.bC O) k (by omega) Q N c (aj.mod O (λ_ _ x=>x)) ak ai ah).mono λi w' ⟨az,aA,aB⟩=>(⟨az,aA.wide (λa d=>d.imp id (λd=>cC O.size d)),aB⟩:i=_/\aS w' (λa=>S a\/I.heap.size<=a) tb (fQ B k c).2/\G S af w');have T:=l w;have au:=l P;have lt:=w.lt;have Y:=l ad;clear w P aj ak ah ai ad;unfold iq wJ at *
 by_cases y:B.ay<(B.used:Int)+c.length
 .rw[D y] at n ⊢;rw[f (show ¬((15:Int),B).1=16 by simp)];have ar:=l y;generalize c.length=ay at *;clear y ar s;go_enter func80,ntmps80;go_wp2_with fail;refine(b n).mono ?_;rintro i am ⟨rfl,e⟩;have p:=l e;clear e;go_wp2;go_ret;exact⟨rfl,((b au).bC (b p)).wide (λ_ d=>.inl d),(b p).e (b T) (λx=>x),(b p).mono (λ_ _ x=>x.elim)⟩
 .rw[f y] at n ⊢;clear y;generalize fQ B k c=ao at *;obtain⟨aw,av⟩:=ao;generalize c.length=ay at *;simp only at s
  cases aw with
  |true=>
   simp only[iP];rw[f (by decide)];go_enter func80,ntmps80;go_wp2_with fail;refine(b n).mono ?_;rintro i am ⟨rfl,e⟩;have j:=e.e (b T) (λx=>x);have Z:=j.T 31;rw[ag] at Z;have ax:=j.lt;have v:=l ((b s) _ e);have R:=l j;have p:=l e;clear j e n s;go_wp2_with fail;refine(b v).mono ?_;rintro i z ⟨rfl,t2,r⟩;have M:=l t2;have A:=l (r.e (b R) (b Y))
   have H:=l (((b p).mono (S':=λa=>S a\/a=o) (λ_ _ x=>x.elim)).trans (r.mono (λ_ _ d=>.inl d)));clear t2 r v;go_wp2;go_ret;exact⟨rfl,b M,b A,b H⟩
  |false=>
   simp only[mg,jQ];rw[D trivial];go_enter func80,ntmps80;go_wp2_with fail;refine(b n).mono ?_;rintro i am ⟨rfl,e⟩;have j:=e.e (b T) (λx=>x);have Z:=j.T 31;rw[ag] at Z;have ax:=j.lt;have v:=l ((b s) _ e);have R:=l j;have p:=l e;clear j e n s;go_wp2_with fail;refine(b v).mono ?_;rintro i z ⟨rfl,t2,r⟩;have ab:=r.e (b R) (b Y);have ae:=l (wK ab _ aa);have M:=l t2;have A:=l ab
   have H:=l (((b p).mono (S':=λa=>S a\/a=o) (λ_ _ x=>x.elim)).trans (r.mono (λ_ _ d=>.inl d)));clear t2 r ab v;go_wp2_with fail;refine(b ae).mono ?_;rintro i w3 ⟨rfl,rfl⟩
   have ap:=l (show aS (z.setCell (u o 30 J) (g J)) (λa=>S a\/I.heap.size<=a) tb av/\X (z.setCell (u o 30 J) (g J)) o (W.setIfInBounds 30 (g J)) 121/\G (λa=>S a\/a=o) I (z.setCell (u o 30 J) (g J)) from
    ⟨(b M).mod (S':=λa=>a=o) ((G.refl _ z).at 30 _) (λa d i=>by
      subst i
      obtain d|d:=d
      .exact b Y d
      .omega),(b A).set 30 _,(b H).setCell (p:=u o 30 J) (.inl (.inr rfl)) _⟩)
   clear ae A H M;go_wp2;go_ret;exact⟨rfl,b ap⟩
theorem Mf(d:X I o W 121)(a:W[30]? =E (g J))(k:Option Addr)(e j:Nat):Calls h 80 #[g (E (u o 30 J)),C k e j] I λc w'=>c=q (F K 17)/\w'=I:=by
 have i:=l (Dh d a (e:Int));clear d a;go_enter func80,ntmps80;go_wp2_with fail;refine(b i).mono ?_;rintro c n ⟨rfl,rfl⟩;go_wp2;go_ret;exact⟨rfl,rfl⟩
structure lS (now:Int) (s:z):Prop where
 row:1<=s.row/\s.row<=20
 ae:1<=s.ae/\s.ae<=6
 st:0<=s.st/\s.st<=3
 cl:0<=s.cl/\s.cl<=3
 pa:0<=s.pa/\s.pa<=1000
 un:s.st=1->now<=s.un/\s.un - now<=4611686018427387904
 now:0<=now/\now<=4611686018427387904
theorem Dk(b:Int)(a:z):(iT b a).length<=36:=by
 have e:=(eM ((a.row - 1)* 6+a.ae - 1)).2;have i:=(eM (a.st* 4+a.cl)).2;have c:=(eM a.pa).2;have d:=(eM (a.un - b)).2;unfold iT gO;simp only[bG];have j:(if a.st=3 then[] else bX a.pa).length<=9:=by
  split
  .simp
  .exact c
 have k:(if a.st=1 then bX (a.un - b) else[]).length<=9:=by
  split
  .exact d
  .simp
 omega
theorem Dl{O:Nat->Prop}{w:U}(B:∃ad,db O w o ad Q S)(ak:gv O w)(aR:Q.length<1099511627700)(a:z)(aC:lS S a):Calls h 126 #[g (E (u o 0 J)),t #[F K a.row,F K a.ae,F K a.st,F K a.pa,F K a.cl,F K a.un]] w λA w'=>A=q (aq #[])/\eQ O w w' o (Q++iT S a) S:=by
 obtain⟨ad,B⟩:=B;obtain⟨az,aA,aN,aO,aP,H,aQ⟩:=aC;have aE:=(eM ((a.row - 1)* 6+a.ae - 1)).2;have aX:=(eM (a.st* 4+a.cl)).2;have aY:=(eM a.pa).2;have ae:=l (X.new w #[F K a.row,F K a.ae,F K a.st,F K a.pa,F K a.cl,F K a.un] 202);have W:=l (ak.box (m #[F K a.row,F K a.ae,F K a.st,F K a.pa,F K a.cl,F K a.un] 202))
 have d:=l (wF ⟨ad,B.box (m #[F K a.row,F K a.ae,F K a.st,F K a.pa,F K a.cl,F K a.un] 202)⟩ (b W) (by omega) a.row a.ae az aA);have H:=l H;clear B ak;have aT:(gO a.row a.ae).length<=9:=aE;have T:=l (show iT S a=gO a.row a.ae++bX (a.st* 4+a.cl)++(if a.st=3 then[] else bX a.pa)++(if a.st=1 then bX (a.un - S) else[]) from rfl);generalize iT S a=aI at *;generalize gO a.row a.ae=aK at *
 go_enter func126,ntmps126;go_wp2_with fail;refine(b d).mono ?_;rintro A e ⟨rfl,s⟩;have k:=s.mod.e (b ae) (λr=>r.2 rfl);have av:e.cell? (u w.heap.size 2 J)=E (F K a.st):=k.T 2;have aw:e.cell? (u w.heap.size 3 J)=E (F K a.pa):=k.T 3;have ax:e.cell? (u w.heap.size 4 J)=E (F K a.cl):=k.T 4;have ay:e.cell? (u w.heap.size 5 J)=E (F K a.un):=k.T 5;have aS:=k.lt;have aU:=s.mod.size
 have Y:=l ((b W).mod s.mod);have x:=l s;have aJ:=l (show ¬e.heap.size=w.heap.size by omega);clear s d ae k;go_upto_region 3 with fail;obtain⟨aG,am⟩:=(b x).ex;have d:=l (lQ ⟨aG,am.box (m #[F K a.st,F K a.pa,F K a.cl,F K a.un] 199)⟩ ((b Y).box _) (by simp only[bG];omega) (a.st* 4+a.cl) (by omega));have af:=l (X.new e #[F K a.st,F K a.pa,F K a.cl,F K a.un] 199)
 have ah:=l ((b Y).box (m #[F K a.st,F K a.pa,F K a.cl,F K a.un] 199));clear am av aw ax ay;go_wp2_with fail;refine(b d).mono ?_;rintro A ap ⟨rfl,N⟩;have p:=N.mod.e (b af) (λr=>r.2 rfl);have aj:ap.cell? (u e.heap.size 0 J)=E (F K a.st):=p.T 0;have au:ap.cell? (u e.heap.size 1 J)=E (F K a.pa):=p.T 1;have aZ:=p.lt;have Z:=l ((b ah).mod N.mod);have aa:=l N;have ag:=l p;clear N p d af
 by_cases j:a.st=3
 .have aD:(a.st !=3)=false:=by simp[j]
  have ao:(a.st==1)=false:=by simp[j]
  have n:=l (show ¬a.st=1 by omega);have v:=l j;clear j;have R:=l ((b aa).unbox);go_wp2;go_end0;refine⟨rfl,?_⟩;rw[b T,D (b v),f (b n),dG,dG,<-cQ];exact((b R).after (b x).mod (λ_ _ c=>c)).unbox
 .have aD:(a.st !=3)=true:=by simp[j]
  have v:=l j;clear j;have d:=l (lQ (b aa).ex (b Z) (by simp only[bG];omega) a.pa (by omega));go_wp2_with fail;refine(b d).mono ?_;rintro A w3 ⟨rfl,P⟩;have y:=P.mod.e (b ag) (λr=>r.2 rfl);have d0:w3.cell? (u e.heap.size 0 J)=E (F K a.st):=y.T 0;have d3:w3.cell? (u e.heap.size 3 J)=E (F K a.un):=y.T 3;have a0:=y.lt;have ai:=l ((b Z).mod P.mod);have ab:=l (P.after (b aa).mod (λ_ _ c=>c))
  clear P y d aj au ag;by_cases i:a.st=1
  case neg=>
   have ao:(a.st==1)=false:=by simp[i]
   have n:=l i;clear i;have R:=l ((b ab).unbox);go_wp2;go_end0;refine⟨rfl,?_⟩;rw[b T,f (b v),f (b n),dG,<-cQ,<-cQ];exact((b R).after (b x).mod (λ_ _ c=>c)).unbox
  .have ao:(a.st==1)=true:=by simp[i]
   have H:=(b H) i;have n:=l i;clear i;obtain⟨aH,I⟩:=(b ab).ex;have aj:w3.cell? (u o 1 J)=E (F K S):=I.e.T 1;have a1:=I.e.lt;have aW:K.wrap (a.un - S)=a.un - S:=bh _ (by omega) (by omega);have d:=l λM=>lQ ⟨aH,I.mod (S:=No) ((G.refl No w3).drewN M) (λ_ _ c=>c)⟩ ((b ai).mod ((G.refl No w3).drewN M)) (by simp only[bG];omega) (a.un - S) (by omega);have ar:=l λM=>(G.refl No w3).drewN M
   clear I ai Z ah Y W;go_wp2_with fail;go_region_law (refine fP rfl 109 _ _ rfl #[g (E (u o 0 J)),F K (a.un - S)] (by simp[aM,bN]) (λaL=>by kernel_rfl) (aq #[]) _ ((b d) 1) ?_;intro a2 aB)
   all_goals go_wp2
   all_goals go_end0
   all_goals
    refine⟨rfl,?_⟩;rw[b T,f (b v),D (b n),<-cQ,<-cQ,<-cQ];have aF:=(aB.after ((b ar) 1) (λ_ _ c=>c.elim)).after (b ab).mod (λ_ _ c=>c);exact(aF.unbox.after (b x).mod (λ_ _ c=>c)).unbox
theorem Mg(a:V)(b:U):(eb (.iface 189 a) 123 189 true).run h b=.ok (aq #[a,L true]) b:=by kernel_rfl
theorem Mh(b:V)(a:U):(eb (.iface 202 b) 123 189 true).run h a=.ok (aq #[t #[F K 0,F K 0,F K 0,F K 0,F K 0,F K 0,F K 0],L false]) a:=by kernel_rfl
theorem Mi(a:V)(b:U):(eb (.iface 202 a) 123 202 true).run h b=.ok (aq #[a,L true]) b:=by kernel_rfl
theorem Mj(b:V)(a:U):(eb (.iface 214 b) 123 189 true).run h a=.ok (aq #[t #[F K 0,F K 0,F K 0,F K 0,F K 0,F K 0,F K 0],L false]) a:=by kernel_rfl
theorem Mk(b:V)(a:U):(eb (.iface 214 b) 123 202 true).run h a=.ok (aq #[t #[F K 0,F K 0,F K 0,F K 0,F K 0,F K 0],L false]) a:=by kernel_rfl
theorem Ml(a:V)(b:U):(eb (.iface 214 a) 123 214 true).run h b=.ok (aq #[a,L true]) b:=by kernel_rfl
theorem Mm(b:V)(a:U):(eb (.iface 216 b) 123 189 true).run h a=.ok (aq #[t #[F K 0,F K 0,F K 0,F K 0,F K 0,F K 0,F K 0],L false]) a:=by kernel_rfl
theorem Mn(b:V)(a:U):(eb (.iface 216 b) 123 202 true).run h a=.ok (aq #[t #[F K 0,F K 0,F K 0,F K 0,F K 0,F K 0],L false]) a:=by kernel_rfl
theorem Mo(b:V)(a:U):(eb (.iface 216 b) 123 214 true).run h a=.ok (aq #[t #[F K 0,F K 0],L false]) a:=by kernel_rfl
theorem Mp(a:V)(b:U):(eb (.iface 216 a) 123 216 true).run h b=.ok (aq #[a,L true]) b:=by kernel_rfl
theorem Mq(b:V)(a:U):(eb (.iface 212 b) 123 189 true).run h a=.ok (aq #[t #[F K 0,F K 0,F K 0,F K 0,F K 0,F K 0,F K 0],L false]) a:=by kernel_rfl
theorem Mr(b:V)(a:U):(eb (.iface 212 b) 123 202 true).run h a=.ok (aq #[t #[F K 0,F K 0,F K 0,F K 0,F K 0,F K 0],L false]) a:=by kernel_rfl
theorem Ms(b:V)(a:U):(eb (.iface 212 b) 123 214 true).run h a=.ok (aq #[t #[F K 0,F K 0],L false]) a:=by kernel_rfl
theorem Mt(b:V)(a:U):(eb (.iface 212 b) 123 216 true).run h a=.ok (aq #[t #[F K 0,F K 0,F K 0,F K 0],L false]) a:=by kernel_rfl
theorem Mu(a:V)(b:U):(eb (.iface 212 a) 123 212 true).run h b=.ok (aq #[a,L true]) b:=by kernel_rfl
theorem Mv(b:V)(a:U):(eb (.iface 159 b) 123 189 true).run h a=.ok (aq #[t #[F K 0,F K 0,F K 0,F K 0,F K 0,F K 0,F K 0],L false]) a:=by kernel_rfl
theorem Mw(b:V)(a:U):(eb (.iface 159 b) 123 202 true).run h a=.ok (aq #[t #[F K 0,F K 0,F K 0,F K 0,F K 0,F K 0],L false]) a:=by kernel_rfl
theorem Mx(b:V)(a:U):(eb (.iface 159 b) 123 214 true).run h a=.ok (aq #[t #[F K 0,F K 0],L false]) a:=by kernel_rfl
theorem My(b:V)(a:U):(eb (.iface 159 b) 123 216 true).run h a=.ok (aq #[t #[F K 0,F K 0,F K 0,F K 0],L false]) a:=by kernel_rfl
theorem Mz(b:V)(a:U):(eb (.iface 159 b) 123 212 true).run h a=.ok (aq #[t #[F K 0,F K 0,F K 0],L false]) a:=by kernel_rfl
theorem MD(a:V)(b:U):(eb (.iface 159 a) 123 159 true).run h b=.ok (aq #[a,L true]) b:=by kernel_rfl
theorem Dm(b:V)(a:U):(eb (.iface 196 b) 123 189 true).run h a=.ok (aq #[t #[F K 0,F K 0,F K 0,F K 0,F K 0,F K 0,F K 0],L false]) a:=by kernel_rfl
theorem Dn(b:V)(a:U):(eb (.iface 196 b) 123 202 true).run h a=.ok (aq #[t #[F K 0,F K 0,F K 0,F K 0,F K 0,F K 0],L false]) a:=by kernel_rfl
theorem Dp(b:V)(a:U):(eb (.iface 196 b) 123 214 true).run h a=.ok (aq #[t #[F K 0,F K 0],L false]) a:=by kernel_rfl
theorem Dq(b:V)(a:U):(eb (.iface 196 b) 123 216 true).run h a=.ok (aq #[t #[F K 0,F K 0,F K 0,F K 0],L false]) a:=by kernel_rfl
theorem Dr(b:V)(a:U):(eb (.iface 196 b) 123 212 true).run h a=.ok (aq #[t #[F K 0,F K 0,F K 0],L false]) a:=by kernel_rfl
theorem Ds(b:V)(a:U):(eb (.iface 196 b) 123 159 true).run h a=.ok (aq #[t #[F K 0],L false]) a:=by kernel_rfl
theorem Dt(a:V)(b:U):(eb (.iface 196 a) 123 196 true).run h b=.ok (aq #[a,L true]) b:=by kernel_rfl
attribute [local go_sem] Mg
attribute [local go_sem] Mh Mi
attribute [local go_sem] Mj Mk Ml
attribute [local go_sem] Mm Mn Mo Mp
attribute [local go_sem] Mq Mr Ms Mt Mu
attribute [local go_sem] Mv Mw Mx My Mz MD
attribute [local go_sem] Dm Dn Dp Dq Dr Ds Dt
theorem db.j8(d:db j I o i w S)(b c:Obj):db (λa=>(j a/\a≠I.heap.size)/\a≠I.heap.size+1) ((I.alloc b).alloc c) o i w S:=by
 have:=(d.box b).box c;rw[bW] at this;exact this
theorem gv.j8(d:gv j I)(b c:Obj):gv (λa=>(j a/\a≠I.heap.size)/\a≠I.heap.size+1) ((I.alloc b).alloc c):=by
 have:=(d.box b).box c;rw[bW] at this;exact this
theorem eQ.qZ{w2:U}{c d:Obj}(e:eQ (λa=>(j a/\a≠I.heap.size)/\a≠I.heap.size+1) ((I.alloc c).alloc d) w2 o w S):eQ j I w2 o w S:=by
 obtain⟨⟨l,k⟩,i⟩:=e;exact⟨⟨l,k.wide (λ_ b=>b.1.1)⟩,((((G.refl No I).alloc c).alloc d).mono (λ_ _ n=>n.elim)).trans (i.mono (λ_ _ b=>b.1.1))⟩
theorem X.rh(c:U)(d:Obj)(b:Array V)(a:TypeId):X ((c.alloc d).alloc (m b a)) (c.heap.size+1) b a:=by
 have:=X.new (c.alloc d) b a;rw[bW] at this;exact this
theorem ME(i:∃r,db j I o r w S)(A:gv j I)(ad:w.length<1099511627600)(c:Int)(P:0<=c/\c<32)(p:O)(B:O.fit p):Calls h 110 #[g (E (u o 0 J)),t #[F K c,.iface 189 (t #[F K p.rows,F K p.y,F K p.Z,F K p.af,F K p.ag,F K p.ai,F K p.aj])]] I λn w'=>n=q (aq #[])/\eQ j I w' o (w++((32* 1+c)::jm p)) S:=by
 obtain⟨r,i⟩:=i;have s:=l (X.rh I (m #[F K c,.iface 189 (t #[F K p.rows,F K p.y,F K p.Z,F K p.af,F K p.ag,F K p.ai,F K p.aj])] 125) #[F K p.rows,F K p.y,F K p.Z,F K p.af,F K p.ag,F K p.ai,F K p.aj] 189);have y:=l (A.j8 (m #[F K c,.iface 189 (t #[F K p.rows,F K p.y,F K p.Z,F K p.af,F K p.ag,F K p.ai,F K p.aj])] 125) (m #[F K p.rows,F K p.y,F K p.Z,F K p.af,F K p.ag,F K p.ai,F K p.aj] 189))
 have v:=l (qW ⟨r,i.j8 (m #[F K c,.iface 189 (t #[F K p.rows,F K p.y,F K p.Z,F K p.af,F K p.ag,F K p.ai,F K p.aj])] 125) (m #[F K p.rows,F K p.y,F K p.Z,F K p.af,F K p.ag,F K p.ai,F K p.aj] 189)⟩ (b y) (by omega) 1 c (by omega) P);clear i A;have M:=l B;clear B;go_enter func110,ntmps110;go_wp2_with fail;refine(b v).mono ?_;rintro n d ⟨rfl,e⟩;have a:=e.mod.e (b s) (λk=>k.2 rfl)
 have R:d.cell? ⟨I.heap.size+1,0,J⟩=E (F K p.rows):=a.T 0;have T:d.cell? ⟨I.heap.size+1,1,J⟩=E (F K p.y):=a.T 1;have W:d.cell? ⟨I.heap.size+1,2,J⟩=E (F K p.Z):=a.T 2;have Y:d.cell? ⟨I.heap.size+1,3,J⟩=E (F K p.af):=a.T 3;have Z:d.cell? ⟨I.heap.size+1,4,J⟩=E (F K p.ag):=a.T 4;have aa:d.cell? ⟨I.heap.size+1,5,J⟩=E (F K p.ai):=a.T 5;have ab:d.cell? ⟨I.heap.size+1,6,J⟩=E (F K p.aj):=a.T 6
 have ae:=a.lt;have H:=l ((b y).mod e.mod);have z:=l e;have x:=l (CW e.ex (b H) (by simp only[bG,ri];omega) p (b M));clear e a v s;go_wp2_with fail;refine(b x).mono ?_;rintro n af ⟨rfl,G⟩;have N:=l ((G.after (b z).mod (λ_ _ Q=>Q)).qZ);clear G x z;go_wp2;go_end0;refine⟨rfl,?_⟩;have k:=b N;rw[cQ] at k;exact k
theorem MH(k:∃r,db j I o r w S)(B:gv j I)(ab:w.length<1099511627600)(d:Int)(P:0<=d/\d<32)(a:z)(G:lS S a):Calls h 110 #[g (E (u o 0 J)),t #[F K d,.iface 202 (t #[F K a.row,F K a.ae,F K a.st,F K a.pa,F K a.cl,F K a.un])]] I λp w'=>p=q (aq #[])/\eQ j I w' o (w++((32* 2+d)::iT S a)) S:=by
 obtain⟨r,k⟩:=k;have s:=l (X.rh I (m #[F K d,.iface 202 (t #[F K a.row,F K a.ae,F K a.st,F K a.pa,F K a.cl,F K a.un])] 125) #[F K a.row,F K a.ae,F K a.st,F K a.pa,F K a.cl,F K a.un] 202);have y:=l (B.j8 (m #[F K d,.iface 202 (t #[F K a.row,F K a.ae,F K a.st,F K a.pa,F K a.cl,F K a.un])] 125) (m #[F K a.row,F K a.ae,F K a.st,F K a.pa,F K a.cl,F K a.un] 202))
 have v:=l (qW ⟨r,k.j8 (m #[F K d,.iface 202 (t #[F K a.row,F K a.ae,F K a.st,F K a.pa,F K a.cl,F K a.un])] 125) (m #[F K a.row,F K a.ae,F K a.st,F K a.pa,F K a.cl,F K a.un] 202)⟩ (b y) (by omega) 2 d (by omega) P);clear k B;have N:=l G;clear G;go_enter func110,ntmps110;go_wp2_with fail;refine(b v).mono ?_;rintro p e ⟨rfl,i⟩;have c:=i.mod.e (b s) (λn=>n.2 rfl)
 have R:e.cell? ⟨I.heap.size+1,0,J⟩=E (F K a.row):=c.T 0;have T:e.cell? ⟨I.heap.size+1,1,J⟩=E (F K a.ae):=c.T 1;have W:e.cell? ⟨I.heap.size+1,2,J⟩=E (F K a.st):=c.T 2;have Y:e.cell? ⟨I.heap.size+1,3,J⟩=E (F K a.pa):=c.T 3;have Z:e.cell? ⟨I.heap.size+1,4,J⟩=E (F K a.cl):=c.T 4;have aa:e.cell? ⟨I.heap.size+1,5,J⟩=E (F K a.un):=c.T 5;have ad:=c.lt;have M:=l ((b y).mod i.mod);have A:=l i
 have x:=l (Dl i.ex (b M) (by simp only[bG,ri];omega) a (b N));clear i c v s;go_wp2_with fail;refine(b x).mono ?_;rintro p ae ⟨rfl,H⟩;have O:=l ((H.after (b A).mod (λ_ _ Q=>Q)).qZ);clear H x A;go_wp2;go_end0;refine⟨rfl,?_⟩;have n:=b O;rw[cQ] at n;exact n
theorem MI(k:∃r,db j I o r w S)(A:gv j I)(W:w.length<1099511627600)(d:Int)(O:0<=d/\d<32)(c a:Int)(P:1<=c/\c<=20)(N:1<=a/\a<=6):Calls h 110 #[g (E (u o 0 J)),t #[F K d,.iface 214 (t #[F K c,F K a])]] I λp w'=>p=q (aq #[])/\eQ j I w' o (w++((32* 3+d)::gO c a)) S:=by
 obtain⟨r,k⟩:=k;have s:=l (X.rh I (m #[F K d,.iface 214 (t #[F K c,F K a])] 125) #[F K c,F K a] 214);have y:=l (A.j8 (m #[F K d,.iface 214 (t #[F K c,F K a])] 125) (m #[F K c,F K a] 214));have v:=l (qW ⟨r,k.j8 (m #[F K d,.iface 214 (t #[F K c,F K a])] 125) (m #[F K c,F K a] 214)⟩ (b y) (by omega) 3 d (by omega) O);clear k A;go_enter func110,ntmps110;go_wp2_with fail;refine(b v).mono ?_
 rintro p G ⟨rfl,e⟩;have i:=e.mod.e (b s) (λn=>n.2 rfl);have R:G.cell? ⟨I.heap.size+1,0,J⟩=E (F K c):=i.T 0;have T:G.cell? ⟨I.heap.size+1,1,J⟩=E (F K a):=i.T 1;have Y:=i.lt;have H:=l ((b y).mod e.mod);have z:=l e;have x:=l (wF e.ex (b H) (by simp only[bG,ri];omega) c a P N);clear e i v s;go_wp2_with fail;refine(b x).mono ?_;rintro p Z ⟨rfl,B⟩;have M:=l ((B.after (b z).mod (λ_ _ Q=>Q)).qZ)
 clear B x z;go_wp2;go_end0;refine⟨rfl,?_⟩;have n:=b M;rw[cQ] at n;exact n
theorem MJ(v:∃y,db j I o y w S)(R:gv j I)(aj:w.length<1099511627600)(e:Int)(ag:0<=e/\e<32)(d a rt c:Int)(ah:1<=d/\d<=20)(ae:1<=a/\a<=6)(ai:1<=rt/\rt<=20)(af:1<=c/\c<=6):Calls h 110 #[g (E (u o 0 J)),t #[F K e,.iface 216 (t #[F K d,F K a,F K rt,F K c])]] I λs w'=>s=q (aq #[])/\eQ j I w' o (w++((32* 4+e)::(gO d a++gO rt c))) S:=by
 obtain⟨y,v⟩:=v;have A:=l (X.rh I (m #[F K e,.iface 216 (t #[F K d,F K a,F K rt,F K c])] 125) #[F K d,F K a,F K rt,F K c] 216);have N:=l (R.j8 (m #[F K e,.iface 216 (t #[F K d,F K a,F K rt,F K c])] 125) (m #[F K d,F K a,F K rt,F K c] 216));have G:=l (qW ⟨y,v.j8 (m #[F K e,.iface 216 (t #[F K d,F K a,F K rt,F K c])] 125) (m #[F K d,F K a,F K rt,F K c] 216)⟩ (b N) (by omega) 4 e (by omega) ag)
 clear v R;have ao:(gO d a).length<=9:=(eM _).2;go_enter func110,ntmps110;go_wp2_with fail;refine(b G).mono ?_;rintro s x ⟨rfl,n⟩;have i:=n.mod.e (b A) (λk=>k.2 rfl);have Z:x.cell? ⟨I.heap.size+1,0,J⟩=E (F K d):=i.T 0;have aa:x.cell? ⟨I.heap.size+1,1,J⟩=E (F K a):=i.T 1;have ab:x.cell? ⟨I.heap.size+1,2,J⟩=E (F K rt):=i.T 2;have ad:x.cell? ⟨I.heap.size+1,3,J⟩=E (F K c):=i.T 3;have ak:=i.lt
 have O:=l ((b N).mod n.mod);have P:=l n;have H:=l (wF n.ex (b O) (by simp only[bG,ri];omega) d a ah ae);have B:=l i;clear n i G A;go_wp2_with fail;refine(b H).mono ?_;rintro s W ⟨rfl,p⟩;have r:=p.mod.e (b B) (λk=>k.2 rfl);have d2:W.cell? ⟨I.heap.size+1,2,J⟩=E (F K rt):=r.T 2;have d3:W.cell? ⟨I.heap.size+1,3,J⟩=E (F K c):=r.T 3;have am:=r.lt
 have M:=l (wF p.ex ((b O).mod p.mod) (by simp only[bG,ri];omega) rt c ai af);have Q:=l (p.after (b P).mod (λ_ _ z=>z));clear p r H P B Z aa ab ad;go_wp2_with fail;refine(b M).mono ?_;rintro s w3 ⟨rfl,T⟩;have Y:=l ((T.after (b Q).mod (λ_ _ z=>z)).qZ);clear T M Q;go_wp2;go_end0;refine⟨rfl,?_⟩;have k:=b Y;rw[cQ,cQ] at k;exact k
theorem MK(n:∃s,db j I o s w S)(G:gv j I)(aa:w.length<1099511627600)(e:Int)(P:0<=e/\e<32)(d a c:Int)(R:0<=d/\d<9223372036854775808)(O:0<=a/\a<9223372036854775808)(Q:0<=c/\c<9223372036854775808):Calls h 110 #[g (E (u o 0 J)),t #[F K e,.iface 212 (t #[F K d,F K a,F K c])]] I λr w'=>r=q (aq #[])/\eQ j I w' o (w++((32* 5+e)::(bX d++bX a++bX c))) S:=by
 obtain⟨s,n⟩:=n;have x:=l (X.rh I (m #[F K e,.iface 212 (t #[F K d,F K a,F K c])] 125) #[F K d,F K a,F K c] 212);have A:=l (G.j8 (m #[F K e,.iface 212 (t #[F K d,F K a,F K c])] 125) (m #[F K d,F K a,F K c] 212));have y:=l (qW ⟨s,n.j8 (m #[F K e,.iface 212 (t #[F K d,F K a,F K c])] 125) (m #[F K d,F K a,F K c] 212)⟩ (b A) (by omega) 5 e (by omega) P);clear n G;go_enter func110,ntmps110
 go_wp2_with fail;refine(b y).mono ?_;rintro r v ⟨rfl,k⟩;have i:=k.mod.e (b x) (λp=>p.2 rfl);have W:v.cell? ⟨I.heap.size+1,0,J⟩=E (F K d):=i.T 0;have Y:v.cell? ⟨I.heap.size+1,1,J⟩=E (F K a):=i.T 1;have Z:v.cell? ⟨I.heap.size+1,2,J⟩=E (F K c):=i.T 2;have ab:=i.lt;have M:=l ((b A).mod k.mod);have B:=l k;have z:=l (CV k.ex (b M) (by simp only[bG,ri];omega) d a c R O Q);clear k i y x;go_wp2_with fail
 refine(b z).mono ?_;rintro r ad ⟨rfl,H⟩;have N:=l ((H.after (b B).mod (λ_ _ T=>T)).qZ);clear H z B;go_wp2;go_end0;refine⟨rfl,?_⟩;have p:=b N;rw[cQ] at p;exact p
theorem ML(s:∃A,db j I o A w S)(P:gv j I)(am:w.length<1099511627600)(r:Int)(a:Int)(ar:0<=S/\S<=a/\a<=4611686018427387904):Calls h 110 #[g (E (u o 0 J)),t #[F K r,.iface 159 (t #[F K a])]] I λp w'=>p=q (aq #[])/\eQ j I w' o (w++(192::bX (a - S))) a:=by
 obtain⟨A,s⟩:=s;have H:=l (X.rh I (m #[F K r,.iface 159 (t #[F K a])] 125) #[F K a] 159);have O:=l (P.j8 (m #[F K r,.iface 159 (t #[F K a])] 125) (m #[F K a] 159));have N:=l (qW ⟨A,s.j8 (m #[F K r,.iface 159 (t #[F K a])] 125) (m #[F K a] 159)⟩ (b O) (by omega) 6 0 (by omega) (by omega));clear s P;go_enter func110,ntmps110;go_wp2_with fail;refine(b N).mono ?_;rintro p i ⟨rfl,e⟩
 have n:=e.mod.e (b H) (λz=>z.2 rfl);have ag:i.cell? ⟨I.heap.size+1,0,J⟩=E (F K a):=n.T 0;have ao:=n.lt;have W:=l ((b O).mod e.mod);have Z:=l e;obtain⟨ad,v⟩:=e.ex;have d1:i.cell? (u o 1 J)=E (F K S):=v.e.T 1;have av:=v.e.lt;have au:K.wrap (a - S)=a - S:=bh _ (by omega) (by omega)
 have T:=l (lQ ⟨ad,v.mod (S:=No) ((G.refl No i).drewN 1) (λ_ _ k=>k)⟩ ((b W).mod ((G.refl No i).drewN 1)) (by simp only[bG,ri];omega) (a - S) (by omega));have M:=l ((G.refl No i).drewN 1);have R:=l n;clear v e n N H;go_wp2_with fail
 go_region_law (refine fP rfl 109 _ _ rfl #[g (E (u o 0 J)),F K (a - S)] (by simp[aM,bN]) (λae=>by kernel_rfl) (aq #[]) _ (b T) ?_;intro B x;have y:=(b M|>.mono (S':=λd=>(j d/\d≠I.heap.size)/\d≠I.heap.size+1) (λ_ _ k=>k.elim)|>.trans x.mod).e (b R) (λz=>z.2 rfl);have ah:B.cell? ⟨I.heap.size+1,0,J⟩=E (F K a):=y.T 0;have ap:=y.lt;obtain⟨ax,c⟩:=x.ex;obtain⟨af,aw,rfl⟩:=aR c.row;have ai:B.cell? (u o 1 J)=E (F K S):=c.e.T 1;have aj:=c.e.aC;have ak:=c.e.lt;have aa:=l (x.mod);have Y:=l c;clear x y c)
 all_goals go_wp2
 all_goals go_end0
 all_goals
  refine⟨rfl,?_⟩;have c:=b Y;have Q:db (λd=>(j d/\d≠I.heap.size)/\d≠I.heap.size+1) (B.setCell (u o 1 J) (F K a)) o _ (w++[32* 6+0]++bX (a - S)) a:=⟨c.e.set 1 _,jh c.row (λp=>(c.own o p).2 rfl) _,c.own,c.ge,c.len⟩;have ab:=(((b Z).mod.trans ((b M).mono (λ_ _ k=>k.elim))).trans (b aa)).setCell (p:=u o 1 J) (.inl c.ge) (F K a);rw[cQ] at Q;exact eQ.qZ ⟨⟨_,Q⟩,ab⟩
theorem Du{w':U}(c:G No I w'){a:Addr}(b:I.cell? a=E i):w'.cell? a=E i:=by
 have d:=jk I a b;unfold World.cell? at b ⊢;rw[c.block _ d (λe=>e)];exact b
def mI(c:Int)(a:List aD)(b:Nat):Int:=(a.take b).foldl ib c
theorem MP(c:Int)(a:List aD)(b:Nat)(hi:b<a.length):mI c a (b+1)=ib (mI c a b) a[b]:=by
 unfold mI;rw[Dv hi,sI];rfl
def j9(c:Int)(a:List aD)(b:Nat):List Int:=ic c (a.take b)
theorem Dw(b:Int)(a fs:List aD):ic b (a++fs)=ic b a++ic (a.foldl ib b) fs:=by
 induction a generalizing b with
 |nil=>rfl
 |cons d a c=>simp only[List.cons_append,ic,c,cQ,jT]
theorem MQ(c:Int)(a:List aD)(b:Nat)(hi:b<a.length):j9 c a (b+1)=j9 c a b++ia (mI c a b) a[b]:=by
 unfold j9 mI;rw[Dv hi,Dw];simp[ic]
theorem eQ.start{w w':U}{now:Int}:db (λa=>w.heap.size<=a) (w.alloc (m #[C J 0 0,F K now] 193)) w.heap.size (C J 0 0) [] now:=
 ⟨X.new w _ _,dx _ _ _ _,λa b=>by simp[aV] at b,cz _,by simp⟩
structure uD (w w':U) (v:V) (l:List Int):Prop where
 row:w'.ownsRow 0 5 1 v l.length (dt l)
 new:∀k,v.ownBlock=E k->w.heap.size<=k
 mod:G No w w'
theorem Dx(e:Int)(z W j aH:Nat)(c:U)(d:List aD)(ao:d.length=j)(a5:1<=j/\j<=21)(A:Nat->Int)(I:Nat->TypeId)(M:Nat->V)(S:∀a,a<j->c.cell? ⟨z,W+a* 2,J⟩=E (F K (A a))/\c.cell? ⟨z,W+a* 2+1,J⟩=E (.iface (I a) (M a)))(aJ:z<c.heap.size)(H:∀a,a<=j->(j9 e d a).length<=500000)
  (O:∀a (hi:a<d.length) y,G No c y->∀Z ab,ab.length<=600000->(∃n,db (λi=>c.heap.size<=i) y Z n ab (mI e d a))->Calls h 110 #[g (E (u Z 0 J)),t #[F K (A a),.iface (I a) (M a)]] y λo aE=>o=q (aq #[])/\eQ (λi=>c.heap.size<=i) y aE Z (ab++ia (mI e d a) d[a]) (ib (mI e d a) d[a])):
  Calls h 81 #[F K e,C (E (u z W J)) j aH] c λo w'=>∃n,o=q n/\uD c w' n (aT e d):=by
 have af:=l (lQ (O:=λi=>c.heap.size<=i) ⟨_,eQ.start (w:=c) (w':=c) (now:=e)⟩ (λi s=>cC ((G.refl No c).alloc _).size s) (by simp) (j:Int) (by omega));have ag:=l ((G.refl No c).alloc (m #[C J 0 0,F K e] 193));have ad:=l S;have P:=l H;have O:=l O;have au:=l aJ;have x:=l ao;have az:=l (MP e d);have av:=l (MQ e d);obtain⟨aP,aS,aU,aW,w⟩:=fq sj;clear S H ao;go_enter func81,ntmps81;go_wp2_with fail
 refine(b af).mono ?_;rintro o Y ⟨rfl,B⟩;have N:=l B;have aO:=B.mod.size;clear B af;go_wp2_with fail;go_loopw [15] (λX wr=>∃a:Nat,X=F K a/\a<=j/\Hid (G No c wr)/\Hid (∃n,db (λi=>c.heap.size<=i) wr c.heap.size n (bX (j:Int)++j9 e d a) (mI e d a))) (λX _=>j - (intOf X).toNat)
 case atStart=>
  refine⟨0,rfl,by omega,?_,?_⟩
  .exact(b ag).trans' (b N).mod (λi (aQ:c.heap.size<=i) s=>by omega)
  .have:=(b N).ex;rw[qJ] at this;show Hid (∃n,db (λi=>c.heap.size<=i) Y c.heap.size n (bX (j:Int)++[]) e);rw[dG];exact this
 case round=>
  obtain⟨a,rfl,hi,r,R⟩:=hrel;clear N aO ag;by_cases am:a<j
  .have aL:(a:Int)<(j:Int):=by omega
   have a1:(0:Int)<=a:=by omega
   have a2:K.wrap ((a:Int)+1)=((a+1:Nat):Int):=by rw[bh _ (by omega) (by omega)];rfl
   have aY:=Du (b r) ((b ad) a am).1;have aj:=Du (b r) ((b ad) a am).2;have aX:=bj (b au) (b r).size;have p:G No wr (wr.alloc (m #[F K (A a),.iface (I a) (M a)] 125)):=(G.refl _ _).alloc _
   have ae:=l ((b O) a (by have:=b x;omega) _ ((b r).trans p) c.heap.size (bX (j:Int)++j9 e d a) (by
    have B:=(b P) a hi
    have a0:=(eM (j:Int)).2
    simp only[bG]
    omega) (by
    obtain⟨n,k⟩:=b R
    exact⟨n,k.mod p (λ_ _ aa=>aa)⟩))
   have Q:=l p;clear p;generalize I a=a7 at *;generalize M a=ba at *;generalize A a=aZ at *;go_wp2_with fail;refine(b ae).mono ?_;rintro o w3 ⟨rfl,w⟩;have ak:a<d.length:=by have:=b x;omega
   have aF:=l w.ex;have aC:=l (((b r).trans (b Q)).trans' w.mod (λi (aQ:c.heap.size<=i) s=>by omega));have ap:=l ((b az) a ak);have ar:=l ((b av) a ak);clear w ae;go_wp2;refine⟨⟨a+1,rfl,by omega,aC,?_⟩,by simp[intOf];omega⟩;rw[b ap,b ar,<-cQ];exact aF
  .have aL:¬(a:Int)<(j:Int):=by omega
   obtain rfl:a=j:=by omega
   obtain⟨n,k⟩:=b R;obtain⟨ah,ai,rfl⟩:=aR k.row;have S:wr.cell? (u c.heap.size 0 J)=E (C ah (bX (a:Int)++j9 e d a).length ai):=k.e.T 0;have a4:=k.e.lt;have p:G No wr (wr.alloc (m #[.int .u8 229] 5)):=(G.refl _ _).alloc _;have aw:=l (p.owns k.row (λ_ _ aa=>aa));have ax:=l (vP wr 229 5);have aA:=l k;have H:=(b P) a hi;have a3:=(eM (a:Int)).2
   have aB:=l (show(bX (a:Int)++j9 e d a).length=(bX (a:Int)).length+(j9 e d a).length by simp)
   have ay:=l (show aT e d=bX (a:Int)++j9 e d a++[229] from by
    unfold aT j9
    rw[b x,wk (by have:=b x;omega)])
   have Q:=l ((b r).trans p);clear k p H R;generalize aI:bX (a:Int)++j9 e d a=v at *;clear aI;have a6:v.length<=600000:=by have:=b aB;have:=(b P) a hi;omega
   go_wp2_with (at_builtin;refine fJ rfl (.tmp 23) (.tmp 24) 103 rfl 5 aP _ 1 1 underlying103 aS aU aW w rfl (by decide) (C ah v.length ai) v.length (dt v) (by simp[aM]) (by exact b aw) (C (E (u wr.heap.size 0 J)) 1 1) 1 [.int .u8 229] (by simp[aM]) (by exact b ax) rfl (by intro a8 hu;simp at hu;subst hu;rfl) (by unfold maxLen;omega) (by omega) ?_;intro a9 Y T aK aN;obtain⟨aG,aj,rfl⟩:=aR T)
   go_ret;have k:=b aA;refine⟨_,rfl,?_⟩;show uD c Y (C aG (v.length+1) aj) (aT e d);rw[b ay];refine⟨?_,λi s=>?_,(b Q).grown aK (λi s=>.inr (k.own i s).1)⟩
   .unfold dt at T ⊢;rw[bG,qK];exact T
   .obtain o|o:=aN i s
    .exact(k.own i o).1
    .rw[bW] at o;have:=(b r).size;omega
def eH(a:aD):V:=
 if a.kind=1 then kW a.c
 else if a.kind=2 then gF a.dm.row a.dm.ae a.dm.st a.dm.pa a.dm.cl a.dm.un
 else if a.kind=3 then oK a.dm.row a.dm.ae
 else if a.kind=4 then qQ a.dm.row a.dm.ae a.dd a.de
 else if a.kind=5 then pQ a.c
 else pL a.now
structure jG (now:Int) (e:aD):Prop where
 kind:1<=e.kind/\e.kind<=6
 fl:e.kind≠6->0<=e.fl/\e.fl<32
 start:e.kind=1->(0<=e.c.rows/\e.c.rows<128)/\(0<=e.c.y/\e.c.y<128)/\(0<=e.c.Z/\e.c.Z<128)/\∀k,0<=e.c.cD k/\e.c.cD k<16384
 fill:e.kind=2->lS now e.dm
 at_:e.kind=3\/e.kind=4->(1<=e.dm.row/\e.dm.row<=20)/\(1<=e.dm.ae/\e.dm.ae<=6)
 dest:e.kind=4->(1<=e.dd/\e.dd<=20)/\(1<=e.de/\e.de<=6)
 zr:e.kind=5->(0<=e.c.rows/\e.c.rows<128)/\(0<=e.c.y/\e.c.y<128)/\(0<=e.c.Z/\e.c.Z<128)
 pass:e.kind=6->0<=now/\now<=e.now/\e.now<=4611686018427387904
theorem Dy(d:∃G,db j I o G w S)(e:gv j I)(i:w.length<1099511627600)(a:aD)(b:jG S a):Calls h 110 #[g (E (u o 0 J)),t #[F K a.fl,eH a]] I λB w'=>B=q (aq #[])/\eQ j I w' o (w++ia S a) (ib S a):=by
 unfold eH ia ib;have H:=b.kind;by_cases l:a.kind=1
 .rw[D l,D l,f (by omega)];obtain⟨x,y,z,A⟩:=b.start l;exact ME d e i a.fl (b.fl (by omega)) a.c ⟨by omega,by omega,by omega,λv=>by have:=A v;omega⟩
 rw[f l,f l];by_cases n:a.kind=2
 .rw[D n,D n,f (by omega)];exact MH d e i a.fl (b.fl (by omega)) a.dm (b.fill n)
 rw[f n,f n];by_cases k:a.kind=3
 .rw[D k,D k,f (by omega)];exact MI d e i a.fl (b.fl (by omega)) _ _ (b.at_ (.inl k)).1 (b.at_ (.inl k)).2
 rw[f k,f k];by_cases c:a.kind=4
 .rw[D c,D c,f (by omega)];exact MJ d e i a.fl (b.fl (by omega)) _ _ _ _ (b.at_ (.inr c)).1 (b.at_ (.inr c)).2 (b.dest c).1 (b.dest c).2
 rw[f c,f c];by_cases p:a.kind=5
 .rw[D p,D p,f (by omega)];obtain⟨x,y,z⟩:=b.zr p;exact MK d e i a.fl (b.fl (by omega)) _ _ _ (by omega) (by omega) (by omega)
 rw[f p,f p];have r:a.kind=6:=by omega
 rw[D r,D r];have s:=b.pass r;exact ML d e i a.fl a.now ⟨s.1,s.2.1,s.2.2⟩
theorem wL(c:jG S N):(ia S N).length<=40:=by
 unfold ia;have w:=c.kind;by_cases b:N.kind=1
 .rw[D b];obtain⟨x,y,z,a⟩:=c.start b;have k:=wG N.c;have l:=jS (a 0).2;have n:=jS (a 1).2;have o:=jS (a 2).2;have p:=jS (a 3).2;simp only[jm,eL,bG];simp only[O.cD] at l n o p;omega
 rw[f b];by_cases d:N.kind=2
 .rw[D d];have:=Dk S N.dm;simp only[eL];omega
 rw[f d];have k:=(eM ((N.dm.row - 1)* 6+N.dm.ae - 1)).2;have r:=(eM ((N.dd - 1)* 6+N.de - 1)).2;have s:=wG N.c;have v:=(eM (N.now - S)).2;by_cases e:N.kind=3
 .rw[D e];simp only[gO,eL];omega
 rw[f e];by_cases i:N.kind=4
 .rw[D i];simp only[gO,eL,bG];omega
 rw[f i];by_cases j:N.kind=5
 .rw[D j];simp only[eL];omega
 rw[f j,D (by omega)];simp only[eL];omega
def kZ(a:Int):Prop:=0<=a/\a<256
theorem fS(c:∀a∈w,kZ a)(d:∀a∈Q,kZ a):∀a∈w++Q,kZ a:=λa e=>by
 obtain b|b:=jR.1 e
 .exact c a b
 .exact d a b
theorem all_cons{a:Int}(d:kZ a)(e:∀b∈w,kZ b):∀b∈a::w,kZ b:=λb i=>by
 obtain c|c:=List.mem_cons.1 i
 .subst c;exact d
 .exact e b c
theorem all_nil:∀a∈([]:List Int),kZ a:=λa b=>by cases b
theorem fC{x:Int}(b:x<9223372036854775808):∀a∈bX x,kZ a:=Jg b
theorem Dz{a:z}(d:lS S a):∀b∈iT S a,kZ b:=by
 obtain⟨i,j,k,l,n,e,o⟩:=d;unfold iT gO;refine fS (fS (fS (fC (by omega)) (fC (by omega))) ?_) ?_
 .split
  .exact all_nil
  .exact fC (by omega)
 .split
  .rename_i c;have:=e c;exact fC (by omega)
  .exact all_nil
theorem DA(a:jG S N):∀l∈ia S N,kZ l:=by
 unfold ia;have s:=a.kind;have b:=a.fl;by_cases e:N.kind=1
 .rw[D e];obtain⟨v,w,x,d⟩:=a.start e;have n:=d 0;have o:=d 1;have p:=d 2;have r:=d 3;simp only[O.cD] at n o p r;have:=b (by omega);refine all_cons ⟨by omega,by omega⟩ ?_;unfold jm lG;exact fS (fS (fS (fS (fS (fS (fC (by omega)) (fC (by omega))) (fC (by omega))) (fC (by omega))) (fC (by omega))) (fC (by omega))) (fC (by omega))
 rw[f e];by_cases i:N.kind=2
 .rw[D i];have:=b (by omega);exact all_cons ⟨by omega,by omega⟩ (Dz (a.fill i))
 rw[f i];by_cases j:N.kind=3
 .rw[D j];have:=b (by omega);have:=a.at_ (.inl j);exact all_cons ⟨by omega,by omega⟩ (fC (by omega))
 rw[f j];by_cases c:N.kind=4
 .rw[D c];have:=b (by omega);have:=a.at_ (.inr c);have:=a.dest c;exact all_cons ⟨by omega,by omega⟩ (fS (fC (by omega)) (fC (by omega)))
 rw[f c];by_cases k:N.kind=5
 .rw[D k];have:=b (by omega);have:=a.zr k;exact all_cons ⟨by omega,by omega⟩ (fS (fS (fC (by omega)) (fC (by omega))) (fC (by omega)))
 rw[f k,D (by omega)];have:=a.pass (by omega);exact all_cons ⟨by omega,by omega⟩ (fC (by omega))
theorem zt(b:jG S N):(aT S [N]).length<=42:=by
 have:=wL b;have a:bX (([N]:List aD).length:Int)=[1]:=BL (by simp) (by simp);unfold aT;rw[a];simp only[ic,bG,eL,iR,dG];omega
theorem DB(c:jG S N):∀a∈aT S [N],0<=a/\a<256:=by
 have b:bX (([N]:List aD).length:Int)=[1]:=BL (by simp) (by simp);unfold aT;rw[b];simp only[ic,dG];exact fS (fS (all_cons ⟨by omega,by omega⟩ all_nil) (DA c)) (all_cons ⟨by omega,by omega⟩ all_nil)
structure bU where
 tb:Nat
 file:Nat
 torn:Bool
 live:Bool
 T:aH
def eR(a:Nat)(x:O×List z):aD:=
 ⟨a,if x.1.ep=1 then 1 else 7,x.1,kT,0,0,0,x.2.filter λb=>b.st !=0⟩
def fD(b:Int)(c:Nat->Option (O×List z)):List aD:=
 (if 0<b then[⟨0,6,⟨0,0,0,0,0,0,0,0⟩,kT,0,0,b,[]⟩] else[])++(jF 21).filterMap λa=>(c a).map (eR a)
def a9(b:Int)(a:Nat->Option (O×List z)):List Int:=if fD b a=[] then[] else aT 0 (fD b a)
def iW(a:bU)(b:List Int):Int×bU:=
 if a.live=false then(17,a) else((iq a.T a.file b).1,{ a with T:=(iq a.T a.file b).2,live:=(iq a.T a.file b).1 !=16 })
def kd(a:bU)(d:List Int):Int×bU:=
 if a.live=false then(17,a)
 else if a.T.ay<(a.T.used:Int)+d.length then(15,a)
 else
  let c:=if d=[] then(true,a.T) else fQ a.T (1 - a.file) d
  if c.1=false then(16,{ a with T:=c.2,live:=false })
  else
   let b:=fO c.2 a.file
   if b.1=false then(16,{ a with T:=b.2,live:=false }) else(0,{ a with T:=b.2,file:=1 - a.file,torn:=false })
def eg(a:bU)(b c:List Int):Int×bU:=
 if a.torn=true then(if (kd a b).1=0 then iW (kd a b).2 c else kd a b) else iW a c
structure dH (w:U) (ow:Nat->Nat) (kb:Nat) (now:Int) (dS:Nat->Option Nat) (fl:Nat->Option (O×List z)) (K:bU):Prop where
 keep:cI w ow kb now dS fl
 ptr:dS 29=if K.live=true then E K.tb else J
 file:oM dS=K.file
 torn:nG dS=K.torn
 tape:aS w (λk=>ow k=30) K.tb K.T
variable {R:bU}
theorem dH.mod{w w':U}{j:Int}{S:Nat->Prop}(c:dH w P o j v k R)(d:G S w w')(i:∀a,P a≠0->¬S a):dH w' P o j v k R:=by
 have b:=c.keep;refine⟨⟨d.e b.e (i _ (by rw[b.bw];omega)),b.bw,λa e=>bj (b.bg a e) d.size,b.gone,λA B y x s=>?_⟩,c.ptr,c.file,c.torn,c.tape.mod d (λa e=>i a (by omega))⟩;obtain⟨l,n,p,r⟩:=b.here A B y x s;exact⟨l,n,p,r.mod d (λa e=>i a (by omega))⟩
theorem dH.bC{w':U}(a:dH I P o S v k R)(b:G No I w'):dH w' P o S v k R:=a.mod b (λ_ _ c=>c)
theorem pW(b:Int)(a:Nat->Option Nat):(dA b a)[30]? =E (bL (a 29)):=rfl
theorem uE(b:Int)(a:Nat->Option Nat):(dA b a)[31]? =E (F K (oM a)):=rfl
theorem rj(b:Int)(a:Nat->Option Nat):(dA b a)[32]? =E (L (nG a)):=rfl
def oS(b:Nat->Option Nat):Nat->Option Nat:=λa=>if a=29 then J else b a
theorem DC(a:Int)(b:Nat->Option Nat):(dA a b).setIfInBounds 30 (g J)=dA a (oS b):=rfl
def rk(a:Nat->Option Nat)(b:Int):Nat->Option Nat:=if b=16 then oS a else a
theorem sR(a:Nat->Option Nat)(b:Int)(j:Nat)(c:j≠29):rk a b j=a j:=by
 unfold rk oS;split
 .exact f c
 .rfl
def nI(d:Nat->Nat)(c b:Nat):Nat->Nat:=λa=>if a<c then d a else if a<b then 30 else 0
theorem cI.ow(b:cI I P o S v k)(e:Nat)(d:∀a,a<e->p a=P a)(c:∀a,P a≠0->a<e)(x:∀a,p a≠0->a<I.heap.size):cI I p o S v k:=by
 refine⟨b.e,?_,x,b.gone,λA B y w r=>?_⟩
 .rw[d o (c o (by rw[b.bw];omega))];exact b.bw
 .obtain⟨i,j,l,n⟩:=b.here A B y w r;exact⟨i,j,l,n.wide (λa s=>by rw[d a (c a (by omega))];exact s)⟩
theorem dH.laid{w':U}{e:Nat}{c:Int}(l:dH I P o S v k R)(T:I.heap.size<=e)(ab:w'.heap.size>=e)(Q:R.live=true)(W:aS w' (λa=>P a=30\/e<=a) R.tb B)(H:X w' o (if c=16 then(dA S v).setIfInBounds 30 (g J) else dA S v) 121)(s:G (λa=>P a=30\/a=o) I w'):dH w' (nI P e w'.heap.size) o S (rk v c) k { R with T:=B,live:=c !=16 }/\(∀a,a<I.heap.size->nI P e w'.heap.size a=P a)/\G (λa=>P a≠0) I w':=by
 have i:=l.keep;have hold:∀a,P a≠0->a<e:=λa b=>bj (i.bg a b) T;have M:dA S (rk v c)=(if c=16 then(dA S v).setIfInBounds 30 (g J) else dA S v):=by
  unfold rk;split
  .rw[DC]
  .rfl
 refine⟨⟨?_,?_,?_,?_,?_⟩,λa b=>D (by omega),s.mono (λa _ d=>by
  obtain d|d:=d
  .show P a≠0;omega
  .show P a≠0;rw[d,i.bw];omega)⟩
 .have Y:cI w' P o S (rk v c) k:=by
   refine⟨by rw[M];exact H,i.bw,λa b=>bj (i.bg a b) s.size,λj r p=>by rw[sR v c j (by omega)];exact i.gone j r p,λj aa Z r p=>?_⟩;obtain⟨w,x,y,A⟩:=i.here j aa Z r p;refine⟨w,by rw[sR v c j (by omega)];exact x,y,A.mod s (λa b d=>?_)⟩;obtain d|d:=d
   .omega
   .rw[d,i.bw] at b;omega
  refine Y.ow e (λa b=>D b) hold (λa b=>?_);unfold nI at b;split at b
  .omega
  .split at b
   .assumption
   .exact absurd rfl b
 .unfold rk oS;by_cases n:c=16
  .rw[D n,D rfl];simp[n]
  .rw[f n,l.ptr,D Q];simp[n]
 .have:=l.file;unfold oM at this ⊢;rw[sR v c 30 (by omega)];exact this
 .have:=l.torn;unfold nG at this ⊢;rw[sR v c 31 (by omega)];exact this
 .refine W.narrow.wide (λa ⟨b,N⟩=>?_);show nI P e w'.heap.size a=30;unfold nI;obtain b|b:=b
  .rw[D (hold a (by omega))];exact b
  .rw[f (by omega),D N]
theorem oT{i:Program}{ops:Array Oper}{b:Oper}{a:Act}{j:Act->U->Prop}{o:Exit->Act->U->Prop}{n:Prop}(v:b.guard=J)(d:FuncId)(args:Array Operand)(A:Array TypeId)(w:b.op=Op.call { callee:=Callee.value (Operand.func d),args:=args,argTypes:=A })(e:Array V)(y:args.map a.eval=e)(s:∀k,(callFunc d e).run i k=.ok (.enter d e) k)(R:V->U->Prop)(r:Calls i d e I λl w'=>∃c,l=q c/\R c w')
  (p:∀c w',R c w'->j (a.put b.dst c) w'):if jD b (yielded ops a.tmps)=true then gu i b a I j o else n:=by
 have z:jD b (yielded ops a.tmps)=true:=by simp[jD,v]
 rw[D z];unfold gu execOp;simp[go_sem,w,y];rw[s];simp[go_sem];refine r.mono ?_;rintro l w' ⟨c,rfl,x⟩;exact p _ _ x
theorem sS(a:aD):∃b c,eH a=.iface b c:=by
 unfold eH kW gF oK qQ pQ pL
 repeat' split
 all_goals exact⟨_,_,rfl⟩
theorem zu{d:TypeId}(r:eH N=.iface d i)(l:jG S N)(b e:Nat)(c:X I b #[F K N.fl,.iface d i] 125):Calls h 81 #[F K S,C (E (u b 0 J)) 1 e] I λs w'=>∃n,s=q n/\uD I w' n (aT S [N]):=by
 refine Dx S b 0 1 e I [N] rfl (by omega) (λ_=>N.fl) (λ_=>d) (λ_=>i) (λa hi=>?_) c.lt (λa hi=>?_) (λa hi v o y z w k=>?_)
 .obtain rfl:a=0:=by omega
  exact⟨c.T 0,c.T 1⟩
 .have j:=wL l;have:a=0\/a=1:=by omega
  obtain rfl|rfl:=this
  .simp[j9,ic]
  .simp only[j9,ic,List.take_succ_cons,DD,dG];omega
 .obtain rfl:a=0:=by simp at hi;omega
  have j:mI S [N] 0=S:=rfl;rw[j] at k ⊢;rw[<-r];exact Dy k (λx p=>cC o.size p) (by omega) N l
theorem MU(H:X I o (dA S v) 121)(M:v 29=J)(N:nG v=false)(a:aD)(ag:jG S a):Calls h 50 #[g (E (u o 0 J)),t #[F K a.fl,eH a]] I λO w'=>O=q (F K 17)/\G No I w':=by
 obtain⟨c,d,p⟩:=sS a;have r:G No I (I.alloc (m #[F K a.fl,.iface c d] 125)):=(G.refl _ _).alloc _;have A:=X.new I #[F K a.fl,.iface c d] 125;have B:=r.e H (λw=>w);have Y:=l p;rw[p];have j:=l B;have Z:=l r;have k:=l A;have R:=l M;have W:=l N;clear H B r A M p N;go_enter func50,ntmps50;go_upto_region 3 with fail;generalize I.alloc (m #[F K a.fl,.iface c d] 125)=s at *
 have y:=l (uC (b j) false (by rw[rj,b W]));have aj:s.cell? (u o 0 J)=E (F K S):=(b j).T 0;have ap:=(b j).lt;have ak:s.cell? (u I.heap.size 0 J)=E (F K a.fl):=(b k).T 0;have am:s.cell? (u I.heap.size 1 J)=E (.iface c d):=(b k).T 1;have ao:=(b k).lt;go_wp2_with fail;refine(b y).mono ?_;rintro O e ⟨rfl,rfl⟩;have x:=l (X.new e #[F K a.fl,.iface c d] 125)
 have z:=l ((G.refl No e).alloc (m #[F K a.fl,.iface c d] 125));have T:=l λi (af:X i e.heap.size #[F K a.fl,.iface c d] 125)=>zu (b Y) ag e.heap.size 1 af;have Q:=l λi aa ah ad (ae:G No e i)=>Mf (ae.e (b j) (λw=>w)) (by rw[pW,b R];rfl) aa ah ad;clear y;go_wp2_with fail
 go_region_law (first
  |(refine oT rfl 81 _ _ rfl #[F K S,C (E (u e.heap.size 0 J)) 1 1] (by simp[aM,bN]) (λi=>by kernel_rfl) _ ((b T) _ (by first|with_reducible exact(b x).drew|with_reducible exact(b x))) ?_;intro ar P n;obtain⟨ab,ai,rfl⟩:=aR n.row)
  |(refine fP rfl 80 _ _ rfl #[g (E (u o 30 J)),_] (by simp[aM,bN];try rfl) (λi=>by kernel_rfl) (F K 17) (λw'=>w'=P) ((b Q) P ab (aT S [a]).length ai ((b z).drew.trans n.mod)) ?_;rintro au rfl))
 all_goals go_wp2
 all_goals go_ret
 all_goals exact⟨rfl,(b Z).trans ((b z).drew.trans n.mod)⟩
structure lU (w w':U) (ow:Nat->Nat) (kb:Nat) (now:Int) (dS:Nat->Option Nat) (fl:Nat->Option (O×List z)) (K':bU):Prop where
 ex:∃ow' pt',dH w' ow' kb now pt' fl K'/\(∀k,k<w.heap.size->ow' k=ow k)/\∀j,j<29->pt' j=dS j
 mod:G (λk=>ow k≠0) w w'
theorem MV(s:dH I P o S v k R)(w:R.live=true)(ah:R.torn=false)(hi:R.file<2)(aW:(R.T.b R.file).length+42<=17592186044416)(a:aD)(N:jG S a):Calls h 50 #[g (E (u o 0 J)),t #[F K a.fl,eH a]] I λr w'=>r=q (F K (iW R (aT S [a])).1)/\lU I w' P o S v k (iW R (aT S [a])).2:=by
 obtain⟨c,d,T⟩:=sS a;have y:G No I (I.alloc (m #[F K a.fl,.iface c d] 125)):=(G.refl _ _).alloc _;have ae:=X.new I #[F K a.fl,.iface c d] 125;have aX:I.heap.size<=(I.alloc (m #[F K a.fl,.iface c d] 125)).heap.size:=y.size;have af:=s.bC y;have Q:=s.ptr;rw[w,D rfl] at Q;have ax:=l T;rw[T];unfold iW;rw[w,f (by simp)];simp only;obtain⟨n,B⟩:∃n,iq R.T R.file (aT S [a])=n:=⟨_,rfl⟩;rw[B];have ao:=l B
 clear B;have e:=l af;have aj:=l s;have ab:=l y;have A:=l ae;have ap:=l Q;have am:=l w;have aw:=l ah;clear s af y ae Q T w ah;go_enter func50,ntmps50;go_upto_region 3 with fail;generalize I.alloc (m #[F K a.fl,.iface c d] 125)=Y at *;have aa:=l (uC (b e).keep.e false (by rw[rj,(b e).torn,b aw]));have aP:Y.cell? (u o 0 J)=E (F K S):=(b e).keep.e.T 0;have a1:=(b e).keep.e.lt
 have aQ:Y.cell? (u I.heap.size 0 J)=E (F K a.fl):=(b A).T 0;have aS:Y.cell? (u I.heap.size 1 J)=E (.iface c d):=(b A).T 1;have a0:=(b A).lt;go_wp2_with fail;refine(b aa).mono ?_;rintro r j ⟨rfl,rfl⟩;have Z:=l (X.new j #[F K a.fl,.iface c d] 125);have ad:=l ((G.refl No j).alloc (m #[F K a.fl,.iface c d] 125))
 have ar:=l λi (aA:X i j.heap.size #[F K a.fl,.iface c d] 125)=>zu (b ax) N j.heap.size 1 aA;have au:=l (DB N);have av:=l (zt N);have ak:=l λi W (H:G No j i) (ag:i.ownsRow 0 5 1 W (aT S [a]).length (dt (aT S [a]))) (aC:∀p,W.ownBlock=E p->j.heap.size<=p)=>
  (show Calls h 80 #[g (E (u o 30 J)),W] i λr w'=>r=q (F K n.1)/\lU I w' P o S v k { R with T:=n.2,live:=n.1 !=16 } from by
   rw[<-b ao]
   obtain⟨ay,az,rfl⟩:=aR ag
   have M:=(b e).bC H
   have a3:=(b e).tape.lt
   have aZ:P o=1:=(b e).keep.bw
   refine(Dj (S:=λp=>P p=30) M.keep.e (by rw[pW,b ap];rfl) (by omega) M.tape R.file hi (by rw[uE,M.file]) ay az (aT S [a]) (pB ag) (λaI=>by have:=aC _ aI;omega) (b au) (by have:=b av;omega)).mono ?_
   rintro r w' ⟨aJ,aK,aL,ai⟩
   obtain⟨aF,aG,aH⟩:=dH.laid (b aj) (cC (b ab).size H.size) ai.size (b am) aK aL ((((b ab).trans H).mono (λ_ _ aN=>aN.elim)).trans ai)
   exact⟨aJ,⟨_,_,aF,aG,λaY aU=>sR _ _ _ (by omega)⟩,aH⟩)
 clear aa;go_wp2_with fail
 go_region_law (first
  |(refine oT rfl 81 _ _ rfl #[F K S,C (E (u j.heap.size 0 J)) 1 1] (by simp[aM,bN]) (λi=>by kernel_rfl) _ ((b ar) _ (by first|with_reducible exact(b Z).drew|with_reducible exact(b Z))) ?_;intro a4 a5 x;obtain⟨aO,a2,rfl⟩:=aR x.row)
  |(refine fP rfl 80 _ _ rfl #[g (E (u o 30 J)),_] (by simp[aM,bN];try rfl) (λi=>by kernel_rfl) (F K n.1) _ ((b ak) _ _ ((b ad).drew.trans x.mod) x.row (λp aB=>cC (b ad).size (x.new p aB))) ?_;intro a6 aE))
 all_goals go_wp2
 all_goals go_ret
 all_goals exact⟨rfl,aE⟩
end Go.Proofs.YthhibagcpjeihaaGreat
