import Derived.Test.YthhibagcpjeihaaGreatW4
import Derived.Test.YthhibagcpjeihaaGreatW7
import Derived.Test.YthhibagcpjeihaaGreatW6
open Go.Proofs.Tryz
open Go.Addr renaming mk->u,add_mid->dE
open Go.Value renaming int->F,pointer->g,slice->C,bool->L,agg->t,tuple->aq,ownBlock->aV
open Go.IntKind renaming i64->K
open Option renaming none->J,some->E
open Go renaming World->U,Value->V
open Go.Proofs.Tryz renaming prog->h
open Go.Ending renaming returned->q
open Go.Obj renaming cells->m
open Go.Instr renaming typeAssert->eb,lookup->ji
open And renaming intro->gE
set_option linter.unusedVariables false
set_option linter.unusedSimpArgs false
set_option maxRecDepth 100000
set_option maxHeartbeats 8000000
namespace Go.Proofs.YthhibagcpjeihaaGreat
open Go.RowKit
open Go.ChangeMaps (setBlock)
open M
theorem Li(a b:Int)(w:U)(d:1<=a)(i:a<=100)(k:0<=b/\b<=4611686018427387000):Calls h 75 #[F K a,F K b] w λc w'=>c=q (aq #[pL (b+a),F K 0])/\w'=w:=by
 have e:¬a<1:=by omega
 have j:¬a>100:=by omega
 have l:K.wrap (b+a)=b+a:=bh _ (by omega) (by omega);go_enter func75,ntmps75;go_wp2;go_ret2;exact⟨rfl,rfl⟩
theorem Lj(a c:Int)(w:U)(d:¬(1<=a/\a<=100)):Calls h 75 #[F K a,F K c] w λb w'=>b=q (aq #[.nilIface,F K 8])/\w'=w:=by
 by_cases e:a<1
 .go_enter func75,ntmps75;go_wp2;go_ret2;exact⟨rfl,rfl⟩
 .have i:a>100:=by omega
  go_enter func75,ntmps75;go_wp2;go_ret2;exact⟨rfl,rfl⟩
theorem Lk(j:Nat)(a:aK)(d:a.kind<1\/a.kind>9)(w:U):Calls h 49 #[g (E (u j 0 J)),t (aw a)] w λe w'=>e=q (refuse 1)/\G No w w':=by
 have c:=l ((G.refl No w).alloc (m (aw a) 41));unfold aw at c ⊢;obtain i|i:=sN a.kind 1
 .clear d;go_enter func49,ntmps49;go_wp2;go_ret2;exact⟨rfl,b c⟩
 .have n:a.kind>9:=by omega
  have k:¬a.kind<1:=by omega
  clear d;go_enter func49,ntmps49;go_wp2;go_ret2;exact⟨rfl,b c⟩
theorem CX(n:Nat)(e:aK)(o:Int)(x p:V)(k:e.kind=8)(w:U)(i:∀a,G No w a->Calls h 32 #[g (E (u n 0 J))] a λc w'=>c=q (F K o)/\w'=a)(j:∀a,Calls h 75 #[F K e.time,F K o] a λc w'=>c=q (aq #[x,p])/\w'=a):Calls h 49 #[g (E (u n 0 J)),t (aw e)] w λc w'=>c=q (aq #[x,p])/\G No w w':=by
 have r:=l i;have s:=l j;have d:=l ((G.refl No w).alloc (m (aw e) 41));unfold aw at d ⊢;rw[k] at d ⊢;clear i j k;go_enter func49,ntmps49;go_wp2_with fail;go_quiet (first|(go_at_call 32;exact Calls.quiet_of_same ((b r) _ ((b d).drewN _)))|(go_at_call 75;exact Calls.quiet_of_same ((b s) _)));go_wp2;go_ret2;exact⟨rfl,(b d).drewN _⟩
theorem Ll(j:Nat)(a:aK)(d:1<=a.kind/\a.kind<=9/\a.kind≠8)(e:¬(1<=a.aF/\a.aF<=20))(w:U):Calls h 49 #[g (E (u j 0 J)),t (aw a)] w λi w'=>i=q (refuse 2)/\G No w w':=by
 have c:=l ((G.refl No w).alloc (m (aw a) 41));unfold aw at c ⊢;have n:¬a.kind<1:=by omega
 have o:¬a.kind>9:=by omega
 have p:(a.kind==8)=false:=by simp[d.2.2]
 obtain f1|f1:=sN a.aF 1
 .clear d e;go_enter func49,ntmps49;go_wp2;go_ret2;exact⟨rfl,b c⟩
 .have f2:a.aF>20:=by omega
  have k:¬a.aF<1:=by omega
  clear d e;go_enter func49,ntmps49;go_wp2;go_ret2;exact⟨rfl,b c⟩
theorem Lm(k o:Nat)(a:aK)(j:a.kind=1)(p:1<=a.aF/\a.aF<=20)(w:U)(hF:∀e,G No w e->Calls h 59 #[g (E (u k 0 J)),F K a.aF] e λd w'=>d=q (g (E (u o 0 J)))/\w'=e):Calls h 49 #[g (E (u k 0 J)),t (aw a)] w λd w'=>d=q (refuse 3)/\G No w w':=by
 have n:=l hF;have c:=l ((G.refl No w).alloc (m (aw a) 41));have i:=l (X.new w (aw a) 41);unfold aw at c i ⊢;rw[j] at c i ⊢;have f1:¬a.aF<1:=by omega
 have f2:¬a.aF>20:=by omega
 clear hF j p;go_enter func49,ntmps49;go_wp2_with fail;refine((b n) _ (b c)).mono ?_;rintro d r ⟨rfl,rfl⟩;go_wp2;go_ret2;exact⟨rfl,b c⟩
theorem CY(n:Nat)(a:aK)(x p:V)(k:a.kind=1)(v:1<=a.aF/\a.aF<=20)(w:U)(hF:∀d,G No w d->Calls h 59 #[g (E (u n 0 J)),F K a.aF] d λc w'=>c=q (g J)/\w'=d)(hA:∀d,Calls h 76 #[fX a.c] d λc w'=>c=q (aq #[x,p])/\G No d w'):Calls h 49 #[g (E (u n 0 J)),t (aw a)] w λc w'=>c=q (aq #[x,p])/\G No w w':=by
 have r:=l hF;have j:=l hA;have e:=l ((G.refl No w).alloc (m (aw a) 41));have i:=l (X.new w (aw a) 41);unfold aw at e i ⊢;unfold fX at j;rw[k] at e i ⊢;have f1:¬a.aF<1:=by omega
 have f2:¬a.aF>20:=by omega
 clear hF k v hA;go_enter func49,ntmps49;go_wp2_with fail;refine((b r) _ (b e)).mono ?_;rintro c y ⟨rfl,rfl⟩;go_wp2_with fail;refine((b j) _).mono ?_;rintro c y ⟨rfl,o⟩;have s:=l ((b e).trans o);clear o;go_wp2;go_ret2;exact⟨rfl,b s⟩
theorem Ln(j:Nat)(a:aK)(i:2<=a.kind/\a.kind<=9/\a.kind≠8)(n:1<=a.aF/\a.aF<=20)(w:U)(hF:∀e,G No w e->Calls h 59 #[g (E (u j 0 J)),F K a.aF] e λc w'=>c=q (g J)/\w'=e):Calls h 49 #[g (E (u j 0 J)),t (aw a)] w λc w'=>c=q (refuse 2)/\G No w w':=by
 have k:=l hF;have d:=l ((G.refl No w).alloc (m (aw a) 41));unfold aw at d ⊢;have o:¬a.kind<1:=by omega
 have p:¬a.kind>9:=by omega
 have r:(a.kind==8)=false:=by simp[i.2.2]
 have s:(a.kind==1)=false:=by simp;omega
 have f1:¬a.aF<1:=by omega
 have f2:¬a.aF>20:=by omega
 clear hF i n;go_enter func49,ntmps49;go_wp2_with fail;refine((b k) _ (b d)).mono ?_;rintro c v ⟨rfl,rfl⟩;go_wp2;go_ret2;exact⟨rfl,b d⟩
theorem CZ(j n:Nat)(a:aK)(y:Int)(x z:V)(o:Array V)(s:2<=a.kind/\a.kind<=9/\a.kind≠8)(N:1<=a.aF/\a.aF<=20)(w:U)(i:X w j o 121)(p:o[0]? =E (F K y))(hF:∀c,G No w c->Calls h 59 #[g (E (u j 0 J)),F K a.aF] c λd w'=>d=q (g (E (u n 0 J)))/\w'=c)(r:∀c,G No w c->Calls h 77 #[g (E (u n 0 J)),t (aw a),F K y] c λd w'=>d=q (aq #[x,z])/\G No c w'):
  Calls h 49 #[g (E (u j 0 J)),t (aw a)] w λd w'=>d=q (aq #[x,z])/\G No w w':=by
 have A:=l hF;have k:=l r;have I:=i.T 0;rw[p] at I;have S:=i.lt;have e:=l ((G.refl No w).alloc (m (aw a) 41));unfold aw at e k ⊢;have O:¬a.kind<1:=by omega
 have P:¬a.kind>9:=by omega
 have Q:(a.kind==8)=false:=by simp[s.2.2]
 have R:(a.kind==1)=false:=by simp;omega
 have f1:¬a.aF<1:=by omega
 have f2:¬a.aF>20:=by omega
 have B:=l i;clear hF r s N i;go_enter func49,ntmps49;go_wp2_with fail;refine((b A) _ (b e)).mono ?_;rintro d T ⟨rfl,rfl⟩;go_wp2_with fail;go_region_with (go_at_call 77;refine((b k) _ ((b e).drew)).mono ?_;rintro d w3 ⟨rfl,v⟩;have M:=(((b e).drew.trans v).e (b B) (λx=>x)).T 0;rw[p] at M)
 all_goals go_wp2
 all_goals go_ret2
 all_goals exact⟨rfl,(b e).drew.trans v⟩
theorem Lo(a:V)(w:U):(eb (.iface 159 a) 123 159 true).run h w=.ok (aq #[a,L true]) w:=by kernel_rfl
theorem Lp(a:V)(w:U):(eb (.iface 189 a) 123 159 true).run h w=.ok (aq #[t #[F K 0],L false]) w:=by kernel_rfl
theorem Lq(a:V)(w:U):(eb (.iface 202 a) 123 159 true).run h w=.ok (aq #[t #[F K 0],L false]) w:=by kernel_rfl
theorem Lr(a:V)(w:U):(eb (.iface 214 a) 123 159 true).run h w=.ok (aq #[t #[F K 0],L false]) w:=by kernel_rfl
theorem Ls(a:V)(w:U):(eb (.iface 216 a) 123 159 true).run h w=.ok (aq #[t #[F K 0],L false]) w:=by kernel_rfl
theorem Lt(a:V)(w:U):(eb (.iface 212 a) 123 159 true).run h w=.ok (aq #[t #[F K 0],L false]) w:=by kernel_rfl
theorem Lu(a:V)(w:U):(nilAhead 357 212 a "Do").run h w=.ok (E false) w:=by kernel_rfl
theorem Lv(a:V)(w:U):(method 357 212 a "Do").run h w=.ok (162,a) w:=by kernel_rfl
attribute [local go_sem] Lt Lu Lv
theorem Lw(a:V)(w:U):(nilAhead 357 189 a "Do").run h w=.ok (E false) w:=by kernel_rfl
theorem Lx(a:V)(w:U):(nilAhead 357 202 a "Do").run h w=.ok (E false) w:=by kernel_rfl
theorem Ly(a:V)(w:U):(nilAhead 357 214 a "Do").run h w=.ok (E false) w:=by kernel_rfl
theorem Lz(a:V)(w:U):(nilAhead 357 216 a "Do").run h w=.ok (E false) w:=by kernel_rfl
attribute [local go_sem] Lw Lx Ly Lz
theorem LA(a:V)(w:U):(method 357 189 a "Do").run h w=.ok (158,a) w:=by kernel_rfl
theorem LB(a:V)(w:U):(method 357 202 a "Do").run h w=.ok (161,a) w:=by kernel_rfl
theorem LC(a:V)(w:U):(method 357 214 a "Do").run h w=.ok (165,a) w:=by kernel_rfl
theorem LD(a:V)(w:U):(method 357 216 a "Do").run h w=.ok (166,a) w:=by kernel_rfl
attribute [local go_sem] LA LB LC LD
attribute [local go_sem] Lo Lp Lq Lr Ls
theorem zj(j:Nat)(k c:Int)(w:U)(d:U->Prop)(i:∀e,G No w e->Calls h 72 #[g (E (u j 0 J)),t #[F K c]] e λa w'=>a=q (aq #[])/\d w'):Calls h 44 #[g (E (u j 0 J)),t #[F K k,pL c]] w λa w'=>a=q (aq #[])/\d w':=by
 have n:=l i;have o:=l (((G.refl No w).alloc (m #[F K k,pL c] 125)).alloc (m #[F K c] 159));unfold pL at *;clear i;go_enter func44,ntmps44;go_wp2_with fail;refine((b n) _ (b o)).mono ?_;rintro a r ⟨rfl,p⟩;go_wp2;refine cN (results_none rfl _ _ _) rfl ?_;exact⟨rfl,p⟩
theorem zk(z s a:Nat)(Q:1<=a/\a<=20)(e i j k n o:V)(v:Array V)(w:U)(p:U->Prop)(d:X w z v 121)(y:v[1+a]? =E (g (E (u s 0 J))))(x:∀r,G No w r->Calls h 161 #[t #[e,i,j,k,n,o],g (E (u s 0 J))] r λc w'=>c=q (aq #[])/\p w'):Calls h 44 #[g (E (u z 0 J)),t #[F K a,.iface 202 (t #[e,i,j,k,n,o])]] w λc w'=>c=q (aq #[])/\p w':=by
 have A:=l x;have B:=l (((G.refl No w).alloc (m #[F K a,.iface 202 (t #[e,i,j,k,n,o])] 125)).alloc (m #[F K 0] 159));have I:=d.T (1+a);rw[y] at I;have P:=d.lt;have N:(a:Int)<21:=by omega
 have O:(0:Int)<=a:=by omega
 clear d y x;go_enter func44,ntmps44;go_wp2_with fail;go_quiet (fail);go_wp2_with fail;go_region_with (go_at_call 161;refine((b A) _ ((b B).drewN _).drew).mono ?_;rintro c R ⟨rfl,M⟩)
 all_goals go_wp2
 all_goals go_end0
 all_goals exact⟨rfl,M⟩
theorem LF(s n a:Nat)(M:1<=a/\a<=20)(e i:V)(o:Array V)(w:U)(j:U->Prop)(d:X w s o 121)(r:o[1+a]? =E (g (E (u n 0 J))))(p:∀k,G No w k->Calls h 165 #[t #[e,i],g (E (u n 0 J))] k λc w'=>c=q (aq #[])/\j w'):Calls h 44 #[g (E (u s 0 J)),t #[F K a,.iface 214 (t #[e,i])]] w λc w'=>c=q (aq #[])/\j w':=by
 have v:=l p;have x:=l (((G.refl No w).alloc (m #[F K a,.iface 214 (t #[e,i])] 125)).alloc (m #[F K 0] 159));have y:=d.T (1+a);rw[r] at y;have I:=d.lt;have A:(a:Int)<21:=by omega
 have B:(0:Int)<=a:=by omega
 clear d r p;go_enter func44,ntmps44;go_wp2_with fail;go_quiet (fail);go_wp2_with fail;go_region_with (go_at_call 165;refine((b v) _ ((b x).drewN _).drew).mono ?_;rintro c N ⟨rfl,z⟩)
 all_goals go_wp2
 all_goals go_end0
 all_goals exact⟨rfl,z⟩
theorem LG(x p a:Nat)(O:1<=a/\a<=20)(e i j k:V)(r:Array V)(w:U)(n:U->Prop)(d:X w x r 121)(v:r[1+a]? =E (g (E (u p 0 J))))(s:∀o,G No w o->Calls h 166 #[t #[e,i,j,k],g (E (u p 0 J))] o λc w'=>c=q (aq #[])/\n w'):Calls h 44 #[g (E (u x 0 J)),t #[F K a,.iface 216 (t #[e,i,j,k])]] w λc w'=>c=q (aq #[])/\n w':=by
 have y:=l s;have z:=l (((G.refl No w).alloc (m #[F K a,.iface 216 (t #[e,i,j,k])] 125)).alloc (m #[F K 0] 159));have A:=d.T (1+a);rw[v] at A;have N:=d.lt;have I:(a:Int)<21:=by omega
 have M:(0:Int)<=a:=by omega
 clear d v s;go_enter func44,ntmps44;go_wp2_with fail;go_quiet (fail);go_wp2_with fail;go_region_with (go_at_call 166;refine((b y) _ ((b z).drewN _).drew).mono ?_;rintro c P ⟨rfl,B⟩)
 all_goals go_wp2
 all_goals go_end0
 all_goals exact⟨rfl,B⟩
theorem LH(v o a:Nat)(N:1<=a/\a<=20)(e i j:V)(p:Array V)(w:U)(k:U->Prop)(d:X w v p 121)(s:p[1+a]? =E (g (E (u o 0 J))))(r:∀n,G No w n->Calls h 162 #[t #[e,i,j],g (E (u o 0 J))] n λc w'=>c=q (aq #[])/\k w'):Calls h 44 #[g (E (u v 0 J)),t #[F K a,.iface 212 (t #[e,i,j])]] w λc w'=>c=q (aq #[])/\k w':=by
 have x:=l r;have y:=l (((G.refl No w).alloc (m #[F K a,.iface 212 (t #[e,i,j])] 125)).alloc (m #[F K 0] 159));have z:=d.T (1+a);rw[s] at z;have M:=d.lt;have B:(a:Int)<21:=by omega
 have I:(0:Int)<=a:=by omega
 clear d s r;go_enter func44,ntmps44;go_wp2_with fail;go_quiet (fail);go_wp2_with fail;go_region_with (go_at_call 162;refine((b x) _ ((b y).drewN _).drew).mono ?_;rintro c O ⟨rfl,A⟩)
 all_goals go_wp2
 all_goals go_end0
 all_goals exact⟨rfl,A⟩
def pT:Array V:=#[F K 0,F K 0,F K 0,F K 0,F K 0,F K 0,F K 0,.map J,F K 0,F K 0,F K 0,F K 0,F K 0,F K 0,F K 0,F K 0,F K 0,F K 0,F K 0,F K 0,F K 0,F K 0,F K 0,F K 0,F K 0]
structure LI (w w5:U) (kb n:Nat) (now:Int) (dS:Nat->Option Nat):Prop where
 keep:X w5 kb (dA now (gH dS n (w.heap.size+2))) 121
 kY:X w5 (w.heap.size+2) pT 164
 mod:G (λk=>k=kb) w w5
variable {Q P p:Nat} {I v:Int} {j k:Nat->Option Nat} {S o:List z} {W:Nat->Option (O×List z)} {N:Nat->Nat} {B:List V} {R:O} {i:V}
theorem C6{w w0:U}(e:1<=P/\P<=20)(a:X w0 Q (dA I j) 121)(b:G No w w0)(c:w0.heap.size=w.heap.size+2):LI w ((w0.setCell ⟨Q,1+P,J⟩ (g (E ⟨w.heap.size+2,0,J⟩))).alloc (m pT 164)) Q P I j:=by
 refine⟨?_,?_,(b.mono (λ_ _ d=>d.elim)).trans (((G.refl _ w0).at (1+P) _).alloc _)⟩
 .have:=(a.set (1+P) (bL (E (w.heap.size+2)))).alloc (m pT 164);rw[Ko I j P _ (by omega)] at this;exact this
 .have:=X.new (w0.setCell ⟨Q,1+P,J⟩ (g (E ⟨w.heap.size+2,0,J⟩))) pT 164;rw[ny,c] at this;exact this
theorem LJ(c a:Nat)(ah:1<=a/\a<=20)(s:Int)(k:Nat->Option Nat)(p:O)(w:U)(A:U->Prop)(x:X w c (dA s k) 121)(T:k a=J)(S:∀r,G (λai=>ai=c) w r->X r c (dA s (gH k a (w.heap.size+2))) 121->X r (w.heap.size+2) (dZ 0 0 0 0 0 0 0 (.map J) 0 0 0 0 0 0 0 0 0 0 0 0 0 0 0 0 0) 164->
   Calls h 158 #[fX p,g (E ⟨w.heap.size+2,0,J⟩)] r λj w'=>j=q (aq #[])/\A w'):Calls h 44 #[g (E (u c 0 J)),t #[F K a,kW p]] w λj w'=>j=q (aq #[])/\A w':=by
 have aa:=l S;have y:G No w ((w.alloc (m #[F K a,kW p] 125)).alloc (m #[F K 0] 159)):=((G.refl _ w).alloc _).alloc _;have R:=y.e x (λak=>ak);have I:X ((w.alloc (m #[F K a,kW p] 125)).alloc (m #[F K 0] 159)) w.heap.size #[F K a,kW p] 125:=(X.new w _ _).alloc _;have i:=l R;have z:=l y;have e:=l I
 have B:=l (show((w.alloc (m #[F K a,kW p] 125)).alloc (m #[F K 0] 159)).heap.size=w.heap.size+2 by simp);have am:(a:Int)<21:=by omega
 have ao:(0:Int)<=a:=by omega
 have ad:=l x;have ab:=l T;unfold kW fX at *;clear x T S y R I;go_enter func44,ntmps44;go_upto_region 4 with fail;generalize (w.alloc (m #[F K a,.iface 189 (t #[F K p.rows,F K p.y,F K p.Z,F K p.af,F K p.ag,F K p.ai,F K p.aj])] 125)).alloc (m #[F K 0] 159)=n at *;have N:=(b i).T (1+a);rw[oN s k a (by omega),b ab,show bL J=g J from rfl] at N;have P:n.cell? (u w.heap.size 0 J)=E (F K a):=(b e).T 0
 have Q:n.cell? (u w.heap.size 1 J)=E (.iface 189 (t #[F K p.rows,F K p.y,F K p.Z,F K p.af,F K p.ag,F K p.ai,F K p.aj])):=(b e).T 1;have Y:=(b i).lt;have W:=(b e).lt;have ag:=(b i).aC (1+a);have v:=b B;rw[v] at Y W;have ae:=l (show w.heap.size≠c from λj=>by have:=(b ad).lt;omega);go_quiet (fail);go_wp2_with fail;go_region;have ik:=C6 (w0:=n.drewN (nq+1)) ah ((b i).drewN _) ((b z).drewN _) v
 have M:X (((n.drewN (nq+1)).setCell ⟨c,1+a,J⟩ (g (E ⟨w.heap.size+2,0,J⟩))).alloc (m pT 164)) w.heap.size _ _:=(((b e).drewN (nq+1)).eJ (a:=⟨c,1+a,J⟩) (b ae) _).alloc _;have d:=l ik;have o:=l M;clear ik M N P Q Y W ag v i z e B;unfold pT at d o
 generalize ((n.drewN (nq+1)).setCell ⟨c,1+a,J⟩ (g (E ⟨w.heap.size+2,0,J⟩))).alloc (m #[F K 0,F K 0,F K 0,F K 0,F K 0,F K 0,F K 0,.map J,F K 0,F K 0,F K 0,F K 0,F K 0,F K 0,F K 0,F K 0,F K 0,F K 0,F K 0,F K 0,F K 0,F K 0,F K 0,F K 0,F K 0] 164)=Z at *;have af:=(b d).keep.T (1+a);rw[oN s _ a (by omega),show bL (gH k a (w.heap.size+2) a)=g (E ⟨w.heap.size+2,0,J⟩) by simp[gH,bL]] at af
 have P:Z.cell? (u w.heap.size 0 J)=E (F K a):=(b o).T 0;have Q:Z.cell? (u w.heap.size 1 J)=E (.iface 189 (t #[F K p.rows,F K p.y,F K p.Z,F K p.af,F K p.ag,F K p.ai,F K p.aj])):=(b o).T 1;have ap:=(b d).keep.lt;have ar:=(b o).lt;go_wp2_with fail;go_region_with (go_at_call 158;refine((b aa) _ (b d).mod.drew (b d).keep.drew (b d).kY.drew).mono ?_;rintro j au ⟨rfl,aj⟩)
 all_goals go_wp2
 all_goals go_end0
 all_goals exact⟨rfl,aj⟩
theorem LM(k:Nat)(a:aK)(x:Int)(j:x≠0)(w:U)(i:∀d,G No w d->Calls h 49 #[g (E (u k 0 J)),t (aw a)] d λc w'=>c=q (refuse x)/\G No d w'):Calls h 25 #[g (E (u k 0 J)),t (aw a)] w λc w'=>c=q (F K x)/\G No w w':=by
 have n:=l i;have e:=l ((G.refl No w).alloc (m (aw a) 41));have p:=l (X.new w (aw a) 41);have hd:(x !=0)=true:=by simp[j]
 unfold aw refuse at *;clear i j;go_enter func25,ntmps25;go_wp2_with fail;refine((b n) _ (b e)).mono ?_;rintro c r ⟨rfl,o⟩;go_wp2;go_ret;exact⟨rfl,(b e).trans o⟩
theorem LO(i:Nat)(d:aK)(j:TypeId)(k:V)(x:Int)(r:x≠0)(w:U)(R:U->Prop)(p:∀c,G No w c->Calls h 49 #[g (E (u i 0 J)),t (aw d)] c λa w'=>a=q (ey (.iface j k))/\G No c w')(hS:∀c,G No w c->Calls h 50 #[g (E (u i 0 J)),t #[F K d.aF,.iface j k]] c λa w'=>a=q (F K x)/\R w'):
  Calls h 25 #[g (E (u i 0 J)),t (aw d)] w λa w'=>a=q (F K x)/\R w':=by
 have s:=l p;have v:=l hS;have o:=l ((G.refl No w).alloc (m (aw d) 41));have n:=l (X.new w (aw d) 41);have hd:(x !=0)=true:=by simp[r]
 unfold aw ey at *;clear p hS r;go_enter func25,ntmps25;go_wp2_with fail;refine((b s) _ (b o)).mono ?_;rintro a M ⟨rfl,e⟩;have A:=(e.e (b n) (λx=>x)).T;have I:=(e.e (b n) (λx=>x)).lt;have y:=l ((b o).trans e);clear e;have z:=l ((b y).alloc (m #[F K d.aF,.iface j k] 125));go_wp2_with fail;refine((b v) _ (b z)).mono ?_;rintro a N ⟨rfl,B⟩;clear A;go_wp2;go_ret;exact⟨rfl,B⟩
theorem LP(k:Nat)(a:aK)(e:TypeId)(i:V)(w:U)(R A:U->Prop)(B:∀c,G No w c->Calls h 49 #[g (E (u k 0 J)),t (aw a)] c λd w'=>d=q (ey (.iface e i))/\G No c w')(hS:∀c o,G No w c->w.heap.size<=o->X c o #[F K a.aF,.iface e i] 125->Calls h 50 #[g (E (u k 0 J)),t #[F K a.aF,.iface e i]] c λd w'=>d=q (F K 0)/\R w'/\X w' o #[F K a.aF,.iface e i] 125)
  (hA:∀c,R c->Calls h 44 #[g (E (u k 0 J)),t #[F K a.aF,.iface e i]] c λd w'=>d=q (aq #[])/\A w'):Calls h 25 #[g (E (u k 0 J)),t (aw a)] w λd w'=>d=q (F K 0)/\A w':=by
 have v:=l B;have x:=l hS;have P:=l hA;have y:=l ((G.refl No w).alloc (m (aw a) 41));have s:=l (X.new w (aw a) 41);unfold aw ey at *;clear B hS hA;go_enter func25,ntmps25;go_wp2_with fail;refine((b v) _ (b y)).mono ?_;rintro d p ⟨rfl,n⟩;have Y:=(n.e (b s) (λr=>r)).T;have ab:=(n.e (b s) (λr=>r)).lt;have z:=l ((b y).trans n);clear n;have T:=l ((b z).alloc (m #[F K a.aF,.iface e i] 125))
 have O:=l (X.new p #[F K a.aF,.iface e i] 125);have S:=l (b z).size;go_wp2_with fail;refine((b x) _ _ (b T) (b S) (b O)).mono ?_;rintro d N ⟨rfl,I,j⟩;have Z:N.cell? (u p.heap.size 0 J)=E (F K a.aF):=j.T 0;have aa:N.cell? (u p.heap.size 1 J)=E (.iface e i):=j.T 1;have le:=j.lt;have Q:=l ((b P) _ I);clear Y j I x v;go_wp2_with fail;refine(b Q).mono ?_;rintro d w3 ⟨rfl,M⟩;have W:=l M;clear M;go_wp2
 go_ret;exact⟨rfl,b W⟩
theorem uy{p:O}{a:aK}(b:bH p S a I=0)(j:a.kind≠9):a.kind≠9/\p.e a.aA a.ac=true/\(a.kind=5->p.e a.dd a.de=true/\dK (aZ p S a.aA a.ac).st (aZ p S a.aA a.ac).pa a.bJ=0/\(aZ p S a.dd a.de).st=0)/\(a.kind=2->dg a=0/\I<a.time/\a.time<=I+100)/\(a.kind=3->dg a=0):=by
 unfold bH at b;rw[f j] at b;by_cases e:p.e a.aA a.ac=false\/(a.kind=5/\p.e a.dd a.de=false)
 .rw[D e] at b;exact absurd b (by omega)
 rw[f e] at b;have o:p.e a.aA a.ac=true:=by
  cases c:p.e a.aA a.ac with
  |true=>rfl
  |false=>exact absurd (.inl c) e
 refine⟨j,o,λi=>?_,λl=>?_,λn=>?_⟩
 .have s:p.e a.dd a.de=true:=by
   cases c:p.e a.dd a.de with
   |true=>rfl
   |false=>exact absurd (.inr ⟨i,c⟩) e
  rw[f (by omega),f (by omega),f (by omega),D i] at b;by_cases d:dK (aZ p S a.aA a.ac).st (aZ p S a.aA a.ac).pa a.bJ=0
  .rw[f (by simpa using d)] at b;by_cases k:(aZ p S a.dd a.de).st=0
   .exact⟨s,d,k⟩
   .rw[D k] at b;exact absurd b (by omega)
  .rw[D d] at b;exact absurd b d
 .rw[D l] at b;by_cases c:dg a=0
  .rw[f (by simpa using c)] at b;by_cases r:a.time<=I\/a.time>I+100
   .rw[D r] at b;exact absurd b (by omega)
   .exact⟨c,by omega,by omega⟩
  .rw[D c] at b;exact absurd b c
 .rw[f (by omega),D n] at b;by_cases c:dg a=0
  .exact c
  .rw[D c] at b;exact absurd b c
theorem LQ{c:Int}(a:dK I v c=0):I=1\/I=2:=by
 unfold dK at a;by_cases b:I=1\/I=2
 .exact b
 .rw[D b] at a;exact absurd a (by omega)
theorem zm{p:O}(c:aJ p S){a:aK}(Z:0<=I/\I<=4611686018427387000)(x:bH p S a I=0)(i:a.kind≠9):aJ p (eD p S a):=by
 obtain⟨i,B,A,r,y⟩:=uy x i;obtain⟨hi,d,k,j⟩:=nF c B;have b:(aZ p S a.aA a.ac).wf:=by rw[d];exact c.dX _ (eK hi)
 unfold eD;rw[f i];by_cases e:a.kind=2
 .rw[D e];have G:=mE (r e).1;have ad:=r e;exact c.set hi ⟨by simp,by simp,by simp;omega,by simp;omega,by simp,by simp;omega,by simp;omega,by simp⟩ k.symm j.symm
 rw[f e];by_cases l:a.kind=3
 .rw[D l];have G:=mE (y l);exact c.set hi ⟨by simp,by simp,by simp;omega,by simp;omega,by simp,by simp;omega,by simp,by simp⟩ k.symm j.symm
 rw[f l];by_cases n:a.kind=5
 .rw[D n];obtain⟨s,aa,ab⟩:=A n;obtain⟨M,W,Y,T⟩:=nF c s;have o:aJ p (S.set (p.idx a.aA a.ac) (aZ p S a.aA a.ac).bZ):=c.set hi (qN _) (by rw[d];rfl) (by rw[d];rfl);have R:p.idx a.dd a.de<(S.set (p.idx a.aA a.ac) (aZ p S a.aA a.ac).bZ).length:=by simpa using M
  obtain⟨N,X,Q,P⟩:=nF o s;exact o.set N ⟨b.ou,b.s1,b.oy,b.c1,b.bare,b.pa,b.un,b.vu⟩ Q.symm P.symm
 rw[f n];by_cases v:a.kind=6
 .rw[D v];exact c.set hi ⟨by simp,by simp,by simp,by simp,by simp,by simp,by simp,by simp⟩ k.symm j.symm
 rw[f v];exact c.set hi (qN _) (by rw[d];rfl) (by rw[d];rfl)
theorem C7{w:U}(y:cI w N Q I k W)(c:Nat)(Z:1<=c/\c<=20){p:O}(ap:W c=E (p,S))(ay:0<=I/\I<=4611686018427387000)(a:aK)(aB:2<=a.kind/\a.kind<=9/\a.kind≠8)(ah:bH p S a I=0)(P:a.kind≠9):Calls h 44 #[g (E (u Q 0 J)),t #[F K c,ie a]] w λl w'=>l=q (aq #[])/\cI w' N Q I k (λj=>if j=c then E (p.next,eD p S a) else W j)/\G (λn=>N n≠0/\N n<30) w w':=by
 obtain⟨x,ai,v,Y⟩:=y.here c p S (by omega) ap;have R:(dA I k)[1+c]? =E (g (E (u x 0 J))):=by rw[oN I k c (by omega),ai];rfl
 have i:=(zm v ay ah P).next
 have d:∀e w',G No w e->cF w' (λn=>N n=c+2) x p.next (eD p S a)->G (λn=>N n=c+2) e w'->cI w' N Q I k (λj=>if j=c then E (p.next,eD p S a) else W j)/\G (λn=>N n≠0/\N n<30) w w':=λe w' b ad M=>
  ⟨(y.mod b (λ_ _ ag=>ag)).aF M ai i ad,(b.mono (λ_ _ ag=>ag.elim)).trans (M.mono (λ_ _ (l:N _=c+2)=>by show N _≠0/\N _<30;omega))⟩
 obtain⟨P,am,ak,M,aj⟩:=uy ah P;obtain⟨hi,af,X,T⟩:=nF v am;unfold ie eD at *;rw[f P] at d i ⊢;rw[f P];by_cases B:a.kind=2
 .rw[D B] at d i ⊢;rw[D B];have ao:=mE (M B).1;have aC:=M B;have A:(⟨a.aA,a.ac,1,a.bJ,a.bF,a.time⟩:z).wf:=⟨by simp,by simp,by simp;omega,by simp;omega,by simp,by simp;omega,by simp;omega,by simp⟩;exact zk Q x c Z _ _ _ _ _ _ _ w _ y.e R (λe b=>(yF (Y.bC b) v _ hi ⟨a.aA,a.ac,1,a.bJ,a.bF,a.time⟩ A X.symm T.symm).mono (λl w' ⟨s,o,r⟩=>⟨s,d e w' b o r⟩))
 rw[f B] at d i ⊢;rw[f B];by_cases aa:a.kind=3
 .rw[D aa] at d i ⊢;rw[D aa];have ao:=mE (aj aa);have A:(⟨a.aA,a.ac,2,a.bJ,a.bF,0⟩:z).wf:=⟨by simp,by simp,by simp;omega,by simp;omega,by simp,by simp;omega,by simp,by simp⟩;exact zk Q x c Z _ _ _ _ _ _ _ w _ y.e R (λe b=>(yF (Y.bC b) v _ hi ⟨a.aA,a.ac,2,a.bJ,a.bF,0⟩ A X.symm T.symm).mono (λl w' ⟨s,o,r⟩=>⟨s,d e w' b o r⟩))
 rw[f aa] at d i ⊢;rw[f aa];by_cases ab:a.kind=5
 .rw[D ab] at d i ⊢;rw[D ab];obtain⟨aA,az,A⟩:=ak ab;obtain⟨au,aw,ax,av⟩:=nF v aA;have ar:p.idx a.aA a.ac≠p.idx a.dd a.de:=by
   intro l;have ad:=LQ az;rw[af] at ad;rw[aw] at A;simp only[l] at ad;omega
  rw[af] at d ⊢;refine LG Q x c Z _ _ _ _ _ w _ y.e R (λe b=>?_);have:=JF (Y.bC b) v _ hi _ au ar;rw[X,T,ax,av] at this;exact this.mono (λl w' ⟨s,o,r⟩=>⟨s,d e w' b o r⟩)
 rw[f ab] at d i ⊢;rw[f ab];by_cases ae:a.kind=6
 .rw[D ae] at d i ⊢;rw[D ae];have A:(⟨a.aA,a.ac,3,0,0,0⟩:z).wf:=⟨by simp,by simp,by simp,by simp,by simp,by simp,by simp,by simp⟩;exact zk Q x c Z _ _ _ _ _ _ _ w _ y.e R (λe b=>(yF (Y.bC b) v _ hi ⟨a.aA,a.ac,3,0,0,0⟩ A X.symm T.symm).mono (λl w' ⟨s,o,r⟩=>⟨s,d e w' b o r⟩))
 rw[f ae] at d i ⊢;rw[f ae];rw[af] at d ⊢;refine LF Q x c Z _ _ _ w _ y.e R (λe b=>?_);have:=JD (Y.bC b) v _ hi;rw[X,T] at this;exact this.mono (λl w' ⟨s,o,r⟩=>⟨s,d e w' b o r⟩)
open Go.RowKit Go.WideMaps
structure uz (w:U) (g:Nat) (hs:List z):Prop where
 cur:∃cs,X w g cs 199/\∀i (h:i<hs.length),cs[i* 4]? =E (F K hs[i].st)/\cs[i* 4+1]? =E (F K hs[i].pa)/\cs[i* 4+2]? =E (F K hs[i].cl)/\cs[i* 4+3]? =E (F K hs[i].un)
theorem C8(d:z->List V)(e:∀x,(d x).length=4):∀(b:List z) (a:Nat) (c:a<b.length) (j:Nat),j<4->(b.flatMap d)[a* 4+j]? =(d b[a])[j]?
 |[],a,c,_,_=>absurd c (fK _)
 |x::b,0,c,j,i=>by
  rw[jE,vJ,bK,vK (by rw[e];exact i)];rfl
 |x::b,a+1,c,j,i=>by
  rw[jE,tS (by rw[e,lE];omega),e];rw[show(a+1)* 4+j - 4=a* 4+j by rw[lE,sf];omega];exact C8 d e b a (by simpa using c) j i
theorem LR{w:U}(l:w.ownsRow 0 199 4 i S.length (S.flatMap qU))(B:0<S.length):∃b k,i=C (E (u b 0 J)) S.length k/\uz w b S:=by
 obtain⟨v,n|⟨b,j,e,s,x,o,A,y,G,r⟩⟩:=l
 .exact absurd n.2 (by omega)
 .refine⟨b,j,s,e,o,λd hi=>?_⟩;have c:∀a,a<4->e[d* 4+a]? =(qU S[d])[a]? :=λa p=>by
   have:=C8 qU K5 S d hi a p;rw[<-r,oD,D (by omega)] at this;rw[<-dy,this]
  exact⟨c 0 (by omega),c 1 (by omega),c 2 (by omega),c 3 (by omega)⟩
theorem uz.mod{w w':U}{S:Nat->Prop}(b:uz w Q o)(i:G S w w')(e:¬S Q):uz w' Q o:=by
 obtain⟨a,c,d⟩:=b.cur;exact⟨a,i.e c e,d⟩
structure gw (w wr:U) (b m':Nat) (Q:O) (acc0:List z) (hs:List z) (n k:Nat):Prop where
 fl:∃es' clock',cK wr b Q ((hs.take n).foldl dh acc0) m' es' clock'
 mF:jU Q ((hs.take n).foldl dh acc0) (hs.length - n)
 full:∀j (h:j<((hs.take n).foldl dh acc0).length),j<k->((hs.take n).foldl dh acc0)[j].st≠0
 mod:G (λk=>k=b\/k=m') w wr
theorem gw.still{w wr w2:U}{m':Nat}(b:gw w wr Q m' R S o P p)(d:G No wr w2):gw w w2 Q m' R S o P p:=by
 obtain⟨i,e,c⟩:=b.fl;exact⟨⟨i,e,d.e c.e (λa=>a),d.map c.map (λa=>a),c.ok,c.rel⟩,b.mF,b.full,b.mod.trans (d.mono (λ_ _ a=>a.elim))⟩
theorem C9(d:Q<S.length)(a:S[Q].st=0)(b:∀j (e:j<S.length),j<Q->S[j].st≠0):dL S=Q:=by
 unfold dL;rw[List.findIdx_eq d];refine⟨by simp[a],λj c=>?_⟩;have:=b j (by omega) c;simpa using this
theorem LS(a:Q<S.length)(c:S[Q].st=0)(d:∀j (e:j<S.length),j<Q->S[j].st≠0)(b:z):dh S b=S.set Q (z.at b S[Q]):=by
 unfold dh;rw[C9 a c d,qR,du a];rfl
theorem wH(a:Q<o.length):(o.take (Q+1)).foldl dh S=dh ((o.take Q).foldl dh S) o[Q]:=by
 rw[take_succ o Q a,sI];rfl
theorem gw.put{w wr:U}{m':Nat}(a:gw w wr Q m' R S o P p)(A:∀n∈o,n.wf/\n.st≠0)(c:P<o.length)(b:p<((o.take P).foldl dh S).length)(j:((o.take P).foldl dh S)[p].st=0):Calls h 118 #[g (E (u Q 0 J)),t #[F K ((o.take P).foldl dh S)[p].row,F K ((o.take P).foldl dh S)[p].ae],t #[F K o[P].st,F K o[P].pa,F K o[P].cl,F K o[P].un]] wr λe w'=>
   e=q (aq #[])/\gw w w' Q m' R S o (P+1) p/\G (λp=>p=Q\/p=m') wr w':=by
 obtain⟨M,I,r⟩:=a.fl;have d:=A _ (eK c);have N:=C9 b j a.full;have x:jU R ((o.take P).foldl dh S) ((o.length - (P+1))+1):=by rw[show o.length - (P+1)+1=o.length - P by omega];exact a.mF
 have y:=jU.step x d.1 d.2;refine(vW r a.mF.wf p b (z.at o[P] ((o.take P).foldl dh S)[p]) (Cv d.1) rfl rfl).mono ?_;rintro e w' ⟨rfl,s,l⟩;have i:(o.take (P+1)).foldl dh S=((o.take P).foldl dh S).set p (z.at o[P] ((o.take P).foldl dh S)[p]):=by
  rw[wH c];exact LS b j a.full _
 refine⟨rfl,⟨⟨_,_,by rw[i];exact s⟩,by rw[wH c];exact y,λB k v=>?_,a.mod.trans l⟩,l⟩;simp only[i] at k ⊢;rw[qX (by omega)];exact a.full B (by simpa using k) v
theorem gw.on{w wr:U}{m':Nat}(a:gw w wr Q m' R S o P p)(j:p<((o.take P).foldl dh S).length)(d:((o.take P).foldl dh S)[p].st≠0):gw w wr Q m' R S o P (p+1):=by
 refine⟨a.fl,a.mF,λb e i=>?_,a.mod⟩;by_cases c:b=p
 .subst c;exact d
 .exact a.full b e (by omega)
theorem gw.lt{w wr:U}{m':Nat}(a:gw w wr Q m' R S o P p)(j:P<o.length)(i:p<=((o.take P).foldl dh S).length):p<((o.take P).foldl dh S).length:=by
 have e:jU R ((o.take P).foldl dh S) ((o.length - (P+1))+1):=by rw[show o.length - (P+1)+1=o.length - P by omega];exact a.mF
 have c:=v8 e;have d:=v9 c;obtain b|b:=Nat.lt_or_ge (dL ((o.take P).foldl dh S)) p
 .exact absurd d (a.full _ c b)
 .omega
theorem Da{w:U}{d:Nat}{p:O}{e:List az}(c:cK w Q p S P e d)(i:aJ p S)(a:Nat)(hi:a<S.length)(b:U)(o:G No w b):(ji 162 (.map (E P)) (t #[F K S[a].row,F K S[a].ae]) false).run h b=.ok (t #[F K S[a].st,F K S[a].pa,F K S[a].cl,F K S[a].un]) b:=by
 have r:=(i.kU hi).1;simp only[O.e,eA] at r;obtain⟨j,k,l,n,_⟩:=i.bounds;simp only at j k l n;have:=vA b P e d (o.map c.map (λs=>s)) c.ok S[a].row S[a].ae (by omega) (by omega);rw[c.rel.dX a hi] at this;exact this
attribute [local go_sem] vY
def dn(a b:List z)(c:Nat):List z:=(b.take c).foldl dh a
theorem Db(k m' ao bl:Nat)(o:O)(j e:List z)(a:Option Addr)(w:U)(B:gw w w k m' o j e 0 0)(aK:∀az∈e,az.wf/\az.st≠0)(a3:0<e.length->a=E (u ao 0 J)/\uz w ao e/\ao≠k/\ao≠m')(bI:e.length<=120):Calls h 163 #[g (E (u k 0 J)),C a e.length bl] w λp w'=>p=q (aq #[])/\∃c,gw w w' k m' o j e e.length c:=by
 have bA:=l aK;have bb:=l a3;have a9:=l B;have bp:k<w.heap.size/\m'<w.heap.size:=by
  obtain⟨bm,bk,T⟩:=B.fl;exact⟨T.e.lt,(Array.getElem?_eq_some_iff.1 T.map).1⟩
 obtain⟨bL,bJ⟩:=bp;have aP:=l λ(wr:U) (d c:Nat) (v:gw w wr k m' o j e d c)=>(show(dn j e d).length<=120 from bV.wf.jO v.mF.wf);have aQ:=l λ(wr:U) (d c:Nat) (v:gw w wr k m' o j e d c) (x:c<(dn j e d).length)=>
  (show ∃A y s P N Q:Int,(∀i,G No wr i->Calls h 113 #[g (E (u k 0 J)),F K (c:Int)] i λp w'=>p=q (t #[F K A,F K y])/\G No i w')/\
   (∀i,G No wr i->(ji 162 (.map (E m')) (t #[F K A,F K y]) false).run h i=.ok (t #[F K s,F K P,F K N,F K Q]) i)/\
   (∀i,G No wr i->i.cell? (u k 7 J)=E (.map (E m')))/\
   (s≠0->gw w wr k m' o j e d (c+1))/\
   (s=0->∀(I:d<e.length) i,G No wr i->Calls h 118 #[g (E (u k 0 J)),t #[F K A,F K y],t #[F K e[d].st,F K e[d].pa,F K e[d].cl,F K e[d].un]] i λp w'=>
    p=q (aq #[])/\gw w w' k m' o j e (d+1) c/\G (λc=>c=k\/c=m') i w') from by
  obtain⟨bm,bk,T⟩:=v.fl
  have ar:=v.mF.wf
  have bo:=ar.bounds
  simp only at bo
  obtain⟨aC,aZ⟩:∃aC:Nat,o.y=(aC:Int):=⟨o.y.toNat,by omega⟩
  have br:=bV.wf.jO ar
  simp only at br
  have ap:c<((e.take d).foldl dh j).length:=x
  refine⟨((e.take d).foldl dh j)[c].row,((e.take d).foldl dh j)[c].ae,((e.take d).foldl dh j)[c].st,((e.take d).foldl dh j)[c].pa,((e.take d).foldl dh j)[c].cl,((e.take d).foldl dh j)[c].un,λi r=>?_,λi r=>Da T ar c ap i r,λi r=>?_,λZ=>v.on ap Z,λZ I i r=>(v.still r).put aK I ap Z⟩
  .have:=wu k _ _ aC c i (r.e T.e (λn=>n)) (by rw[<-aZ];rfl) (by omega) (by omega)
   have aI:=ar.place c ap
   simp only at aI
   rw[aI.1,aI.2,aZ]
   exact this
  .rw[(r.e T.e (λn=>n)).T];rfl)
 have aR:=l λ(wr:U) (d c:Nat) (v:gw w wr k m' o j e d c) (I:d<e.length) (x:c<=(dn j e d).length)=>(show c<(dn j e d).length from v.lt I x)
 have aS:=l λ(d:Nat) (I:d<e.length)=>(show(dn j e (d+1)).length=(dn j e d).length from by
  unfold dn;rw[wH I];unfold dh;rw[kH])
 clear B aK a3;go_enter func163,ntmps163;go_wp2_with fail;go_loopw [4,9] (λae aL wr=>∃d c:Nat,aL=F K (d:Int)/\d<=e.length/\ae=F K (c:Int)/\c<=(dn j e d).length/\Hid (gw w wr k m' o j e d c)) (λ_ aL _=>e.length - (intOf aL).toNat)
 case atStart=>exact⟨0,0,rfl,by omega,rfl,by omega,a9⟩
 case round=>
  obtain⟨d,c,rfl,I,rfl,x,W⟩:=hrel;by_cases S:d<e.length
  .have bn:(d:Int)<(e.length:Int):=by omega
   have bP:K.wrap ((d:Int)+1)=((d+1:Nat):Int):=by rw[bh _ (by omega) (by omega)];rfl
   obtain⟨rfl,a4,ab,aF⟩:=(b bb) (by omega);have a5:=a4.mod (b W).mod (by rintro(p|p);exact ab p;exact aF p);obtain⟨bF,aa,hcs⟩:=a5.cur;obtain⟨ai,aj,ak,am⟩:=hcs d S;have bH:=aa.lt;rw[<-aa.T] at ai aj ak am;have ba:=l aa;obtain⟨bv,aJ⟩:∃az,e[d]=az:=⟨_,rfl⟩;rw[aJ] at ai aj ak am;obtain⟨bU,bT,af,ad,Y,ag⟩:=bv;simp only at ai aj ak am
   have bc:=l λ(wr:U) (c:Nat) (v:gw w wr k m' o j e d c) (x:c<(dn j e d).length)=>
    (show ∃A y s P N Q:Int,(∀i,G No wr i->Calls h 113 #[g (E (u k 0 J)),F K (c:Int)] i λp w'=>p=q (t #[F K A,F K y])/\G No i w')/\
     (∀i,G No wr i->(ji 162 (.map (E m')) (t #[F K A,F K y]) false).run h i=.ok (t #[F K s,F K P,F K N,F K Q]) i)/\
     (∀i,G No wr i->i.cell? (u k 7 J)=E (.map (E m')))/\
     (s≠0->gw w wr k m' o j e d (c+1))/\
     (s=0->∀i,G No wr i->Calls h 118 #[g (E (u k 0 J)),t #[F K A,F K y],t #[F K af,F K ad,F K Y,F K ag]] i λp w'=>
      p=q (aq #[])/\gw w w' k m' o j e (d+1) c/\G (λc=>c=k\/c=m') i w') from by
    obtain⟨A,y,s,P,N,Q,au,av,aw,ax,ay⟩:=(b aQ) wr d c v x
    refine⟨A,y,s,P,N,Q,au,av,aw,ax,λZ i r=>?_⟩
    have:=ay Z S i r
    rw[aJ] at this
    exact this)
   have LT:=l λ(wr:U) (c:Nat) (v:gw w wr k m' o j e d c) (x:c<=(dn j e d).length)=>(b aR) wr d c v S x;have bf:=l ((b aS) d S);have bd:=l ((b aP) _ _ _ (b W));have aN:=l S;have ba:=l aa;have bz:=l I;have bx:=l (gE ab aF);clear a4 a5 hcs aa ab aF aJ aQ aR aS aP I;clear S;go_wp2_with fail;have aE:=l ((b W).still ((G.refl No wr).alloc (m #[F K af,F K ad,F K Y,F K ag] 199)))
   have aA:=l (X.new wr #[F K af,F K ad,F K Y,F K ag] 199);have a1:k≠wr.heap.size/\m'≠wr.heap.size:=by have:=(b W).mod.size;omega
   have bw:=l a1;clear a1 ai aj ak am;generalize bt:wr.alloc (m #[F K af,F K ad,F K Y,F K ag] 199)=bZ at *;clear bt;generalize ab:wr.heap.size=bu at *;clear ab;go_loopw [4] (λae a6=>∃c:Nat,ae=F K (c:Int)/\c<=(dn j e d).length/\Hid (gw w a6 k m' o j e d c)/\Hid (X a6 bu #[F K af,F K ad,F K Y,F K ag] 199)) (λae _=>(dn j e d).length - (intOf ae).toNat)
   case atStart=>exact⟨c,rfl,x,aE,aA⟩
   case round=>
    obtain⟨c,rfl,x,ah,aB⟩:=hrel;have aG:=(b LT) _ c (b ah) x;obtain⟨A,y,s,P,N,Q,au,av,aw,ax,ay⟩:=(b bc) _ c (b ah) aG;have aD:=l au;have bi:=l ay;have bg:=l ax;have a0:∀n:gZ wr,(ji 162 (.map (E m')) (t #[F K A,F K y]) false).run h n.W=.ok (t #[F K s,F K P,F K N,F K Q]) n.W:=λn=>av _ n.h;have aY:∀n:gZ wr,n.W.cell? (u k 7 J)=E (.map (E m')):=λn=>aw _ n.h;have a2:=vH wr;have aO:=l aG
    have bB:=b bd;clear au av aw ax ay aG;by_cases B:s=0
    .have aT:=l B;subst B;go_wp2_with fail;refine qG (w0:=wr) (by kernel_rfl) (by kernel_rfl) (G.refl _ _) ?_
     repeat (go_big_quiet_step ((go_at_call 113;exact Calls.wd _ ((b aD) _ (gZ.h _)))))
     refine sJ ?_;rintro w3 ⟨⟨_,M⟩,rfl⟩;have aX:=l ((b ah).still M);have R:=l (M.e (b aB) (λn=>n));have aW:=l M;clear M a0 aY a2 aE aA;go_wp2_with fail;have bC:=(b R).T;have bR:=(b R).lt;have a7:=l λi (r:G No w3 i)=>(b aD) i ((b aW).trans r);have a8:=l λi (r:G No w3 i)=>(b bi) (by trivial) i ((b aW).trans r);have aU:=l (G.refl No w3)
     go_region_with (first
       |(go_at_call 113;refine((b a7) _ (b aU).drew).mono ?_;rintro p bX ⟨rfl,aH⟩;have bE:=(aH.e (b R).drew (λn=>n)).T;have bS:=(aH.e (b R).drew (λn=>n)).lt)
       |(go_at_call 118;refine((b a8) _ ((b aU).drew.trans aH)).mono ?_;rintro p bY ⟨rfl,bs,bM⟩))
     all_goals go_wp2
     all_goals exact⟨⟨d+1,c,by trivial,by have:=b aN;omega,by trivial,by rw[b bf];exact x,bs⟩,by simp[intOf];have:=b aN;omega⟩
    .have aT:=l B;have bO:(s !=0)=true:=by simp[B]
     have bQ:K.wrap ((c:Int)+1)=((c+1:Nat):Int):=by rw[bh _ (by omega) (by omega)];rfl
     clear B;go_wp2_with fail;refine qG (w0:=wr) (by kernel_rfl) (by kernel_rfl) (G.refl _ _) ?_
     repeat (go_big_quiet_step ((go_at_call 113;exact Calls.wd _ ((b aD) _ (gZ.h _)))))
     refine sJ ?_;rintro w3 ⟨⟨_,M⟩,rfl⟩;have aX:=l (((b bg) (b aT)).still M);have R:=l (M.e (b aB) (λn=>n));clear M a0 aY a2 aE aA ah aB;go_wp2;exact⟨⟨c+1,rfl,by have:=b aO;omega,aX,R⟩,by simp[intOf];have:=b aO;omega⟩
  .have bq:d=e.length:=by omega
   subst bq;have bn:¬((e.length:Nat):Int)<(e.length:Int):=by omega
   go_wp2;go_end0;exact⟨rfl,c,b W⟩
def uA:Array V:=#[F K 0,F K 0,F K 0,F K 0,F K 0,F K 0,F K 0,.map J,F K 0,F K 0,F K 0,F K 0,F K 0,F K 0,F K 0,F K 0,F K 0,F K 0,F K 0,F K 0,F K 0,F K 0,F K 0,F K 0,F K 0]
theorem LU(p:O)(b:Option Nat)(a:List z):(fM p (.map b) a).all (·.oneCell')=true:=by simp[fM,eX,dZ,Value.oneCell']
theorem Dc:(h.underlying 164).map (·.isRow)=E true:=by kernel_rfl
theorem zn:(h.info? 164).map (·.size)=E 25:=by kernel_rfl
def mG(p a:O):O:=⟨a.rows,a.y,a.Z,p.af,p.ag,p.ai,p.aj,p.ep⟩
theorem LV{m' x clock0:Nat}{p:O}{I es0:List az}{w w':U}(hS:iV w w' Q P m' x p R S I i S.length)(e:aJ p S)(N:R.aY=true)(T:R.bI=true)(X:¬R.rows* R.y<(cG S:Int))(ab:Q<w.heap.size)(af:m'<w.heap.size):∃a c,i=C a (bY R S).length c/\Calls h 163 #[g (E (u Q 0 J)),C a (bY R S).length c] w' λk w2=>k=q (aq #[])/\(∃M y,cK w2 Q R (gR R S) m' M y)/\G (λj=>j=Q\/j=m') w' w2:=by
 have l:=hS.row;have b:=hS.fl;rw[fN] at l b;obtain⟨a,c,rfl⟩:=aR l;refine⟨a,c,rfl,?_⟩;have r:gw w' w' Q m' R (stay R S) (bY R S) 0 0:=⟨b,we e N T X,λag o ae=>by omega,G.refl _ _⟩;have s:(bY R S).length<=120:=cC (sP _ _) (bV.wf.jO e);by_cases v:0<(bY R S).length
 .obtain⟨n,Z,Y,W⟩:=LR l v;injection Y with A aa B;subst A B;have ad:=hS.new n rfl;refine(Db Q m' n c R (stay R S) (bY R S) _ w' r (um e) (λ_=>⟨rfl,W,by omega,by omega⟩) s).mono ?_;rintro k w2 ⟨rfl,j,d⟩;have b:=d.fl;rw[fN] at b;exact⟨rfl,b,d.mod⟩
 .refine(Db Q m' 0 c R (stay R S) (bY R S) _ w' r (um e) (λo=>absurd o v) s).mono ?_;rintro k w2 ⟨rfl,j,d⟩;have b:=d.fl;rw[fN] at b;exact⟨rfl,b,d.mod⟩
theorem LW{S:Nat->Prop}{p:O}{w:U}(i:cF w S Q p o)(P:aJ p o)(W:R.aY=true)(ay:¬R.rows* R.y<(cG o:Int)):Calls h 162 #[t #[F K R.rows,F K R.y,F K R.Z],g (E (u Q 0 J))] w λd w'=>d=q (aq #[])/\cF w' (λc=>c=Q\/w.heap.size<=c) Q (gG p R) (gR (gG p R) o)/\G (λc=>c=Q) w w':=by
 obtain⟨a,y,x,f1,f2,f3,f4,f5,f6⟩:=i;have aA:cK w Q p o a y x:=⟨f1,f2,f3,f4⟩;have bn:=f1.lt;have bo:=(Array.getElem?_eq_some_iff.1 f2).1;have a4:=f1.pJ f2;have M:(mG p R).aY=true:=W;have N:(mG p R).bI=true:=P.bI;have aO:=l aA;have bg:=l W
 have ag:=l λe (a2:G No w e)=>(show Calls h 159 #[g (E (u Q 0 J)),t #[F K R.rows,F K R.y,F K R.Z,F K p.af,F K p.ag,F K p.ai,F K p.aj]] e λd w'=>
   d=q (aq #[])/\(∃m' n k,cK w' Q (mG p R) (aI (mG p R)) m' n k/\e.heap.size<=m')/\G (λc=>c=Q) e w' from by
  refine(yJ (p:=mG p R) p.ep ⟨_,_,_,_,_,_,_,_,_,_,_,_,_,_,_,_,_,_,_,_,_,_,_,_,a2.e f1 (λj=>j)⟩ M N).mono ?_
  rintro d w' ⟨rfl,⟨m',n,k,ar,au,aZ,a0,bl,a1⟩,Z⟩
  have:=ar.pJ au
  exact⟨rfl,⟨m',n,k,⟨ar,au,aZ,a0⟩,by obtain i|i:=a1;exact absurd i this;exact i⟩,Z⟩)
 have ak:=l λ(e:U) (m' k:Nat) (n:List az) (a5:cK e Q (mG p R) (aI (mG p R)) m' n k) (Z:e.heap[a]? =E (cX y x)) (aa:a≠m')=>
  K8 Q a m' x k p (mG p R) o y n e a5 Z f3 f4 P M N aa
 have aj:=l λ(e w':U) (m':Nat) (A:V) (hS:iV e w' Q a m' x p (mG p R) o y A o.length) (a3:Q<e.heap.size) (ax:m'<e.heap.size)=>LV (clock0:=0) (es0:=[]) hS P M N ay a3 ax;clear W ay P f3 f4 f5 f6 M N aA;have aK:=l f1;have bf:=l f2;clear f1 f2;go_enter func162,ntmps162;go_upto_region 1 with fail;have ad:G No w (w.alloc (m #[F K R.rows,F K R.y,F K R.Z] 212)):=(G.refl _ w).alloc _
 have af:=l (ad.e (b aK) (λj=>j));have bq:=(b af).lt;have aS:=l ad;have aH:=l (X.new w #[F K R.rows,F K R.y,F K R.Z] 212);have a7:(w.alloc (m #[F K R.rows,F K R.y,F K R.Z] 212)).heap.size=w.heap.size+1:=bW ..;clear ad;generalize a8:w.alloc (m #[F K R.rows,F K R.y,F K R.Z] 212)=aG at *;clear a8
 have ap:=l (show X (aG.alloc (m #[F K 0,F K 0,F K 0,F K 0,F K 0,F K 0,F K 0,.map J,F K 0,F K 0,F K 0,F K 0,F K 0,F K 0,F K 0,F K 0,F K 0,F K 0,F K 0,F K 0,F K 0,F K 0,F K 0,F K 0,F K 0] 164)) (w.heap.size+1) uA 164 from by have:=X.new aG uA 164;rw[a7] at this;exact this);have am:=l ((b aS).alloc (m uA 164))
 go_upto_region 2 with(first
  |(refine rZ rfl 164 _ rfl Q 0 rfl (fM p (.map (E a)) o) 164 (b af) (fM p (.map (E a)) o) (λba A i=>by rw[bK];simpa using i) Dc zn ?_)
  |(refine yq rfl 164 _ _ rfl (w.heap.size+1) (fM p (.map (E a)) o) rfl rfl uA 164 (b ap) rfl zn (LU p _ o) ?_;intro bd av ab))
 have v:=l ((b am).trans' ab (λa9 hi a6=>by omega));have ae:=l (ab.e ((b aH).alloc (m uA 164)) (by omega));have r:=l av
 have ao:=l (show cK bd Q p o a y x from by
  have:=b aO
  exact⟨(b v).e this.e (λj=>j),(b v).map this.map (λj=>j),this.ok,this.rel⟩)
 clear ab av ap am;have aW:=(b ae).T;have aC:=(b r).T 3;rw[show(fM p (.map (E a)) o)[3]? =E (F K p.af) from rfl] at aC;have aD:=(b r).T 4;rw[show(fM p (.map (E a)) o)[4]? =E (F K p.ag) from rfl] at aD;have aE:=(b r).T 5;rw[show(fM p (.map (E a)) o)[5]? =E (F K p.ai) from rfl] at aE;have aF:=(b r).T 6;rw[show(fM p (.map (E a)) o)[6]? =E (F K p.aj) from rfl] at aF;go_wp2_with fail
 refine((b ag) _ (b v)).mono ?_;rintro d bs ⟨rfl,⟨m',n,k,s,ax⟩,T⟩;clear aW aC aD aE aF;have br:=(b r).lt;have aa:a≠m':=by omega
 have aL:=l (T.map (b ao).map (λd=>a4 d));have aT:=l (T.e (b r) (λd=>by omega));have aU:=l s;have aP:=l (((b v).mono (S':=λc=>c=Q) (λ_ _ j=>j.elim)).trans T);have bb:=s.e.lt;have bc:=(Array.getElem?_eq_some_iff.1 s.map).1;have ah:=l (show w.heap.size<=m' from by have:=(b v).size;omega);have bm:=s.e.pJ s.map;clear s T ao ae r
 go_wp2_with (first
  |(refine rZ rfl 164 _ rfl (w.heap.size+1) 0 rfl (fM p (.map (E a)) o) 164 (b aT) (fM p (.map (E a)) o) (λba A i=>by rw[bK];simpa using i) Dc zn ?_))
 refine((b ak) _ m' k n (b aU) (b aL) aa).mono ?_;rintro d bt ⟨A,rfl,hS⟩;have aQ:=l hS.mod;obtain⟨bh,bk,rfl,aw⟩:=(b aj) _ _ m' A hS bb bc;have ai:=l aw;clear aw hS aj ak ag;go_wp2_with fail;refine(b ai).mono ?_;rintro d B ⟨rfl,⟨aY,aX,I⟩,aB⟩;have Y:cF B (λc=>c=Q\/w.heap.size<=c) Q (mG p R) (gR (mG p R) o):=⟨m',aY,aX,I.e,I.map,I.ok,I.rel,.inl rfl,.inr (b ah)⟩;have aR:=l ((b aQ).trans aB)
 obtain⟨bi,bv,bp⟩:B.cell? (u Q 24 J)=E (F K p.ep)/\B.frozen? (u Q 24 J)=false/\Q<B.heap.size:=Y.ue;have bu:=tK p.ep;have aN:=l (show cF (B.setCell (u Q 24 J) (F K (ik p.ep))) (λc=>c=Q\/w.heap.size<=c) Q (gG p R) (gR (gG p R) o) from Y.oG.1);clear Y I aB ai;go_wp2;go_end0;refine⟨rfl,b aN,?_⟩;exact(((b aP).trans' (b aR) (λa9 hi a6=>by obtain d|d:=hi;exact d;have:=b ah;omega))).at 24 _
def br(b:Int)(c:Nat->Option (O×List z))(a:aK):Int×Int×(Nat->Option (O×List z)):=
 if a.kind<1\/a.kind>9 then(1,b,c)
 else if a.kind=8 then(if 1<=a.time/\a.time<=100 then(0,b+a.time,λi=>(c i).map (jV (b+a.time))) else(8,b,c))
 else if ¬(1<=a.aF/\a.aF<=20) then(2,b,c)
 else match c a.aF.toNat with
  |none=>if a.kind=1 then(if a.c.aY=true/\a.c.bI=true then(0,b,λe=>if e=a.aF.toNat then E (a.c.at 1,aI a.c) else c e) else(4,b,c)) else(2,b,c)
  |some d=>if a.kind=1 then(3,b,c) else if bH d.1 d.2 a b=0 then(0,b,λe=>if e=a.aF.toNat then E (iG d.1 a,eD d.1 d.2 a) else c e) else(bH d.1 d.2 a b,b,c)
structure pU (w:U) (ow:Nat->Nat) (kb:Nat) (now:Int) (fl:Nat->Option (O×List z)):Prop where
 ex:∃dS,cI w ow kb now dS fl
structure oR (w w':U) (ow:Nat->Nat) (kb:Nat) (dS:Nat->Option Nat) (now:Int) (fl:Nat->Option (O×List z)):Prop where
 keep:∃ow' pt',cI w' ow' kb now pt' fl/\(∀k,k<w.heap.size->ow' k=ow k)/\∀i,21<=i->pt' i=dS i
 mod:G (λk=>ow k≠0/\ow k<30) w w'
theorem LX{w w':U}(b:X w Q (dA I j) 121)(c:X w' Q (dA v k) 121)(d:∀a,21<=a->a<29->k a=j a):∀a,a<8->w'.cell? ⟨Q,22+a,J⟩=w.cell? ⟨Q,22+a,J⟩:=λa hi=>by
 rw[b.T,c.T,lN _ _ a hi,lN _ _ a hi,d _ (by omega) (by omega)]
theorem Dd{w:U}(d:cI w N Q I k W)(c:Nat)(ad:1<=c/\c<=20)(aa:W c=J)(p:O)(y:p.aY=true)(A:p.bI=true):Calls h 44 #[g (E (u Q 0 J)),t #[F K c,kW p]] w λa w'=>a=q (aq #[])/\oR w w' N Q k I (λj=>if j=c then E (p.at 1,aI p) else W j):=by
 refine LJ Q c ad I k p w _ d.e (d.gone c (by omega) aa) (λl n r B=>?_);have ah:w.heap.size<=l.heap.size:=n.size;have af:=B.lt;refine(JI B y A).mono ?_;rintro a w' ⟨rfl,Z,s⟩;refine⟨rfl,⟨λb=>if b<w.heap.size then N b else if b=w.heap.size+2\/(l.heap.size<=b/\b<w'.heap.size) then c+2 else 0,gH k c (w.heap.size+2),?_,λb r=>by simp[r],λR hi=>by simp only[gH];rw[f (by omega)]⟩,?_⟩
 .have ae:Q<w.heap.size:=d.e.lt;have P:G (λb=>b=w.heap.size+2) l w':=s;have ai:l.heap.size<=w'.heap.size:=s.size;refine⟨P.e r (by omega),by simp[ae,d.bw],λb i=>?_,λj o e=>?_,λj x v o e=>?_⟩
  .split at i
   .omega
   .split at i
    .rename_i a;obtain a|a:=a<;>omega
    .exact absurd rfl i
  .by_cases a:j=c
   .rw[D a] at e;exact absurd e (by simp)
   .rw[f a] at e;simp only[gH,f a];exact d.gone j o e
  .by_cases a:j=c
   .rw[D a] at e;simp only[wh,qP] at e;obtain⟨rfl,rfl⟩:=e;subst a;refine⟨w.heap.size+2,by simp[gH],(oH y A).at 1,?_⟩;refine Z.narrow.wide (λb ⟨M,ab⟩=>?_);have:¬b<w.heap.size:=by obtain a|a:=M<;>omega
    have Y:b=w.heap.size+2\/(l.heap.size<=b/\b<w'.heap.size):=by obtain a|a:=M;exact .inl a;exact .inr ⟨a,ab⟩
    simp only[f this,D Y]
   .rw[f a] at e;obtain⟨b',S,T,X⟩:=d.here j x v o e;refine⟨b',by simp only[gH,f a];exact S,T,?_⟩;have f1:cF l (λb=>N b=j+2) b' x v:=X.mod n (λb i a=>by subst a;rw[d.bw] at i;omega)
    have f2:cF w' (λb=>N b=j+2) b' x v:=f1.mod P (λb i a=>by
     subst a
     have:=d.bg _ (show N (w.heap.size+2)≠0 by omega)
     omega)
    refine f2.wide (λb i=>?_);have:=d.bg b (by omega);simp only[D this];exact i
 .refine(n.mono (λb _ (a:b=Q)=>by subst a;show N b≠0/\N b<30;rw[d.bw];omega)).trans' s (λR (a:R=w.heap.size+2) ag=>by omega)
theorem De{w:U}(i:cI w N Q I k W)(d:Nat)(ar:1<=d/\d<=20){p:O}(ak:W d=E (p,S))(a:aK)(s:a.kind=9)(v:bH p S a I=0):Calls h 44 #[g (E (u Q 0 J)),t #[F K d,ie a]] w λb w'=>b=q (aq #[])/\oR w w' N Q k I (λj=>if j=d then E (iG p a,eD p S a) else W j):=by
 obtain⟨n,R,G,A⟩:=i.here d p S (by omega) ak;have ai:(dA I k)[1+d]? =E (g (E (u n 0 J))):=by rw[oN I k d (by omega),R];rfl
 have au:N n=d+2:=by obtain⟨ax,af,Y,_,_,_,_,M,_⟩:=A;exact M
 have ah:n<w.heap.size:=by obtain⟨ax,af,Y,M,_⟩:=A;exact M.lt
 have l:a.c.aY=true/\¬(a.c.rows* a.c.y<(cG S:Int)):=by
  unfold bH at v;rw[D s] at v;by_cases l:a.c.aY=true/\¬(a.c.rows* a.c.y<(cG S:Int))
  .exact l
  .rw[f l] at v;exact absurd v (by omega)
 have ad:ie a=pQ a.c:=by unfold ie;rw[D s]
 have ag:eD p S a=gR (gG p a.c) S:=by unfold eD;rw[D s]
 have ae:iG p a=gG p a.c:=by unfold iG;rw[D s]
 have av:aJ (gG p a.c) (gR (gG p a.c) S):=yM (q:=gG p a.c) G l.1 G.bI l.2;rw[ad,ag,ae];unfold pQ;refine LH Q n d ar _ _ _ _ w _ i.e ai (λy r=>(LW (A.bC r) G l.1 l.2).mono ?_);rintro b w' ⟨rfl,aj,x⟩;have ay:w.heap.size<=y.heap.size:=r.size;have aw:Q<w.heap.size:=i.e.lt;have az:y.heap.size<=w'.heap.size:=x.size
 refine⟨rfl,⟨λc=>if c<w.heap.size then N c else if y.heap.size<=c/\c<w'.heap.size then d+2 else 0,k,?_,λc am=>by simp[am],λ_ _=>rfl⟩,(r.mono (λ_ _ P=>P.elim)).trans (x.mono (λc _ (b:c=n)=>by subst b;show N c≠0/\N c<30;omega))⟩;refine⟨x.e (r.e i.e (λP=>P)) (by intro b;have:=i.bw;rw[b] at this;omega),by simp[aw,i.bw],λc o=>?_,λj B e=>?_,λj X T B e=>?_⟩
 .split at o
  .omega
  .split at o
   .omega
   .exact absurd rfl o
 .by_cases b:j=d
  .rw[D b] at e;exact absurd e (by simp)
  .rw[f b] at e;exact i.gone j B e
 .by_cases b:j=d
  .rw[D b] at e;simp only[wh,qP] at e;obtain⟨rfl,rfl⟩:=e;subst b;refine⟨n,R,av,aj.narrow.wide (λc ⟨ao,ap⟩=>?_)⟩;obtain b|b:=ao
   .subst b;simp only[D ah];exact au
   .have:¬c<w.heap.size:=by omega
    simp only[f this,D (gE b ap)]
  .rw[f b] at e;obtain⟨b',Z,aa,ab⟩:=i.here j X T B e;refine⟨b',Z,aa,?_⟩;have f2:cF w' (λc=>N c=j+2) b' X T:=(ab.bC r).mod x (λc o b=>by subst b;omega);refine f2.wide (λc o=>?_);have:=i.bg c (by omega);simp only[D this];exact o
def gx(d c:Int)(b:List z):Int×Int:=match b.getLast? with
 |none=>(d,c)
 |some a=>(a.row,a.ae)
structure gT where
 Y:List z
 r:Int
 c:Int
 ep:Int
 more:Bool
 err:Int
def gI(p:O)(d:List z)(b a c size:Int):gT:=
 if size<1\/size>30 then⟨[],0,0,0,false,12⟩
 else if (dp p b a c).2≠0 then⟨[],0,0,0,false,(dp p b a c).2⟩
 else⟨(d.drop (dp p b a c).1.toNat).take size.toNat,(gx b a ((d.drop (dp p b a c).1.toNat).take size.toNat)).1,(gx b a ((d.drop (dp p b a c).1.toNat).take size.toNat)).2,p.ep,
  decide ((dp p b a c).1.toNat+((d.drop (dp p b a c).1.toNat).take size.toNat).length<d.length),0⟩
structure Told (w w':U) (e:Ending) (R:gT):Prop where
 ex:∃v,e=q (aq #[t #[v,F K R.r,F K R.c,F K R.ep,L R.more],F K R.err])/\w'.ownsRow 0 63 6 v R.Y.length (R.Y.flatMap cq)/\∀k,v.ownBlock=E k->w.heap.size<=k
 mod:G No w w'
theorem L4(j:Nat)(n k a size:Int)(d:size<1\/size>30)(w:U):Calls h 92 #[g (E (u j 0 J)),t #[F K n,F K k,F K a],F K size] w λa w'=>Told w w' a ⟨[],0,0,0,false,12⟩:=by
 have b:∀e i,Told w ((w.alloc e).alloc i) (q (aq #[t #[C J 0 0,F K 0,F K 0,F K 0,L false],F K 12])) ⟨[],0,0,0,false,12⟩:=λe i=>
  ⟨⟨C J 0 0,rfl,dx _ _ _ _,λr l=>by simp[aV] at l⟩,((G.refl _ w).alloc _).alloc _⟩
 obtain c|c:=sN size 1
 .clear d;go_enter func92,ntmps92;go_wp2;refine cN (by simp[results,results92,go_sem];try rfl) rfl ?_;exact b _ _
 .have p:size>30:=by omega
  have o:¬size<1:=by omega
  clear d c;go_enter func92,ntmps92;go_wp2;refine cN (by simp[results,results92,go_sem];try rfl) rfl ?_;exact b _ _
theorem L6(s:Nat)(j i c size x:Int)(O:1<=size/\size<=30)(y:x≠0)(w:U)(v:∀k,G No w k->Calls h 114 #[g (E (u s 0 J)),t #[F K j,F K i,F K c]] k λM w'=>M=q (aq #[F K 0,F K x])/\G No k w'):Calls h 92 #[g (E (u s 0 J)),t #[F K j,F K i,F K c],F K size] w λc w'=>Told w w' c ⟨[],0,0,0,false,x⟩:=by
 have A:=l v;have S:(x !=0)=true:=by simpa using y
 have Q:¬size<1:=by omega
 have R:¬size>30:=by omega
 have z:G No w ((w.alloc (m #[F K j,F K i,F K c] 43)).alloc (m #[C J 0 0,F K 0,F K 0,F K 0,L false] 146)):=((G.refl _ w).alloc _).alloc _;have r:=l z;have o:=X.new (w.alloc (m #[F K j,F K i,F K c] 43)) #[C J 0 0,F K 0,F K 0,F K 0,L false] 146;rw[bW] at o;have I:=l o;clear v O y z o;go_enter func92,ntmps92;go_wp2_with fail;refine((b A) _ (b r)).mono ?_;rintro P e ⟨rfl,n⟩;have a:=n.e (b I) (λx=>x)
 have B:=l ((b r).trans n);have d0:e.cell? ⟨w.heap.size+1,0,J⟩=E (C J 0 0):=a.T 0;have d1:e.cell? ⟨w.heap.size+1,1,J⟩=E (F K 0):=a.T 1;have d2:e.cell? ⟨w.heap.size+1,2,J⟩=E (F K 0):=a.T 2;have d3:e.cell? ⟨w.heap.size+1,3,J⟩=E (F K 0):=a.T 3;have d4:e.cell? ⟨w.heap.size+1,4,J⟩=E (L false):=a.T 4;have f1:=a.aC;have W:=a.lt;clear n a;go_wp2
 refine cN (by simp[results,results92,go_sem,d0,d1,d2,d3,d4];try rfl) rfl ?_;refine⟨⟨C J 0 0,rfl,dx _ _ _ _,λT N=>by simp[aV] at N⟩,?_⟩;have d:∀p,No (⟨w.heap.size+1,p,J⟩:Addr).block\/w.heap.size<=(⟨w.heap.size+1,p,J⟩:Addr).block:=λp=>.inr (by simp);exact(((((b B).setCell (d 0) _).setCell (d 1) _).setCell (d 2) _).setCell (d 3) _).setCell (d 4) _
def bS(I:Int):Array V:=#[F K 0,F K 0,F K 9,F K I,F K 0,F K 0]
theorem L7:(h.info? 63).map (λa=>(a.zero,a.size,a.bytes))=E (E (t #[F K 0,F K 0,F K 0,F K 0,F K 0,F K 0]),6,48):=by kernel_rfl
noncomputable def pV:TypeDesc:=(h.underlying 63).getD (.slice 0)
theorem qY:h.underlying 63=E pV:=by kernel_rfl
theorem L8:(h.info? 60).map (λa=>(a.zero,a.size,a.bytes))=E (E (C J 0 0),1,24):=by kernel_rfl
def sQ(e:U)(i:V)(j:Nat)(I:Int)(o:Nat)(c:V)(d:U):Prop:=
 match o with
 |0|1|5|10=>c=i
 |2|6|7|11|12|13=>c=t (bS I)
 |3=>∃b,c=C (E (u b 0 J)) 1 1/\X d b (bS I) 63/\e.heap.size<=b
 |8=>∃b,c=C (E (u b 0 J)) 2 2/\X d b (bS I++bS I) 63/\e.heap.size<=b
 |14=>∃b,c=C (E (u b 0 J)) 3 3/\X d b (bS I++bS I++bS I) 63/\e.heap.size<=b
 |4=>bp 63 6 d c (j+1)/\∀a,c.ownBlock=E a->i.ownBlock=E a\/e.heap.size<=a
 |9=>bp 63 6 d c (j+2)/\∀a,c.ownBlock=E a->i.ownBlock=E a\/e.heap.size<=a
 |15=>bp 63 6 d c (j+3)/\∀a,c.ownBlock=E a->i.ownBlock=E a\/e.heap.size<=a
 |16|17=>∃b k l n,c=C (E (u b 0 J)) 4 4/\X d b #[i,k,l,n] 61/\e.heap.size<=b/\(bp 63 6 d k (j+1)/\∀a,k.ownBlock=E a->a≠b/\(i.ownBlock=E a\/e.heap.size<=a))/\(bp 63 6 d l (j+2)/\∀a,l.ownBlock=E a->a≠b/\(i.ownBlock=E a\/e.heap.size<=a))/\(bp 63 6 d n (j+3)/\∀a,n.ownBlock=E a->a≠b/\(i.ownBlock=E a\/e.heap.size<=a))
 |_=>True
theorem sQ.fW{e:U}{I:Int}(A:∀o,i.ownBlock=E o->o<e.heap.size)(x:Nat)(y:V)(l n:U)(c:cY 63 6 i.ownBlock l n)(b:sQ e i Q I x y l):sQ e i Q I x y n:=by
 have v:∀a,e.heap.size<=a->E a≠i.ownBlock:=λa N z=>by have:=A a z.symm;omega
 unfold sQ at b ⊢;split at b
 all_goals first
  |exact b
  |(obtain⟨a,j,k,d⟩:=b;exact⟨a,j,c.e _ _ _ k (v a d),d⟩)
  |(exact⟨c.sl _ _ b.1,b.2⟩)
  |(obtain⟨a,B,G,M,j,k,d,p,r,s⟩:=b;exact⟨a,B,G,M,j,c.e _ _ _ k (v a d),d,⟨c.sl _ _ p.1,p.2⟩,⟨c.sl _ _ r.1,r.2⟩,⟨c.sl _ _ s.1,s.2⟩⟩)
theorem Ma(I:Int):(bS I).toList.length=6:=rfl
theorem wI(I:Int):∀a∈(bS I).toList,a.oneCell'=true:=by
 intro a hu;simp[bS] at hu;obtain rfl|rfl|rfl|rfl|rfl|rfl:=hu<;>rfl
theorem zo{a:U}{b:Array V}(c:X a Q b 63):Reads a (C (E (u Q 0 J)) P P) P b.toList:=
 .inr ⟨(u Q 0 J),P,rfl,λd e hu=>by
  rw[dE,bK,c.T,<-dy]
  exact hu⟩
structure mH (S:Array V):Prop where
 size:S.size=25
 ints:∀i,i<23->∀v,S[i]? =E v->wo v
 TY:∀v,S[23]? =E v->v.oneCell'=true
 TZ:∀v,S[24]? =E v->v.oneCell'=true
theorem eG{w w':U}(c:G No w w'){a:Addr}(b:w.cell? a=E i):w'.cell? a=E i:=by
 have d:=jk w a b;unfold World.cell? at b ⊢;rw[c.block _ d (λe=>e)];exact b
theorem uB{w w':U}(a:G No w w')(b:w.rangeAt Q P B):w'.rangeAt Q P B:=λd e c=>eG a (b d e c)
theorem mH.lits{S:Array V}(W:mH S):∃(k d z I M N O P Q R l n e o p r s v x y A B G:Int) (i j:V),S=#[F K k,F K d,F K z,F K I,F K M,F K N,F K O,F K P,F K Q,F K R,F K l,F K n,F K e,F K o,F K p,F K r,F K s,F K v,F K x,F K y,F K A,F K B,F K G,i,j]/\(-9223372036854775808<=d/\d<=9223372036854775807)/\(-9223372036854775808<=e/\e<=9223372036854775807):=by
 have X:=W.size;have b:∀a,a<23->∃c:Int,S[a]? =E (F K c)/\ -9223372036854775808<=c/\c<=9223372036854775807:=λa hi=>by
  have T:S[a]? =E (S[a]'(by omega)):=da (by omega);obtain⟨c,b,aF⟩:=W.ints a hi _ T;exact⟨c,by rw[T,b],aF⟩
 have Y:∀a,a<25->∃aI,S[a]? =E aI:=λa hi=>⟨_,da (by omega)⟩;obtain⟨k,Z,aK⟩:=b 0 (by omega);obtain⟨d,aa,aG⟩:=b 1 (by omega);obtain⟨z,ao,aW⟩:=b 2 (by omega);obtain⟨I,ax,a0⟩:=b 3 (by omega);obtain⟨M,ay,a1⟩:=b 4 (by omega);obtain⟨N,az,a2⟩:=b 5 (by omega);obtain⟨O,aA,a3⟩:=b 6 (by omega);obtain⟨P,aB,a4⟩:=b 7 (by omega);obtain⟨Q,aC,a5⟩:=b 8 (by omega);obtain⟨R,aD,a6⟩:=b 9 (by omega)
 obtain⟨l,ab,aL⟩:=b 10 (by omega);obtain⟨n,ad,aN⟩:=b 11 (by omega);obtain⟨e,ae,aH⟩:=b 12 (by omega);obtain⟨o,af,aO⟩:=b 13 (by omega);obtain⟨p,ag,aP⟩:=b 14 (by omega);obtain⟨r,ah,aQ⟩:=b 15 (by omega);obtain⟨s,ai,aR⟩:=b 16 (by omega);obtain⟨v,aj,aS⟩:=b 17 (by omega);obtain⟨x,ak,aT⟩:=b 18 (by omega);obtain⟨y,am,aU⟩:=b 19 (by omega);obtain⟨A,ap,aX⟩:=b 20 (by omega);obtain⟨B,ar,aY⟩:=b 21 (by omega)
 obtain⟨G,au,aZ⟩:=b 22 (by omega);obtain⟨i,av⟩:=Y 23 (by omega);obtain⟨j,aw⟩:=Y 24 (by omega);refine⟨k,d,z,I,M,N,O,P,Q,R,l,n,e,o,p,r,s,v,x,y,A,B,G,i,j,?_,aG,aH⟩;refine Bx (by rw[X];rfl) (λa aE aJ=>?_);have hi:a<25:=by omega
 rw[X] at aE;have:a=0\/a=1\/a=2\/a=3\/a=4\/a=5\/a=6\/a=7\/a=8\/a=9\/a=10\/a=11\/a=12\/a=13\/a=14\/a=15\/a=16\/a=17\/a=18\/a=19\/a=20\/a=21\/a=22\/a=23\/a=24:=by omega
 obtain rfl|rfl|rfl|rfl|rfl|rfl|rfl|rfl|rfl|rfl|rfl|rfl|rfl|rfl|rfl|rfl|rfl|rfl|rfl|rfl|rfl|rfl|rfl|rfl|rfl:=this
 .rw[da (by omega)] at Z;exact bD Z
 .rw[da (by omega)] at aa;exact bD aa
 .rw[da (by omega)] at ao;exact bD ao
 .rw[da (by omega)] at ax;exact bD ax
 .rw[da (by omega)] at ay;exact bD ay
 .rw[da (by omega)] at az;exact bD az
 .rw[da (by omega)] at aA;exact bD aA
 .rw[da (by omega)] at aB;exact bD aB
 .rw[da (by omega)] at aC;exact bD aC
 .rw[da (by omega)] at aD;exact bD aD
 .rw[da (by omega)] at ab;exact bD ab
 .rw[da (by omega)] at ad;exact bD ad
 .rw[da (by omega)] at ae;exact bD ae
 .rw[da (by omega)] at af;exact bD af
 .rw[da (by omega)] at ag;exact bD ag
 .rw[da (by omega)] at ah;exact bD ah
 .rw[da (by omega)] at ai;exact bD ai
 .rw[da (by omega)] at aj;exact bD aj
 .rw[da (by omega)] at ak;exact bD ak
 .rw[da (by omega)] at am;exact bD am
 .rw[da (by omega)] at ap;exact bD ap
 .rw[da (by omega)] at ar;exact bD ar
 .rw[da (by omega)] at au;exact bD au
 .rw[da (by omega)] at av;exact bD av
 .rw[da (by omega)] at aw;exact bD aw
section
variable {H:Type} {enc:TypeId×V->H} {w:U} {base:Nat} {spare:Nat->Bool} {held:Bool}
theorem Mb:kX enc w base spare held 43 3:=wq underlying43 3 (by kernel_rfl) λa hi=>by
 have:a=0\/a=1\/a=2:=by omega
 obtain rfl|rfl|rfl:=this
 .exact⟨0,_,2,rfl,by decide,by decide,sO⟩
 .exact⟨0,_,2,rfl,by decide,by decide,sO⟩
 .exact⟨1,_,1,rfl,by decide,by decide,jX⟩
theorem zp:h.cellsOf 45=25:=by kernel_rfl
theorem Mc{fuel:Nat}{x:DataW H×List MemPlace}(c:DataW.trod enc h w base spare held fuel 45 B=E x):B.length=25/\∀a,a<23->∀i,B[a]? =E i->wo i:=by
 have d:=λ(a:Nat) (hi:a<23)=>show ∃(j:Nat) (b:Field) (e:Nat),(#[⟨ "Kind",3,0,false, "", "",0⟩,⟨ "A",3,1,false, "", "",8⟩,⟨ "B",3,2,false, "", "",16⟩,⟨ "C",3,3,false, "", "",24⟩,⟨ "Do",41,4,false, "", "",32⟩,⟨ "From",43,20,false, "", "",160⟩,⟨ "Keep",25,23,false, "", "",184⟩,⟨ "Spoil",5,24,false, "", "",208⟩]:Array Field)[j]? =E b/\b.offset<=a/\a<b.offset+e/\kX enc w base spare held b.type e from by
  by_cases c:a<4
  .have:a=0\/a=1\/a=2\/a=3:=by omega
   obtain rfl|rfl|rfl|rfl:=this
   .exact⟨0,_,1,rfl,by decide,by decide,jX⟩
   .exact⟨1,_,1,rfl,by decide,by decide,jX⟩
   .exact⟨2,_,1,rfl,by decide,by decide,jX⟩
   .exact⟨3,_,1,rfl,by decide,by decide,jX⟩
  .by_cases k:a<20
   .exact⟨4,_,16,rfl,(by show 4<=a;omega),(by show a<4+16;omega),KY⟩
   .exact⟨5,_,3,rfl,(by show 20<=a;omega),(by show a<20+3;omega),Mb⟩
 refine⟨?_,λa hi=>(zg underlying45 c a (d a hi)).2⟩;have:=(zg underlying45 c 0 (d 0 (by omega))).1;rw[zp] at this;exact this
theorem Md{fuel:Nat}{x:DataW H×List MemPlace}(r:DataW.trod enc h w base spare held fuel 45 B=E x):(∀b,B[23]? =E b->b.oneCell'=true)/\∀b,B[24]? =E b->b.oneCell'=true:=by
 obtain⟨e,n,_,_,z,s,k⟩:=zh underlying45 r;have A:e.length=8:=s;have c:=k 6 _ rfl;have d:=k 7 _ rfl;rw[du (by omega)] at c d;have o:h.cellsOf 25=1:=by kernel_rfl
 have p:h.cellsOf 5=1:=by kernel_rfl
 constructor
 .intro b a;have hd:((B.drop 23).take 1)=[b]:=by
   have i:23<B.length:=(List.getElem?_eq_some_iff.1 a).1;rw[zq i];rw[du i] at a;simp[bD a]
  have c:DataW.trod enc h w base spare held n 25 ((B.drop 23).take (h.cellsOf 25))=E (e[6]):=c;rw[o,hd] at c;obtain⟨a,_⟩|⟨v,G,y,elems,rest,M,_,a,_⟩:=Me Tryz.underlying25 c
  .simp[Value.cells] at a;rw[a];rfl
  .simp[Value.cells] at a;rw[a];rfl
 .intro b a;have hd:((B.drop 24).take 1)=[b]:=by
   have j:24<B.length:=(List.getElem?_eq_some_iff.1 a).1;rw[zq j];rw[du j] at a;simp[bD a]
  have d:DataW.trod enc h w base spare held n 5 ((B.drop 24).take (h.cellsOf 5))=E (e[7]):=d;rw[p,hd] at d;obtain⟨I,l,_,_⟩:=CS underlying5 d;simp at l;rw[l];rfl
end
section
variable {H:Type} {enc:TypeId×V->H} {w:U} {spare:Nat->Bool} {held:Bool}
theorem Df{x:V}(e:i.cells.toList=[x])(d:∃a c b,i=C a c b):i=x:=by
 obtain⟨a,c,b,rfl⟩:=d;simpa [Value.cells] using e
end
end Go.Proofs.YthhibagcpjeihaaGreat
