import Derived.Test.YthhibagcpjeihaaGreatMCellsToEnc
import Derived.Test.YthhibagcpjeihaaGreatMChangeToPass2
import Derived.Test.YthhibagcpjeihaaGreatMWd
import Derived.Test.YthhibagcpjeihaaGreatMLook1ToSwap2
import Derived.Handy
import Derived.Deep.RegionLawGrows
import Derived.Test.YthhibagcpjeihaaGreatMWr1ToRd3
import Derived.Test.YthhibagcpjeihaaGreatMBaseToPut2
open Go.Proofs.Tryz
open Go.Value renaming int->y,pointer->b,bool->W,agg->l,tuple->h
open Go.IntKind renaming i64->K
open Option renaming none->F,some->E
open Go renaming World->U,Value->V
open Go.Proofs.Tryz renaming prog->T
open Go.Ending renaming returned->g
open Go.Obj renaming cells->v
open List renaming length_append->aJ,append_assoc->bI,append_nil->dR,length_singleton->oa
open Go.World renaming size_alloc->bj
open Go.Act renaming eval->Z,put->aP
open Go.Instr renaming typeAssert->cU,index->gz,lookup->iO
open Nat renaming le_trans->bF
open Go.Region renaming wanted->gM
open Int renaming mul_nonneg->iK
open Go.Oper renaming wp->eT
namespace Go.Proofs.YthhibagcpjeihaaGreat
open Go.RowKit
open M
set_option linter.unusedVariables false
set_option linter.unusedSimpArgs false
set_option maxRecDepth 100000
set_option maxHeartbeats 2000000
def nY(a c d:Int):Bool:=(a==0&&c==0)&&d==0
theorem rS(f:Nat) (cs:Array V) (j:TypeId) (a c C:Int) (e:U) (d:X e f cs j) (i:cs[1]? =E (y K C)) (r:1<=a/\a<=1000) (hc:1<=c/\c<=1000) (p:1<=C/\C<=1000):Calls T 130 #[b (E ⟨f,0,F⟩),l #[y K a,y K c]] e λm w'=>m=g (y K ((a - 1)* C+c - 1))/\G No e w':=by
 have k:=d.cell 1;rw[i] at k;have q:=d.lt;have n:0<=(a - 1)* C:=iK (by omega) (by omega);have o:(a - 1)* C<=1000* 1000:=Int.mul_le_mul (by omega) (by omega) (by omega) (by omega);have s:K.wrap (a - 1)=a - 1:=aB _ (by omega) (by omega);have t:K.wrap ((a - 1)* C)=(a - 1)* C:=aB _ (by omega) (by omega);have w3:K.wrap ((a - 1)* C+c)=(a - 1)* C+c:=aB _ (by omega) (by omega)
 have u:K.wrap ((a - 1)* C+c - 1)=(a - 1)* C+c - 1:=aB _ (by omega) (by omega);clear d i n o;go_enter func130,ntmps130;go_wp2;go_quiet (fail);go_wp2;go_ret;exact⟨rfl,((G.refl _ _).alloc _).drewN _⟩
theorem Eu:(T.info? 63).map (·.size)=E 6:=by kernel_rfl
theorem Ev(I O:Nat) (cs:Array V) (d c st f e j:Int) (a:U) (u:X a I cs 164) (M:cs[7]? =E (.map (E O))) (w:∀t,G No a t->(iO 162 (.map (E O)) (l #[y K d,y K c]) false).run T t=.ok (l #[y K st,y K f,y K e,y K j]) t):Calls T 115 #[b (E ⟨I,0,F⟩),l #[y K d,y K c]] a λab w'=>ab=g (l #[y K d,y K c,y K st,y K f,y K e,y K j])/\G No a w':=by
 have p:G No a ((a.alloc (v #[y K d,y K c] 36)).alloc (v #[y K 0,y K 0,y K 0,y K 0,y K 0,y K 0] 63)):=((G.refl _ a).alloc _).alloc _;have J:=(p.has u (λx=>x)).cell 7;rw[M] at J;have ae:=(p.has u (λx=>x)).lt;have af:=λH=>w ((((a.alloc (v #[y K d,y K c] 36)).alloc (v #[y K 0,y K 0,y K 0,y K 0,y K 0,y K 0] 63))).alloc H).drew (p.alloc H).drew
 have N:=w (((a.alloc (v #[y K d,y K c] 36)).alloc (v #[y K 0,y K 0,y K 0,y K 0,y K 0,y K 0] 63))).drew p.drew;have A:=i ((X.new a #[y K d,y K c] 36).alloc (v #[y K 0,y K 0,y K 0,y K 0,y K 0,y K 0] 63));have Y:=((X.new a #[y K d,y K c] 36).alloc (v #[y K 0,y K 0,y K 0,y K 0,y K 0,y K 0] 63)).cell;have ag:=((X.new a #[y K d,y K c] 36).alloc (v #[y K 0,y K 0,y K 0,y K 0,y K 0,y K 0] 63)).lt
 have n:=X.new (a.alloc (v #[y K d,y K c] 36)) #[y K 0,y K 0,y K 0,y K 0,y K 0,y K 0] 63;rw[bj] at n;have aa:=n.cell;have ad:=n.frozen;have ah:=n.lt;have D:=i p;have B:=i n;clear u M w p n;go_enter func115,ntmps115;go_wp2;generalize ((a.alloc (v #[y K d,y K c] 36)).alloc (v #[y K 0,y K 0,y K 0,y K 0,y K 0,y K 0] 63))=q at *;go_region;have z:=((k A).alloc (v #[y K st,y K f,y K e,y K j] 199)).drew
 have r:=((k B).alloc (v #[y K st,y K f,y K e,y K j] 199)).drew;have s:=(X.new q #[y K st,y K f,y K e,y K j] 199).drew;have Q:=i ((k D).alloc (v #[y K st,y K f,y K e,y K j] 199)).drew;clear af N Y ag aa ad ah J ae D A B;have ak:a.heap.size+1≠q.heap.size:=by have:=r.ne s (by decide);exact this
 generalize (q.alloc (v #[y K st,y K f,y K e,y K j] 199)).drew=ai at *;generalize q.heap.size=ap at *;have aj:=z.cell;have ao:=s.cell;have S:=i r;clear z s r
 go_wp2_with (first|(refine tV rfl 63 _ _ rfl (a.heap.size+1) #[y K d,y K c,y K st,y K f,y K e,y K j] rfl rfl #[y K 0,y K 0,y K 0,y K 0,y K 0,y K 0] 63 (k S) rfl Eu (by simp[Value.oneCell']) ?_;intro m L P;have R:=i ((k Q).trans' P (λam hi hl=>by omega));have o:=L.cell;have N:=L.lt;clear P));have d0:m.cell? ⟨a.heap.size+1,0,F⟩=E (y K d):=o 0;have d1:m.cell? ⟨a.heap.size+1,1,F⟩=E (y K c):=o 1
 have d2:m.cell? ⟨a.heap.size+1,2,F⟩=E (y K st):=o 2;have d3:m.cell? ⟨a.heap.size+1,3,F⟩=E (y K f):=o 3;have d4:m.cell? ⟨a.heap.size+1,4,F⟩=E (y K e):=o 4;have d5:m.cell? ⟨a.heap.size+1,5,F⟩=E (y K j):=o 5;refine bodyPost_ret (by simp[results,results115,go_sem,d0,d1,d2,d3,d4,d5];try rfl) rfl ?_;exact⟨rfl,k R⟩
theorem eZ{e:Program} {ops:Array Oper} {c:Oper} {a:Act} {m:U} {f:Act->U->Prop} {o:Exit->Act->U->Prop} {n:Prop} (r:c.guard=F) (d:FuncId) (args:Array Operand) (x:Array TypeId) (s:c.op=Op.call { callee:=Callee.value (Operand.func d),args:=args,argTypes:=x }) (vs:Array V) (u:args.map a.eval=vs) (q:∀i,(callFunc d vs).run e i=.ok (.enter d vs) i) (k:V) (R:U->Prop) (hc:Calls e d vs m λj w'=>j=g k/\R w')
  (p:∀w',R w'->f (a.put c.dst k) w'):if gM c (yielded ops a.tmps)=true then eT e c a m f o else n:=by
 have w:gM c (yielded ops a.tmps)=true:=by simp[gM,r]
 rw[if_pos w];unfold eT execOp;simp[go_sem,s,u];rw[q];simp[go_sem];refine hc.mono ?_;rintro j w' ⟨rfl,t⟩;exact p _ t
def bY(p:O) (c a d:Int):Int×Int:=
 if c=0/\a=0/\d=0 then(0,0) else if d≠p.ep then(0,13) else if p.has c a=false then(0,5) else((p.idx c a:Int)+1,0)
theorem Ew{m:U} {q Q ab:Nat} {p:O} {M:List B} {es:List t} (s:bo m q p M Q es ab) (A:L p M) (a c e:Int) (w:a≠0):Calls T 114 #[b (E ⟨q,0,F⟩),l #[y K a,y K c,y K e]] m λad w'=>ad=g (h #[y K (bY p a c e).1,y K (bY p a c e).2])/\G No m w':=by
 have D:G No m (m.alloc (v #[y K a,y K c,y K e] 43)):=(G.refl _ m).alloc _;have r:=i D;have aa:=(D.has s.has (λj=>j)).cell 24;rw[show(dO p (.map (E Q)) M)[24]? =E (y K p.ep) from rfl] at aa;have ao:=(D.has s.has (λj=>j)).lt
 have x:=i λd (u:G No m d)=>(show Calls T 99 #[b (E ⟨q,0,F⟩),l #[y K a,y K c]] d λe w'=>e=g (W (p.has a c))/\G No d w' from oY q a c p.rows p.w _ d (u.has s.has (λj=>j)) rfl rfl);have P:=A.bounds;simp only at P
 have H:=i λd (u:G No m d) (f:p.has a c=true)=>(show Calls T 130 #[b (E ⟨q,0,F⟩),l #[y K a,y K c]] d λe w'=>e=g (y K (p.idx a c:Int))/\G No d w' from by
  simp only[O.has,decide_eq_true_eq] at f
  have:=rS q _ _ a c p.w d (u.has s.has (λj=>j)) rfl (by omega) (by omega) (by omega)
  have hi:(a - 1)* p.w+c - 1=(p.idx a c:Int):=by
   unfold O.idx
   have au:0<=(a - 1)* p.w:=iK (by omega) (by omega)
   omega
  rw[hi] at this
  exact this)
 have N:=i (X.new m #[y K a,y K c,y K e] 43)
 have I:=i λ(f:p.has a c=true)=>(show K.wrap ((p.idx a c:Int)+1)=(p.idx a c:Int)+1 from by
  have:=aM.wf.gV A f
  have hl:=aM.wf.gU A
  simp only at this hl
  exact aB _ (by omega) (by omega))
 clear s A P D;unfold bY;rw[if_neg (by rintro⟨af,ag,ah⟩;first|exact w af|exact w ag|exact w ah)];have ap:(a==0)=false:=by simpa using w
 clear w;by_cases n:e=p.ep
 case neg=>
  rw[if_pos n];have ai:(e !=p.ep)=true:=by simpa using n
  clear n;go_enter func114,ntmps114;go_wp2;go_quiet (fail);go_wp2;go_ret2;exact⟨rfl,(k r).drewN _⟩
 rw[if_neg (by simpa using n)];have ai:(e !=p.ep)=false:=by simpa using n
 by_cases f:p.has a c=true
 case neg=>
  have J:p.has a c=false:=by simpa using f
  rw[if_pos J];rw[J] at x;clear n f J I H;go_enter func114,ntmps114;go_wp2;go_quiet (fail);go_wp2_with fail;refine((k x) _ ((k r).drewN _)).mono ?_;rintro ae aj ⟨rfl,o⟩;have z:=i (((k r).drewN _).trans o);clear o;go_wp2;go_ret2;exact⟨rfl,k z⟩
 rw[if_neg (by simp[f])];have aq:=(k I) f;have S:=i λd (u:G No m d)=>(k H) d u f;rw[f] at x;clear n f I H;go_enter func114,ntmps114;go_wp2;go_quiet (fail);go_wp2_with fail;refine((k x) _ ((k r).drewN _)).mono ?_;rintro ae aj ⟨rfl,o⟩;have ak:=(o.has ((k N).drewN _) (λj=>j)).cell;have ar:=(o.has ((k N).drewN _) (λj=>j)).lt;have z:=i (((k r).drewN _).trans o);clear o;go_wp2_with fail
 refine((k S) _ (k z)).mono ?_;rintro am av ⟨rfl,R⟩;have Y:=i ((k z).trans R);clear R;go_wp2;go_ret2;exact⟨rfl,k Y⟩
theorem Ex{j:U} {o P aa:Nat} {p:O} {J:List B} {es:List t} (r:bo j o p J P es aa) (z:L p J) (a d:Int) (u:a≠0):Calls T 114 #[b (E ⟨o,0,F⟩),l #[y K 0,y K a,y K d]] j λab w'=>ab=g (h #[y K (bY p 0 a d).1,y K (bY p 0 a d).2])/\G No j w':=by
 have A:G No j (j.alloc (v #[y K 0,y K a,y K d] 43)):=(G.refl _ j).alloc _;have q:=i A;have Y:=(A.has r.has (λf=>f)).cell 24;rw[show(dO p (.map (E P)) J)[24]? =E (y K p.ep) from rfl] at Y;have am:=(A.has r.has (λf=>f)).lt;have w:=i λc (s:G No j c)=>(show Calls T 99 #[b (E ⟨o,0,F⟩),l #[y K 0,y K a]] c λd w'=>d=g (W (p.has 0 a))/\G No c w' from oY o 0 a p.rows p.w _ c (s.has r.has (λf=>f)) rfl rfl)
 have N:=z.bounds;simp only at N
 have D:=i λc (s:G No j c) (e:p.has 0 a=true)=>(show Calls T 130 #[b (E ⟨o,0,F⟩),l #[y K 0,y K a]] c λd w'=>d=g (y K (p.idx 0 a:Int))/\G No c w' from by
  simp only[O.has,decide_eq_true_eq] at e
  have:=rS o _ _ 0 a p.w c (s.has r.has (λf=>f)) rfl (by omega) (by omega) (by omega)
  have hi:(0 - 1)* p.w+a - 1=(p.idx 0 a:Int):=by
   unfold O.idx
   have ar:0<=(0 - 1)* p.w:=iK (by omega) (by omega)
   omega
  rw[hi] at this
  exact this)
 have M:=i (X.new j #[y K 0,y K a,y K d] 43)
 have H:=i λ(e:p.has 0 a=true)=>(show K.wrap ((p.idx 0 a:Int)+1)=(p.idx 0 a:Int)+1 from by
  have:=aM.wf.gV z e
  have hl:=aM.wf.gU z
  simp only at this hl
  exact aB _ (by omega) (by omega))
 clear r z N A;unfold bY;rw[if_neg (by rintro⟨ae,af,ag⟩;first|exact u ae|exact u af|exact u ag)];have ao:(a==0)=false:=by simpa using u
 clear u;by_cases m:d=p.ep
 case neg=>
  rw[if_pos m];have ah:(d !=p.ep)=true:=by simpa using m
  clear m;go_enter func114,ntmps114;go_wp2;go_quiet (fail);go_wp2;go_ret2;exact⟨rfl,(k q).drewN _⟩
 rw[if_neg (by simpa using m)];have ah:(d !=p.ep)=false:=by simpa using m
 by_cases e:p.has 0 a=true
 case neg=>
  have I:p.has 0 a=false:=by simpa using e
  rw[if_pos I];rw[I] at w;clear m e I H D;go_enter func114,ntmps114;go_wp2;go_quiet (fail);go_wp2_with fail;refine((k w) _ ((k q).drewN _)).mono ?_;rintro ad ai ⟨rfl,n⟩;have x:=i (((k q).drewN _).trans n);clear n;go_wp2;go_ret2;exact⟨rfl,k x⟩
 rw[if_neg (by simp[e])];have ap:=(k H) e;have R:=i λc (s:G No j c)=>(k D) c s e;rw[e] at w;clear m e H D;go_enter func114,ntmps114;go_wp2;go_quiet (fail);go_wp2_with fail;refine((k w) _ ((k q).drewN _)).mono ?_;rintro ad ai ⟨rfl,n⟩;have aj:=(n.has ((k M).drewN _) (λf=>f)).cell;have aq:=(n.has ((k M).drewN _) (λf=>f)).lt;have x:=i (((k q).drewN _).trans n);clear n;go_wp2_with fail
 refine((k R) _ (k x)).mono ?_;rintro ak au ⟨rfl,Q⟩;have S:=i ((k x).trans Q);clear Q;go_wp2;go_ret2;exact⟨rfl,k S⟩
theorem Ey{f:U} {n N Y:Nat} {p:O} {I:List B} {es:List t} (q:bo f n p I N es Y) (x:L p I) (a:Int) (s:a≠0):Calls T 114 #[b (E ⟨n,0,F⟩),l #[y K 0,y K 0,y K a]] f λaa w'=>aa=g (h #[y K (bY p 0 0 a).1,y K (bY p 0 0 a).2])/\G No f w':=by
 have z:G No f (f.alloc (v #[y K 0,y K 0,y K a] 43)):=(G.refl _ f).alloc _;have o:=i z;have S:=(z.has q.has (λe=>e)).cell 24;rw[show(dO p (.map (E N)) I)[24]? =E (y K p.ep) from rfl] at S;have ak:=(z.has q.has (λe=>e)).lt;have u:=i λc (r:G No f c)=>(show Calls T 99 #[b (E ⟨n,0,F⟩),l #[y K 0,y K 0]] c λa w'=>a=g (W (p.has 0 0))/\G No c w' from oY n 0 0 p.rows p.w _ c (r.has q.has (λe=>e)) rfl rfl)
 have M:=x.bounds;simp only at M
 have A:=i λc (r:G No f c) (d:p.has 0 0=true)=>(show Calls T 130 #[b (E ⟨n,0,F⟩),l #[y K 0,y K 0]] c λa w'=>a=g (y K (p.idx 0 0:Int))/\G No c w' from by
  simp only[O.has,decide_eq_true_eq] at d
  have:=rS n _ _ 0 0 p.w c (r.has q.has (λe=>e)) rfl (by omega) (by omega) (by omega)
  have hi:(0 - 1)* p.w+0 - 1=(p.idx 0 0:Int):=by
   unfold O.idx
   have aq:0<=(0 - 1)* p.w:=iK (by omega) (by omega)
   omega
  rw[hi] at this
  exact this)
 have J:=i (X.new f #[y K 0,y K 0,y K a] 43)
 have D:=i λ(d:p.has 0 0=true)=>(show K.wrap ((p.idx 0 0:Int)+1)=(p.idx 0 0:Int)+1 from by
  have:=aM.wf.gV x d
  have hl:=aM.wf.gU x
  simp only at this hl
  exact aB _ (by omega) (by omega))
 clear q x M z;unfold bY;rw[if_neg (by rintro⟨ad,ae,af⟩;first|exact s ad|exact s ae|exact s af)];have am:(a==0)=false:=by simpa using s
 clear s;by_cases j:a=p.ep
 case neg=>
  rw[if_pos j];have ag:(a !=p.ep)=true:=by simpa using j
  clear j;go_enter func114,ntmps114;go_wp2;go_quiet (fail);go_wp2;go_ret2;exact⟨rfl,(k o).drewN _⟩
 rw[if_neg (by simpa using j)];have ag:(a !=p.ep)=false:=by simpa using j
 by_cases d:p.has 0 0=true
 case neg=>
  have H:p.has 0 0=false:=by simpa using d
  rw[if_pos H];rw[H] at u;clear j d H D A;go_enter func114,ntmps114;go_wp2;go_quiet (fail);go_wp2_with fail;refine((k u) _ ((k o).drewN _)).mono ?_;rintro ab ah ⟨rfl,m⟩;have w:=i (((k o).drewN _).trans m);clear m;go_wp2;go_ret2;exact⟨rfl,k w⟩
 rw[if_neg (by simp[d])];have ao:=(k D) d;have Q:=i λc (r:G No f c)=>(k A) c r d;rw[d] at u;clear j d D A;go_enter func114,ntmps114;go_wp2;go_quiet (fail);go_wp2_with fail;refine((k u) _ ((k o).drewN _)).mono ?_;rintro ab ah ⟨rfl,m⟩;have ai:=(m.has ((k J).drewN _) (λe=>e)).cell;have ap:=(m.has ((k J).drewN _) (λe=>e)).lt;have w:=i (((k o).drewN _).trans m);clear m;go_wp2_with fail
 refine((k Q) _ (k w)).mono ?_;rintro aj ar ⟨rfl,P⟩;have R:=i ((k w).trans P);clear P;go_wp2;go_ret2;exact⟨rfl,k R⟩
theorem Ez{f:U} {m N Y:Nat} {p:O} {H:List B} {es:List t} (n:bo f m p H N es Y) (o:L p H) (c a d:Int):Calls T 114 #[b (E ⟨m,0,F⟩),l #[y K c,y K a,y K d]] f λaa w'=>aa=g (h #[y K (bY p c a d).1,y K (bY p c a d).2])/\G No f w':=by
 have r:G No f (f.alloc (v #[y K c,y K a,y K d] 43)):=(G.refl _ f).alloc _;have I:=i r;have J:=(r.has n.has (λj=>j)).cell 24;rw[show(dO p (.map (E N)) H)[24]? =E (y K p.ep) from rfl] at J;have ab:=(r.has n.has (λj=>j)).lt;have R:=i λe (z:G No f e)=>(show Calls T 99 #[b (E ⟨m,0,F⟩),l #[y K c,y K a]] e λd w'=>d=g (W (p.has c a))/\G No e w' from oY m c a p.rows p.w _ e (z.has n.has (λj=>j)) rfl rfl)
 have M:=o.bounds;simp only at M
 have Q:=i λe (z:G No f e) (A:p.has c a=true)=>(show Calls T 130 #[b (E ⟨m,0,F⟩),l #[y K c,y K a]] e λd w'=>d=g (y K (p.idx c a:Int))/\G No e w' from by
  simp only[O.has,decide_eq_true_eq] at A
  have:=rS m _ _ c a p.w e (z.has n.has (λj=>j)) rfl (by omega) (by omega) (by omega)
  have hi:(c - 1)* p.w+a - 1=(p.idx c a:Int):=by
   unfold O.idx
   have ad:0<=(c - 1)* p.w:=iK (by omega) (by omega)
   omega
  rw[hi] at this
  exact this)
 have P:=i (X.new f #[y K c,y K a,y K d] 43)
 have S:=i λ(A:p.has c a=true)=>(show K.wrap ((p.idx c a:Int)+1)=(p.idx c a:Int)+1 from by
  have:=aM.wf.gV o A
  have hl:=aM.wf.gU o
  simp only at this hl
  exact aB _ (by omega) (by omega))
 have s:=n;have u:=o;clear n o M r;unfold bY;by_cases D:c=0/\a=0/\d=0
 ·rw[if_pos D];obtain⟨rfl,rfl,rfl⟩:=D;go_enter func114,ntmps114;go_wp2;go_ret2;exact⟨rfl,k I⟩
 clear R Q P S J ab I;by_cases q:c=0
 ·by_cases w:a=0
  ·have x:d≠0:=λx=>D ⟨q,w,x⟩;subst q;subst w;have:=Ey s u d x;unfold bY at this;exact this
  ·subst q;have:=Ex s u a d w;unfold bY at this;exact this
 ·have:=Ew s u c a d q;unfold bY at this;exact this
set_option maxHeartbeats 4000000
structure dp (O:Nat->Prop) (w w':U) (wb:Nat) (xs:List Int) (now:Int):Prop where
 ex:∃v',bM O w' wb v' xs now
 mod:G O w w'
theorem dp.after{a S:Nat->Prop} {d f w2:U} {i:Nat} {xs:List Int} {now:Int} (e:dp a f w2 i xs now) (j:G S d f) (hs:∀c,c<d.heap.size->S c->a c):dp a d w2 i xs now:=
 ⟨e.ex,(j.mono hs).trans e.mod⟩
theorem dp.unbox{d:Nat->Prop} {a w2:U} {i:Nat} {xs:List Int} {now:Int} {f:Obj} (j:dp (λe=>d e/\e≠a.heap.size) (a.alloc f) w2 i xs now):dp d a w2 i xs now:=by
 obtain⟨⟨n,m⟩,k⟩:=j;exact⟨⟨n,m.wide (λ_ c=>c.1)⟩,(((G.refl No a).alloc f).mono (λ_ _ o=>o.elim)).trans (k.mono (λ_ _ c=>c.1))⟩
def eB(c:Nat->Prop) (d:U):Prop:=∀a,d.heap.size<=a->c a
theorem eB.box{d:Nat->Prop} {c:U} (e:eB d c) (i:Obj):eB (λa=>d a/\a≠c.heap.size) (c.alloc i):=λa f=>by
 rw[bj] at f;exact⟨e a (by omega),by omega⟩
theorem eB.mod{a S:Nat->Prop} {w w':U} (c:eB a w) (e:G S w w'):eB a w':=λf d=>c f (bF e.size d)
theorem jI{O:Nat->Prop} {c:U} {e:Nat} {xs:List Int} {now:Int} (d:∃i,bM O c e i xs now) (j:eB O c) (hl:xs.length<1099511627766) (a:Int) (k:0<=a/\a<9223372036854775808):Calls T 109 #[b (E ⟨e,0,F⟩),y K a] c λf w'=>f=g (h #[])/\dp O c w' e (xs++aN a) now:=by
 obtain⟨i,d⟩:=d;exact(Dx d j hl a k).mono λf w' ⟨m,n,o⟩=>⟨m,n,o⟩
theorem nZ{e:Nat->Prop} {d:U} {i:Nat} {xs:List Int} {now:Int} (f:∃k,bM e d i k xs now) (m:eB e d) (hl:xs.length<1099511627776) (c a:Int) (n:1<=c/\c<=7) (hf:0<=a/\a<32):Calls T 124 #[b (E ⟨i,0,F⟩),y K c,y K a] d λj w'=>j=g (h #[])/\dp e d w' i (xs++[32* c+a]) now:=by
 obtain⟨k,f⟩:=f;exact(Du f m hl c a n hf).mono λj w' ⟨o,p,q⟩=>⟨o,p,q⟩
theorem rT{f:Nat->Prop} {e:U} {m:Nat} {xs:List Int} {now:Int} (d:∃j,bM f e m j xs now) (q:eB f e) (hl:xs.length<1099511627766) (c a:Int) (s:1<=c/\c<=20) (hc:1<=a/\a<=6):Calls T 127 #[b (E ⟨m,0,F⟩),l #[y K c,y K a]] e λo w'=>o=g (h #[])/\dp f e w' m (xs++eV c a) now:=by
 obtain⟨j,d⟩:=d;have n:=i (jI ⟨j,d.box (v #[y K c,y K a] 36)⟩ (q.box _) hl ((c - 1)* 6+a - 1) (by omega));clear d q;unfold eV;go_enter func127,ntmps127;go_wp2_with fail;refine(k n).mono ?_;rintro o t ⟨rfl,p⟩;have r:=i p.unbox;clear p n;go_wp2;go_end0;exact⟨rfl,k r⟩
theorem xO{m:Nat->Prop} {j:U} {p:Nat} {xs:List Int} {now:Int} (w:∃D,bM m j p D xs now) (o:eB m j) (hl:xs.length<1099511627740) (a c d:Int) (B:0<=a/\a<9223372036854775808) (hb:0<=c/\c<9223372036854775808) (hc:0<=d/\d<9223372036854775808):Calls T 128 #[b (E ⟨p,0,F⟩),y K a,y K c,y K d] j λe w'=>e=g (h #[])/\dp m j w' p (xs++(aN a++aN c++aN d)) now:=by
 have H:=(dk a).2;have I:=(dk c).2;have q:=i (jI w o (by omega) a B);have t:=i o;clear w o;go_enter func128,ntmps128;go_wp2_with fail;refine(k q).mono ?_;rintro e J ⟨rfl,f⟩;have r:=i (jI f.ex ((k t).mod f.mod) (by simp;omega) c hb);have A:=i f.mod;clear f q;go_wp2_with fail;refine(k r).mono ?_;rintro e L ⟨rfl,n⟩;have u:=i ((k A).trans n.mod)
 have s:=i (jI n.ex ((k t).mod (k u)) (by simp;omega) d hc);clear n r;go_wp2_with fail;refine(k s).mono ?_;rintro e w3 ⟨rfl,x⟩;have z:=i x;clear x s;go_wp2;go_end0;refine⟨rfl,?_⟩;rw[<-bI,<-bI];exact(k z).after (k u) (λ_ _ G=>G)
theorem EA(c d e f:Int) (p:O) (j:p.I=c/\p.R=d/\p.n=e/\p.f=f) (a:Nat) (k:a<4) (i:U):(gz 37 (l #[y K c,y K d,y K e,y K f]) (y K (a:Int))).run T i=.ok (y K (p.aZ a)) i:=by
 obtain⟨rfl,rfl,rfl,rfl⟩:=j;have:a=0\/a=1\/a=2\/a=3:=by omega
 obtain rfl|rfl|rfl|rfl:=this
 ·exact pR _ _ _ _ _
 ·exact pS _ _ _ _ _
 ·exact pT _ _ _ _ _
 ·exact pU _ _ _ _ _
def lK(p:O):Nat->List Int
 |0=>[]
 |a+1=>lK p a++aN (p.aZ a)
theorem EB(p:O) (a:Nat):(lK p a).length<=9* a:=by
 induction a with
 |zero=>simp[lK]
 |succ a c=>
  have:=(dk (p.aZ a)).2;simp only[lK,aJ];omega
theorem ED(p:O):gA p=jC p++lK p 4:=by
 simp[gA,lK,O.aZ]
def O.fit(p:O):Prop:=(0<=p.rows/\p.rows<9223372036854775808)/\(0<=p.w/\p.w<9223372036854775808)/\(0<=p.front/\p.front<9223372036854775808)/\∀a,0<=p.aZ a/\p.aZ a<9223372036854775808
theorem rU(p:O):(jC p).length<=27:=by
 have a:=(dk p.rows).2;have c:=(dk p.w).2;have d:=(dk p.front).2;simp only[jC,aJ];omega
theorem xP{m:Nat->Prop} {c:U} {q:Nat} {xs:List Int} {now:Int} (n:∃u,bM m c q u xs now) (B:eB m c) (hl:xs.length<1099511627700) (p:O) (j:O.fit p):Calls T 125 #[b (E ⟨q,0,F⟩),l #[y K p.rows,y K p.w,y K p.front,y K p.I,y K p.R,y K p.n,y K p.f]] c λr w'=>r=g (h #[])/\dp m c w' q (xs++gA p) now:=by
 obtain⟨u,n⟩:=n;have w:=i (X.new c #[y K p.rows,y K p.w,y K p.front,y K p.I,y K p.R,y K p.n,y K p.f] 39);have ai:=rU p;have z:=i (B.box (v #[y K p.rows,y K p.w,y K p.front,y K p.I,y K p.R,y K p.n,y K p.f] 39));have f:=i (xO ⟨u,n.box (v #[y K p.rows,y K p.w,y K p.front,y K p.I,y K p.R,y K p.n,y K p.f] 39)⟩ (k z) (by omega) p.rows p.w p.front j.1 j.2.1 j.2.2.1);rw[ED]
 have I:=i λa D L=>EA p.I p.R p.n p.f p ⟨rfl,rfl,rfl,rfl⟩ a D L;have H:=i j.2.2.2;clear n j B;unfold jC at *;generalize Y:aN p.rows++aN p.w++aN p.front=J at *;clear Y;go_enter func125,ntmps125;go_wp2_with fail;refine(k f).mono ?_;rintro r o ⟨rfl,s⟩;have d:=s.mod.has (k w) (λae=>ae.2 rfl);have M:o.cell? ⟨c.heap.size,3,F⟩=E (y K p.I):=d.cell 3;have N:o.cell? ⟨c.heap.size,4,F⟩=E (y K p.R):=d.cell 4
 have P:o.cell? ⟨c.heap.size,5,F⟩=E (y K p.n):=d.cell 5;have Q:o.cell? ⟨c.heap.size,6,F⟩=E (y K p.f):=d.cell 6;have ad:=d.lt;have x:=i s;clear s f w d;go_wp2_with fail;go_loopw [16] (λt wr=>∃a:Nat,t=y K a/\a<=4/\Hid (dp (λa=>m a/\a≠c.heap.size) (c.alloc (v #[y K p.rows,y K p.w,y K p.front,y K p.I,y K p.R,y K p.n,y K p.f] 39)) wr q (xs++J++lK p a) now)) (λt _=>4 - (intOf t).toNat)
 case atStart=>exact⟨0,rfl,by omega,by rw[lK,dR];exact x⟩
 case round=>
  obtain⟨a,rfl,D,e⟩:=hrel;clear x M N P Q ad;by_cases R:a<4
  ·have S:(a:Int)<4:=by omega
   have ag:(0:Int)<=a:=by omega
   have ah:K.wrap ((a:Int)+1)=((a+1:Nat):Int):=by rw[aB _ (by omega) (by omega)];rfl
   have aa:=(k I) a R wr;have ab:=EB p a;have f:=i (jI (k e).ex ((k z).mod (k e).mod) (by simp only[aJ];omega) (p.aZ a) ((k H) a));clear ab;go_wp2_with fail;refine(k f).mono ?_;rintro r aj ⟨rfl,A⟩;have G:=i (A.after (k e).mod (λ_ _ af=>af));clear A f e aa;go_wp2;refine⟨⟨a+1,rfl,by omega,?_⟩,by simp[intOf];omega⟩;rw[lK,<-bI];exact G
  ·have S:¬(a:Int)<4:=by omega
   obtain rfl:a=4:=by omega
   go_wp2;go_end0;refine⟨rfl,?_⟩;rw[<-bI];exact(k e).unbox
structure jJ (now:Int) (s:B):Prop where
 row:1<=s.row/\s.row<=20
 P:1<=s.P/\s.P<=6
 st:0<=s.st/\s.st<=3
 cl:0<=s.cl/\s.cl<=3
 pa:0<=s.pa/\s.pa<=1000
 un:s.st=1->now<=s.un/\s.un - now<=4611686018427387904
 now:0<=now/\now<=4611686018427387904
theorem xQ(now:Int) (a:B):(gi now a).length<=36:=by
 have e:=(dk ((a.row - 1)* 6+a.P - 1)).2;have f:=(dk (a.st* 4+a.cl)).2;have c:=(dk a.pa).2;have d:=(dk (a.un - now)).2;unfold gi eV;simp only[aJ];have i:(if a.st=3 then[] else aN a.pa).length<=9:=by
  split
  ·simp
  ·exact c
 have j:(if a.st=1 then aN (a.un - now) else[]).length<=9:=by
  split
  ·exact d
  ·simp
 omega
theorem xR{O:Nat->Prop} {w:U} {r:Nat} {xs:List Int} {now:Int} (z:∃Y,bM O w r Y xs now) (ah:eB O w) (hl:xs.length<1099511627700) (a:B) (hs:jJ now a):Calls T 126 #[b (E ⟨r,0,F⟩),l #[y K a.row,y K a.P,y K a.st,y K a.pa,y K a.cl,y K a.un]] w λx w'=>x=g (h #[])/\dp O w w' r (xs++gi now a) now:=by
 obtain⟨Y,z⟩:=z;obtain⟨av,aw,aL,aM,aO,A,aQ⟩:=hs;have aA:=(dk ((a.row - 1)* 6+a.P - 1)).2;have aV:=(dk (a.st* 4+a.cl)).2;have aW:=(dk a.pa).2;have aa:=i (X.new w #[y K a.row,y K a.P,y K a.st,y K a.pa,y K a.cl,y K a.un] 202);have N:=i (ah.box (v #[y K a.row,y K a.P,y K a.st,y K a.pa,y K a.cl,y K a.un] 202))
 have d:=i (rT ⟨Y,z.box (v #[y K a.row,y K a.P,y K a.st,y K a.pa,y K a.cl,y K a.un] 202)⟩ (k N) (by omega) a.row a.P av aw);have A:=i A;clear z ah;have aS:(eV a.row a.P).length<=9:=aA;have M:=i (show gi now a=eV a.row a.P++aN (a.st* 4+a.cl)++(if a.st=3 then[] else aN a.pa)++(if a.st=1 then aN (a.un - now) else[]) from rfl);generalize gi now a=aF at *;generalize eV a.row a.P=aI at *
 go_enter func126,ntmps126;go_wp2_with fail;refine(k d).mono ?_;rintro x e ⟨rfl,q⟩;have m:=q.mod.has (k aa) (λp=>p.2 rfl);have ap:e.cell? ⟨w.heap.size,2,F⟩=E (y K a.st):=m.cell 2;have aq:e.cell? ⟨w.heap.size,3,F⟩=E (y K a.pa):=m.cell 3;have ar:e.cell? ⟨w.heap.size,4,F⟩=E (y K a.cl):=m.cell 4;have au:e.cell? ⟨w.heap.size,5,F⟩=E (y K a.un):=m.cell 5;have aR:=m.lt;have aT:=q.mod.size
 have P:=i ((k N).mod q.mod);have t:=i q;have aH:=i (show ¬e.heap.size=w.heap.size by omega);clear q d aa m;go_upto_region 3 with fail;obtain⟨aD,ai⟩:=(k t).ex;have d:=i (jI ⟨aD,ai.box (v #[y K a.st,y K a.pa,y K a.cl,y K a.un] 199)⟩ ((k P).box _) (by simp only[aJ];omega) (a.st* 4+a.cl) (by omega));have ab:=i (X.new e #[y K a.st,y K a.pa,y K a.cl,y K a.un] 199)
 have ae:=i ((k P).box (v #[y K a.st,y K a.pa,y K a.cl,y K a.un] 199));clear ai ap aq ar au;go_wp2_with fail;refine(k d).mono ?_;rintro x ak ⟨rfl,I⟩;have o:=I.mod.has (k ab) (λp=>p.2 rfl);have ag:ak.cell? ⟨e.heap.size,0,F⟩=E (y K a.st):=o.cell 0;have ao:ak.cell? ⟨e.heap.size,1,F⟩=E (y K a.pa):=o.cell 1;have aX:=o.lt;have Q:=i ((k ae).mod I.mod);have R:=i I;have ad:=i o;clear I o d ab
 by_cases j:a.st=3
 ·have ay:(a.st !=3)=false:=by simp[j]
  have aj:(a.st==1)=false:=by simp[j]
  have n:=i (show ¬a.st=1 by omega);have s:=i j;clear j;have L:=i ((k R).unbox);go_wp2;go_end0;refine⟨rfl,?_⟩;rw[k M,if_pos (k s),if_neg (k n),dR,dR,<-bI];exact((k L).after (k t).mod (λ_ _ c=>c)).unbox
 ·have ay:(a.st !=3)=true:=by simp[j]
  have s:=i j;clear j;have d:=i (jI (k R).ex (k Q) (by simp only[aJ];omega) a.pa (by omega));go_wp2_with fail;refine(k d).mono ?_;rintro x w3 ⟨rfl,J⟩;have u:=J.mod.has (k ad) (λp=>p.2 rfl);have d0:w3.cell? ⟨e.heap.size,0,F⟩=E (y K a.st):=u.cell 0;have d3:w3.cell? ⟨e.heap.size,3,F⟩=E (y K a.un):=u.cell 3;have aY:=u.lt;have af:=i ((k Q).mod J.mod);have S:=i (J.after (k R).mod (λ_ _ c=>c))
  clear J u d ag ao ad;by_cases f:a.st=1
  case neg=>
   have aj:(a.st==1)=false:=by simp[f]
   have n:=i f;clear f;have L:=i ((k S).unbox);go_wp2;go_end0;refine⟨rfl,?_⟩;rw[k M,if_neg (k s),if_neg (k n),dR,<-bI,<-bI];exact((k L).after (k t).mod (λ_ _ c=>c)).unbox
  ·have aj:(a.st==1)=true:=by simp[f]
   have A:=(k A) f;have n:=i f;clear f;obtain⟨aE,D⟩:=(k S).ex;have ag:w3.cell? ⟨r,1,F⟩=E (y K now):=D.has.cell 1;have aZ:=D.has.lt;have aU:K.wrap (a.un - now)=a.un - now:=aB _ (by omega) (by omega);have d:=i λH=>jI ⟨aE,D.mod (S:=No) ((G.refl No w3).drewN H) (λ_ _ c=>c)⟩ ((k af).mod ((G.refl No w3).drewN H)) (by simp only[aJ];omega) (a.un - now) (by omega);have am:=i λH=>(G.refl No w3).drewN H
   clear D af Q ae P N;go_wp2_with fail;go_region_law (refine eZ rfl 109 _ _ rfl #[b (E ⟨r,0,F⟩),y K (a.un - now)] (by simp[Z,aP]) (λaK=>by kernel_rfl) (h #[]) _ ((k d) 1) ?_;intro a0 ax)
   all_goals go_wp2
   all_goals go_end0
   all_goals
    refine⟨rfl,?_⟩;rw[k M,if_neg (k s),if_pos (k n),<-bI,<-bI,<-bI];have aC:=(ax.after ((k am) 1) (λ_ _ c=>c.elim)).after (k S).mod (λ_ _ c=>c);exact(aC.unbox.after (k t).mod (λ_ _ c=>c)).unbox
theorem EE(a:V) (c:U):(cU (.iface 189 a) 123 189 true).run T c=.ok (h #[a,W true]) c:=by kernel_rfl
theorem EG(c:V) (a:U):(cU (.iface 202 c) 123 189 true).run T a=.ok (h #[l #[y K 0,y K 0,y K 0,y K 0,y K 0,y K 0,y K 0],W false]) a:=by kernel_rfl
theorem EH(a:V) (c:U):(cU (.iface 202 a) 123 202 true).run T c=.ok (h #[a,W true]) c:=by kernel_rfl
theorem EI(c:V) (a:U):(cU (.iface 214 c) 123 189 true).run T a=.ok (h #[l #[y K 0,y K 0,y K 0,y K 0,y K 0,y K 0,y K 0],W false]) a:=by kernel_rfl
theorem EJ(c:V) (a:U):(cU (.iface 214 c) 123 202 true).run T a=.ok (h #[l #[y K 0,y K 0,y K 0,y K 0,y K 0,y K 0],W false]) a:=by kernel_rfl
theorem EK(a:V) (c:U):(cU (.iface 214 a) 123 214 true).run T c=.ok (h #[a,W true]) c:=by kernel_rfl
theorem EM(c:V) (a:U):(cU (.iface 216 c) 123 189 true).run T a=.ok (h #[l #[y K 0,y K 0,y K 0,y K 0,y K 0,y K 0,y K 0],W false]) a:=by kernel_rfl
theorem EN(c:V) (a:U):(cU (.iface 216 c) 123 202 true).run T a=.ok (h #[l #[y K 0,y K 0,y K 0,y K 0,y K 0,y K 0],W false]) a:=by kernel_rfl
theorem EO(c:V) (a:U):(cU (.iface 216 c) 123 214 true).run T a=.ok (h #[l #[y K 0,y K 0],W false]) a:=by kernel_rfl
theorem ES(a:V) (c:U):(cU (.iface 216 a) 123 216 true).run T c=.ok (h #[a,W true]) c:=by kernel_rfl
theorem ET(c:V) (a:U):(cU (.iface 212 c) 123 189 true).run T a=.ok (h #[l #[y K 0,y K 0,y K 0,y K 0,y K 0,y K 0,y K 0],W false]) a:=by kernel_rfl
theorem EU(c:V) (a:U):(cU (.iface 212 c) 123 202 true).run T a=.ok (h #[l #[y K 0,y K 0,y K 0,y K 0,y K 0,y K 0],W false]) a:=by kernel_rfl
theorem EW(c:V) (a:U):(cU (.iface 212 c) 123 214 true).run T a=.ok (h #[l #[y K 0,y K 0],W false]) a:=by kernel_rfl
theorem EY(c:V) (a:U):(cU (.iface 212 c) 123 216 true).run T a=.ok (h #[l #[y K 0,y K 0,y K 0,y K 0],W false]) a:=by kernel_rfl
theorem EZ(a:V) (c:U):(cU (.iface 212 a) 123 212 true).run T c=.ok (h #[a,W true]) c:=by kernel_rfl
theorem E'(c:V) (a:U):(cU (.iface 159 c) 123 189 true).run T a=.ok (h #[l #[y K 0,y K 0,y K 0,y K 0,y K 0,y K 0,y K 0],W false]) a:=by kernel_rfl
theorem Fa(c:V) (a:U):(cU (.iface 159 c) 123 202 true).run T a=.ok (h #[l #[y K 0,y K 0,y K 0,y K 0,y K 0,y K 0],W false]) a:=by kernel_rfl
theorem Fb(c:V) (a:U):(cU (.iface 159 c) 123 214 true).run T a=.ok (h #[l #[y K 0,y K 0],W false]) a:=by kernel_rfl
theorem Fc(c:V) (a:U):(cU (.iface 159 c) 123 216 true).run T a=.ok (h #[l #[y K 0,y K 0,y K 0,y K 0],W false]) a:=by kernel_rfl
theorem Fe(c:V) (a:U):(cU (.iface 159 c) 123 212 true).run T a=.ok (h #[l #[y K 0,y K 0,y K 0],W false]) a:=by kernel_rfl
theorem Ff(a:V) (c:U):(cU (.iface 159 a) 123 159 true).run T c=.ok (h #[a,W true]) c:=by kernel_rfl
theorem xS(c:V) (a:U):(cU (.iface 196 c) 123 189 true).run T a=.ok (h #[l #[y K 0,y K 0,y K 0,y K 0,y K 0,y K 0,y K 0],W false]) a:=by kernel_rfl
theorem xT(c:V) (a:U):(cU (.iface 196 c) 123 202 true).run T a=.ok (h #[l #[y K 0,y K 0,y K 0,y K 0,y K 0,y K 0],W false]) a:=by kernel_rfl
theorem xU(c:V) (a:U):(cU (.iface 196 c) 123 214 true).run T a=.ok (h #[l #[y K 0,y K 0],W false]) a:=by kernel_rfl
theorem xV(c:V) (a:U):(cU (.iface 196 c) 123 216 true).run T a=.ok (h #[l #[y K 0,y K 0,y K 0,y K 0],W false]) a:=by kernel_rfl
theorem xW(c:V) (a:U):(cU (.iface 196 c) 123 212 true).run T a=.ok (h #[l #[y K 0,y K 0,y K 0],W false]) a:=by kernel_rfl
theorem xX(c:V) (a:U):(cU (.iface 196 c) 123 159 true).run T a=.ok (h #[l #[y K 0],W false]) a:=by kernel_rfl
theorem xY(a:V) (c:U):(cU (.iface 196 a) 123 196 true).run T c=.ok (h #[a,W true]) c:=by kernel_rfl
attribute [local go_sem] EE
attribute [local go_sem] EG EH
attribute [local go_sem] EI EJ EK
attribute [local go_sem] EM EN EO ES
attribute [local go_sem] ET EU EW EY EZ
attribute [local go_sem] E' Fa Fb Fc Fe Ff
attribute [local go_sem] xS xT xU xV xW xX xY
theorem bM.iu{d:Nat->Prop} {a:U} {j:Nat} {i:V} {xs:List Int} {now:Int} (k:bM d a j i xs now) (e f:Obj):bM (λc=>(d c/\c≠a.heap.size)/\c≠a.heap.size+1) ((a.alloc e).alloc f) j i xs now:=by
 have:=(k.box e).box f;rw[bj] at this;exact this
theorem eB.iu{d:Nat->Prop} {a:U} (i:eB d a) (e f:Obj):eB (λc=>(d c/\c≠a.heap.size)/\c≠a.heap.size+1) ((a.alloc e).alloc f):=by
 have:=(i.box e).box f;rw[bj] at this;exact this
theorem dp.n7{e:Nat->Prop} {a w2:U} {j:Nat} {xs:List Int} {now:Int} {f i:Obj} (k:dp (λc=>(e c/\c≠a.heap.size)/\c≠a.heap.size+1) ((a.alloc f).alloc i) w2 j xs now):dp e a w2 j xs now:=by
 obtain⟨⟨o,n⟩,m⟩:=k;exact⟨⟨o,n.wide (λ_ d=>d.1.1)⟩,((((G.refl No a).alloc f).alloc i).mono (λ_ _ p=>p.elim)).trans (m.mono (λ_ _ d=>d.1.1))⟩
theorem X.n9(c:U) (d:Obj) (cs:Array V) (a:TypeId):X ((c.alloc d).alloc (v cs a)) (c.heap.size+1) cs a:=by
 have:=X.new (c.alloc d) cs a;rw[bj] at this;exact this
theorem Fg{n:Nat->Prop} {a:U} {r:Nat} {xs:List Int} {now:Int} (j:∃q,bM n a r q xs now) (z:eB n a) (hl:xs.length<1099511627600) (d:Int) (hf:0<=d/\d<32) (p:O) (A:O.fit p):Calls T 110 #[b (E ⟨r,0,F⟩),l #[y K d,.iface 189 (l #[y K p.rows,y K p.w,y K p.front,y K p.I,y K p.R,y K p.n,y K p.f])]] a λo w'=>o=g (h #[])/\dp n a w' r (xs++((32* 1+d)::gA p)) now:=by
 obtain⟨q,j⟩:=j;have s:=i (X.n9 a (v #[y K d,.iface 189 (l #[y K p.rows,y K p.w,y K p.front,y K p.I,y K p.R,y K p.n,y K p.f])] 125) #[y K p.rows,y K p.w,y K p.front,y K p.I,y K p.R,y K p.n,y K p.f] 189);have w:=i (z.iu (v #[y K d,.iface 189 (l #[y K p.rows,y K p.w,y K p.front,y K p.I,y K p.R,y K p.n,y K p.f])] 125) (v #[y K p.rows,y K p.w,y K p.front,y K p.I,y K p.R,y K p.n,y K p.f] 189))
 have t:=i (nZ ⟨q,j.iu (v #[y K d,.iface 189 (l #[y K p.rows,y K p.w,y K p.front,y K p.I,y K p.R,y K p.n,y K p.f])] 125) (v #[y K p.rows,y K p.w,y K p.front,y K p.I,y K p.R,y K p.n,y K p.f] 189)⟩ (k w) (by omega) 1 d (by omega) hf);clear j z;have G:=i A;clear A;go_enter func110,ntmps110;go_wp2_with fail;refine(k t).mono ?_;rintro o e ⟨rfl,f⟩;have c:=f.mod.has (k s) (λm=>m.2 rfl)
 have J:e.cell? ⟨a.heap.size+1,0,F⟩=E (y K p.rows):=c.cell 0;have L:e.cell? ⟨a.heap.size+1,1,F⟩=E (y K p.w):=c.cell 1;have M:e.cell? ⟨a.heap.size+1,2,F⟩=E (y K p.front):=c.cell 2;have N:e.cell? ⟨a.heap.size+1,3,F⟩=E (y K p.I):=c.cell 3;have P:e.cell? ⟨a.heap.size+1,4,F⟩=E (y K p.R):=c.cell 4;have Q:e.cell? ⟨a.heap.size+1,5,F⟩=E (y K p.n):=c.cell 5
 have R:e.cell? ⟨a.heap.size+1,6,F⟩=E (y K p.f):=c.cell 6;have S:=c.lt;have D:=i ((k w).mod f.mod);have x:=i f;have u:=i (xP f.ex (k D) (by simp only[aJ,oa];omega) p (k G));clear f c t s;go_wp2_with fail;refine(k u).mono ?_;rintro o Y ⟨rfl,B⟩;have H:=i ((B.after (k x).mod (λ_ _ I=>I)).n7);clear B u x;go_wp2;go_end0;refine⟨rfl,?_⟩;have m:=k H;rw[bI] at m;exact m
theorem Fh{o:Nat->Prop} {c:U} {r:Nat} {xs:List Int} {now:Int} (m:∃q,bM o c r q xs now) (z:eB o c) (hl:xs.length<1099511627600) (e:Int) (hf:0<=e/\e<32) (a:B) (hs:jJ now a):Calls T 110 #[b (E ⟨r,0,F⟩),l #[y K e,.iface 202 (l #[y K a.row,y K a.P,y K a.st,y K a.pa,y K a.cl,y K a.un])]] c λp w'=>p=g (h #[])/\dp o c w' r (xs++((32* 2+e)::gi now a)) now:=by
 obtain⟨q,m⟩:=m;have s:=i (X.n9 c (v #[y K e,.iface 202 (l #[y K a.row,y K a.P,y K a.st,y K a.pa,y K a.cl,y K a.un])] 125) #[y K a.row,y K a.P,y K a.st,y K a.pa,y K a.cl,y K a.un] 202);have w:=i (z.iu (v #[y K e,.iface 202 (l #[y K a.row,y K a.P,y K a.st,y K a.pa,y K a.cl,y K a.un])] 125) (v #[y K a.row,y K a.P,y K a.st,y K a.pa,y K a.cl,y K a.un] 202))
 have t:=i (nZ ⟨q,m.iu (v #[y K e,.iface 202 (l #[y K a.row,y K a.P,y K a.st,y K a.pa,y K a.cl,y K a.un])] 125) (v #[y K a.row,y K a.P,y K a.st,y K a.pa,y K a.cl,y K a.un] 202)⟩ (k w) (by omega) 2 e (by omega) hf);clear m z;have G:=i hs;clear hs;go_enter func110,ntmps110;go_wp2_with fail;refine(k t).mono ?_;rintro p f ⟨rfl,j⟩;have d:=j.mod.has (k s) (λn=>n.2 rfl)
 have J:f.cell? ⟨c.heap.size+1,0,F⟩=E (y K a.row):=d.cell 0;have L:f.cell? ⟨c.heap.size+1,1,F⟩=E (y K a.P):=d.cell 1;have M:f.cell? ⟨c.heap.size+1,2,F⟩=E (y K a.st):=d.cell 2;have N:f.cell? ⟨c.heap.size+1,3,F⟩=E (y K a.pa):=d.cell 3;have O:f.cell? ⟨c.heap.size+1,4,F⟩=E (y K a.cl):=d.cell 4;have P:f.cell? ⟨c.heap.size+1,5,F⟩=E (y K a.un):=d.cell 5;have Q:=d.lt;have D:=i ((k w).mod j.mod)
 have x:=i j;have u:=i (xR j.ex (k D) (by simp only[aJ,oa];omega) a (k G));clear j d t s;go_wp2_with fail;refine(k u).mono ?_;rintro p R ⟨rfl,A⟩;have H:=i ((A.after (k x).mod (λ_ _ I=>I)).n7);clear A u x;go_wp2;go_end0;refine⟨rfl,?_⟩;have n:=k H;rw[bI] at n;exact n
theorem Fi{o:Nat->Prop} {e:U} {r:Nat} {xs:List Int} {now:Int} (m:∃q,bM o e r q xs now) (z:eB o e) (hl:xs.length<1099511627600) (d:Int) (hf:0<=d/\d<32) (c a:Int) (H:1<=c/\c<=20) (hc:1<=a/\a<=6):Calls T 110 #[b (E ⟨r,0,F⟩),l #[y K d,.iface 214 (l #[y K c,y K a])]] e λp w'=>p=g (h #[])/\dp o e w' r (xs++((32* 3+d)::eV c a)) now:=by
 obtain⟨q,m⟩:=m;have s:=i (X.n9 e (v #[y K d,.iface 214 (l #[y K c,y K a])] 125) #[y K c,y K a] 214);have w:=i (z.iu (v #[y K d,.iface 214 (l #[y K c,y K a])] 125) (v #[y K c,y K a] 214));have t:=i (nZ ⟨q,m.iu (v #[y K d,.iface 214 (l #[y K c,y K a])] 125) (v #[y K c,y K a] 214)⟩ (k w) (by omega) 3 d (by omega) hf);clear m z;go_enter func110,ntmps110;go_wp2_with fail;refine(k t).mono ?_
 rintro p B ⟨rfl,f⟩;have j:=f.mod.has (k s) (λn=>n.2 rfl);have J:B.cell? ⟨e.heap.size+1,0,F⟩=E (y K c):=j.cell 0;have L:B.cell? ⟨e.heap.size+1,1,F⟩=E (y K a):=j.cell 1;have M:=j.lt;have D:=i ((k w).mod f.mod);have x:=i f;have u:=i (rT f.ex (k D) (by simp only[aJ,oa];omega) c a H hc);clear f j t s;go_wp2_with fail;refine(k u).mono ?_;rintro p N ⟨rfl,A⟩
 have G:=i ((A.after (k x).mod (λ_ _ I=>I)).n7);clear A u x;go_wp2;go_end0;refine⟨rfl,?_⟩;have n:=k G;rw[bI] at n;exact n
theorem Fj{t:Nat->Prop} {e:U} {w:Nat} {xs:List Int} {now:Int} (r:∃u,bM t e w u xs now) (M:eB t e) (hl:xs.length<1099511627600) (f:Int) (hf:0<=f/\f<32) (d a rt c:Int) (ab:1<=d/\d<=20) (hc:1<=a/\a<=6) (ad:1<=rt/\rt<=20) (aa:1<=c/\c<=6):Calls T 110 #[b (E ⟨w,0,F⟩),l #[y K f,.iface 216 (l #[y K d,y K a,y K rt,y K c])]] e λq w'=>q=g (h #[])/\dp t e w' w (xs++((32* 4+f)::(eV d a++eV rt c))) now:=by
 obtain⟨u,r⟩:=r;have z:=i (X.n9 e (v #[y K f,.iface 216 (l #[y K d,y K a,y K rt,y K c])] 125) #[y K d,y K a,y K rt,y K c] 216);have H:=i (M.iu (v #[y K f,.iface 216 (l #[y K d,y K a,y K rt,y K c])] 125) (v #[y K d,y K a,y K rt,y K c] 216));have B:=i (nZ ⟨u,r.iu (v #[y K f,.iface 216 (l #[y K d,y K a,y K rt,y K c])] 125) (v #[y K d,y K a,y K rt,y K c] 216)⟩ (k H) (by omega) 4 f (by omega) hf)
 clear r M;have ag:(eV d a).length<=9:=(dk _).2;go_enter func110,ntmps110;go_wp2_with fail;refine(k B).mono ?_;rintro q s ⟨rfl,n⟩;have j:=n.mod.has (k z) (λm=>m.2 rfl);have Q:s.cell? ⟨e.heap.size+1,0,F⟩=E (y K d):=j.cell 0;have R:s.cell? ⟨e.heap.size+1,1,F⟩=E (y K a):=j.cell 1;have S:s.cell? ⟨e.heap.size+1,2,F⟩=E (y K rt):=j.cell 2;have Y:s.cell? ⟨e.heap.size+1,3,F⟩=E (y K c):=j.cell 3
 have ae:=j.lt;have I:=i ((k H).mod n.mod);have J:=i n;have D:=i (rT n.ex (k I) (by simp only[aJ,oa];omega) d a ab hc);have A:=i j;clear n j B z;go_wp2_with fail;refine(k D).mono ?_;rintro q O ⟨rfl,o⟩;have p:=o.mod.has (k A) (λm=>m.2 rfl);have d2:O.cell? ⟨e.heap.size+1,2,F⟩=E (y K rt):=p.cell 2;have d3:O.cell? ⟨e.heap.size+1,3,F⟩=E (y K c):=p.cell 3;have af:=p.lt
 have G:=i (rT o.ex ((k I).mod o.mod) (by simp only[aJ,oa];omega) rt c ad aa);have L:=i (o.after (k J).mod (λ_ _ x=>x));clear o p D J A Q R S Y;go_wp2_with fail;refine(k G).mono ?_;rintro q w3 ⟨rfl,N⟩;have P:=i ((N.after (k L).mod (λ_ _ x=>x)).n7);clear N G L;go_wp2;go_end0;refine⟨rfl,?_⟩;have m:=k P;rw[bI,bI] at m;exact m
theorem Fk{p:Nat->Prop} {f:U} {t:Nat} {xs:List Int} {now:Int} (n:∃r,bM p f t r xs now) (B:eB p f) (hl:xs.length<1099511627600) (e:Int) (hf:0<=e/\e<32) (d a c:Int) (J:0<=d/\d<9223372036854775808) (hc:0<=a/\a<9223372036854775808) (I:0<=c/\c<9223372036854775808):
  Calls T 110 #[b (E ⟨t,0,F⟩),l #[y K e,.iface 212 (l #[y K d,y K a,y K c])]] f λq w'=>q=g (h #[])/\dp p f w' t (xs++((32* 5+e)::(aN d++aN a++aN c))) now:=by
 obtain⟨r,n⟩:=n;have u:=i (X.n9 f (v #[y K e,.iface 212 (l #[y K d,y K a,y K c])] 125) #[y K d,y K a,y K c] 212);have z:=i (B.iu (v #[y K e,.iface 212 (l #[y K d,y K a,y K c])] 125) (v #[y K d,y K a,y K c] 212));have w:=i (nZ ⟨r,n.iu (v #[y K e,.iface 212 (l #[y K d,y K a,y K c])] 125) (v #[y K d,y K a,y K c] 212)⟩ (k z) (by omega) 5 e (by omega) hf);clear n B;go_enter func110,ntmps110
 go_wp2_with fail;refine(k w).mono ?_;rintro q s ⟨rfl,m⟩;have j:=m.mod.has (k u) (λo=>o.2 rfl);have M:s.cell? ⟨f.heap.size+1,0,F⟩=E (y K d):=j.cell 0;have N:s.cell? ⟨f.heap.size+1,1,F⟩=E (y K a):=j.cell 1;have O:s.cell? ⟨f.heap.size+1,2,F⟩=E (y K c):=j.cell 2;have P:=j.lt;have G:=i ((k z).mod m.mod);have A:=i m;have x:=i (xO m.ex (k G) (by simp only[aJ,oa];omega) d a c J hc I);clear m j w u
 go_wp2_with fail;refine(k x).mono ?_;rintro q Q ⟨rfl,D⟩;have H:=i ((D.after (k A).mod (λ_ _ L=>L)).n7);clear D x A;go_wp2;go_end0;refine⟨rfl,?_⟩;have o:=k H;rw[bI] at o;exact o
theorem Fl{j:Nat->Prop} {d:U} {e:Nat} {xs:List Int} {now:Int} (s:∃z,bM j d e z xs now) (J:eB j d) (hl:xs.length<1099511627600) (r:Int) (a:Int) (ak:0<=now/\now<=a/\a<=4611686018427387904):Calls T 110 #[b (E ⟨e,0,F⟩),l #[y K r,.iface 159 (l #[y K a])]] d λq w'=>q=g (h #[])/\dp j d w' e (xs++(192::aN (a - now))) a:=by
 obtain⟨z,s⟩:=s;have B:=i (X.n9 d (v #[y K r,.iface 159 (l #[y K a])] 125) #[y K a] 159);have I:=i (J.iu (v #[y K r,.iface 159 (l #[y K a])] 125) (v #[y K a] 159));have H:=i (nZ ⟨z,s.iu (v #[y K r,.iface 159 (l #[y K a])] 125) (v #[y K a] 159)⟩ (k I) (by omega) 6 0 (by omega) (by omega));clear s J;go_enter func110,ntmps110;go_wp2_with fail;refine(k H).mono ?_;rintro q n ⟨rfl,m⟩
 have p:=m.mod.has (k B) (λx=>x.2 rfl);have ad:n.cell? ⟨d.heap.size+1,0,F⟩=E (y K a):=p.cell 0;have ai:=p.lt;have O:=i ((k I).mod m.mod);have Q:=i m;obtain⟨Y,t⟩:=m.ex;have d1:n.cell? ⟨e,1,F⟩=E (y K now):=t.has.cell 1;have ao:=t.has.lt;have am:K.wrap (a - now)=a - now:=aB _ (by omega) (by omega)
 have N:=i (jI ⟨Y,t.mod (S:=No) ((G.refl No n).drewN 1) (λ_ _ o=>o)⟩ ((k O).mod ((G.refl No n).drewN 1)) (by simp only[aJ,oa];omega) (a - now) (by omega));have D:=i ((G.refl No n).drewN 1);have M:=i p;clear t m p H B;go_wp2_with fail
 go_region_law (refine eZ rfl 109 _ _ rfl #[b (E ⟨e,0,F⟩),y K (a - now)] (by simp[Z,aP]) (λaa=>by kernel_rfl) (h #[]) _ (k N) ?_;intro A u;have w:=(k D|>.mono (S':=λf=>(j f/\f≠d.heap.size)/\f≠d.heap.size+1) (λ_ _ o=>o.elim)|>.trans u.mod).has (k M) (λx=>x.2 rfl);have ae:A.cell? ⟨d.heap.size+1,0,F⟩=E (y K a):=w.cell 0;have aj:=w.lt;obtain⟨aq,c⟩:=u.ex;obtain⟨ab,ap,rfl⟩:=aC c.row;have af:A.cell? ⟨e,1,F⟩=E (y K now):=c.has.cell 1;have ag:=c.has.frozen;have ah:=c.has.lt;have R:=i (u.mod);have P:=i c;clear u w c)
 all_goals go_wp2
 all_goals go_end0
 all_goals
  refine⟨rfl,?_⟩;have c:=k P;have L:bM (λf=>(j f/\f≠d.heap.size)/\f≠d.heap.size+1) (A.setCell ⟨e,1,F⟩ (y K a)) e _ (xs++[32* 6+0]++aN (a - now)) a:=⟨c.has.set 1 _,gT c.row (λq=>(c.own e q).2 rfl) _,c.own,c.ge,c.len⟩;have S:=(((k Q).mod.trans ((k D).mono (λ_ _ o=>o.elim))).trans (k R)).setCell (p:=⟨e,1,F⟩) (.inl c.ge) (y K a);rw[bI] at L;exact dp.n7 ⟨⟨_,L⟩,S⟩
end Go.Proofs.YthhibagcpjeihaaGreat
