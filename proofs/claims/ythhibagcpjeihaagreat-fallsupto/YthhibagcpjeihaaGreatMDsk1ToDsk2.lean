import Derived.Test.YthhibagcpjeihaaGreatMOpn4ToKwh
import Derived.Test.YthhibagcpjeihaaGreatMPg3ToAsk
import Derived.Test.YthhibagcpjeihaaGreatMRef26ToFol4
import Derived.Test.YthhibagcpjeihaaGreatMRef24ToTPl
import Derived.Deep.RegionHeld3
import Derived.Test.YthhibagcpjeihaaGreatMRef14ToRef18
open Go.Proofs.Tryz
open Go.Value renaming int->y,pointer->b,slice->C,bool->W,agg->l,tuple->h
open Go.IntKind renaming i64->K,wrap_i64->jB
open Option renaming none->F,some->E
open Go renaming World->U,Value->V
open Go.Proofs.Tryz renaming prog->T
open Go.Ending renaming returned->g
open Go.Obj renaming cells->v
open Nat renaming lt_of_lt_of_le->aG,le_trans->bF
open List renaming length_append->aJ,getElem_mem->dD,length_cons->dP,append_nil->dR,length_nil->im,length_filter_le->oZ,mem_cons_of_mem->oM
open Go.Act renaming eval->Z,put->aP
open Go.Region renaming wanted->gM
open Bool renaming and_eq_true->kY
open Go.Oper renaming wp->eT
namespace Go.Proofs.YthhibagcpjeihaaGreat
open Go.RowKit
open M
set_option linter.unusedVariables false
set_option linter.unusedSimpArgs false
set_option maxRecDepth 100000
structure bh (N:Int) (now:Int) (fl:Y):Prop where
 gP:∀j,j=0\/20<j->fl j=F
 wf:∀j p l,fl j=E (p,l)->L p l
 ep:∀j p l,fl j=E (p,l)->1<=p.ep/\p.ep<=N+1
 one:∀j p l,fl j=E (p,l)->p.ep=1->∀s∈l,s.st=0
 hold:∀j p l,fl j=E (p,l)->∀s∈l,s.st=1->now<s.un
 time:0<=now/\now<=100* N
 lY:0<=N/\N<=1099511627776
theorem bh.zero:bh 0 0 eO:=⟨λ_ _=>rfl,λ_ _ _ a=>(by cases a),λ_ _ _ a=>(by cases a),λ_ _ _ a=>(by cases a),λ_ _ _ a=>(by cases a),by omega,by omega⟩
theorem bh.more{c M now:Int} {d:Y} (a:bh c now d) (k:c<=M) (hb:M<=1099511627776):bh M now d:=
 ⟨a.gP,a.wf,λf j i e=>by have:=a.ep f j i e;omega,a.one,a.hold,by have:=a.time;omega,by have:=a.lY;omega⟩
theorem qO{a c:Int} (d:1<=a/\a<=c+1) (hb:0<=c/\c<=1099511627776):fI a=a+1:=by
 unfold fI;rw[jB];omega
def pF(now:Int) (a:B):Bool:=a.st==1&&decide (a.un<=now)
theorem Kn(now:Int):Ask (pF now):=⟨λc a=>by unfold pF at a;simp at a;omega,λc d=>rfl⟩
theorem Ko{now:Int} {c:List B} (d:∀a∈c,a.st=1->now<a.un):c.countP (pF now)=0:=by
 rw[List.countP_eq_zero];intro a hs;unfold pF;simp only[kY,beq_iff_eq,decide_eq_true_eq];rintro⟨e,f⟩;have:=d a hs e;omega
theorem Kp{now:Int} {d:List B} (c:d.countP (pF now)=0):∀a∈d,a.st=1->now<a.un:=by
 rw[List.countP_eq_zero] at c;intro a hs e;have:=c a hs;unfold pF at this;simp only[kY,beq_iff_eq,decide_eq_true_eq] at this;have:=λf=>this ⟨e,f⟩;omega
theorem Kq{p:O} {e:List B} (i:L p e) {a:N} {now:Int} (j:0<=now/\now<=4611686018427387000) (d:aH p e a now=0):L (fT p a) (dg p e a):=by
 by_cases c:a.kind=9
 ·unfold aH at d;rw[if_pos c] at d;by_cases f:a.p.sized=true/\¬(a.p.rows* a.p.w<(ba e:Int))
  ·unfold fT dg;rw[if_pos c,if_pos c];exact uq (q:=eN p a.p) i f.1 i.limited f.2
  ·rw[if_neg f] at d;omega
 ·unfold fT;rw[if_neg c];exact(uP i j d c).next
theorem vN(p:O) (a:N):(fT p a).ep=fI p.ep:=by
 unfold fT;split<;>rfl
theorem Kr{p:O} {f:List B} (o:L p f) {a:N} {now:Int} (j:aH p f a now=0) (e:∀c∈f,c.st=1->now<c.un):∀c∈dg p f a,c.st=1->now<c.un:=by
 by_cases k:a.kind=9
 ·unfold aH at j;rw[if_pos k] at j;by_cases n:a.p.sized=true/\¬(a.p.rows* a.p.w<(ba f:Int))
  ·unfold dg;rw[if_pos k];refine Kp ?_;rw[Ij (q:=eN p a.p) (Kn now) o n.1 o.limited n.2];exact Ko e
  ·rw[if_neg n] at j;omega
 ·obtain⟨_,D,I,m,H⟩:=qC j k;obtain⟨hi,hs,_⟩:=kF o D;have G:(aq p f a.j a.ac).st=1->now<(aq p f a.j a.ac).un:=by rw[hs];exact e _ (dD hi)
  have put:∀(r:List B) u (d:B),(∀c∈r,c.st=1->now<c.un)->(d.st=1->now<d.un)->∀c∈r.set u d,c.st=1->now<c.un:=λr u d A m c hs=>by
   obtain s|s:=List.mem_or_eq_of_mem_set hs
   ·exact A c s
   ·subst s;exact m
  have t:∀d:B,d.aS.st=1->now<d.aS.un:=λd i=>by simp[B.aS] at i
  unfold dg;rw[if_neg k];by_cases q:a.kind=2
  ·rw[if_pos q];exact put _ _ _ e (λ_=>(m q).2.1)
  rw[if_neg q];by_cases w:a.kind=3
  ·rw[if_pos w];exact put _ _ _ e (λi=>by simp at i)
  rw[if_neg w];by_cases x:a.kind=5
  ·rw[if_pos x];exact put _ _ _ (put _ _ _ e (t _)) G
  rw[if_neg x];by_cases z:a.kind=6
  ·rw[if_pos z];exact put _ _ _ e (λi=>by simp at i)
  rw[if_neg z];exact put _ _ _ e (t _)
theorem bh.step{u now r:Int} {p fl':Y} {f:N} (j:bh u now p) (hd:aA now p f=(0,r,fl')) (ag:u+1<=1099511627776):bh (u+1) r fl':=by
 have hl:=Ar hd;have hb:=j.lY;have ah:=j.time;unfold aA at hd;by_cases S:f.kind<1\/f.kind>9
 ·rw[if_pos S] at hd;exact absurd hd (by simp)
 rw[if_neg S] at hd;by_cases R:f.kind=8
 ·rw[if_pos R] at hd;by_cases X:1<=f.time/\f.time<=100
  ·rw[if_pos X] at hd;injection hd with _ hd;injection hd with w x;rw[<-x,w];have get:∀a d c,(p a).map (gZ r)=E (d,c)->∃k m,p a=E (k,m)/\d=ky r k m/\c=dd r m:=λa d c e=>by
    cases i:p a with
    |none=>rw[i] at e;cases e
    |some A=>
     rw[i] at e;obtain⟨k,m⟩:=A;injection e with e;injection e with J M;exact⟨k,m,rfl,J.symm,M.symm⟩
   refine⟨λa P=>(by show(p a).map _=F;rw[j.gP a P];rfl),λa d c e=>?_,λa d c e=>?_,λa d c e=>?_,λa d c e=>?_,by omega,by omega⟩
   ·obtain⟨k,m,i,rfl,rfl⟩:=get a d c e;exact yL (j.wf a k m i) r
   ·obtain⟨k,m,i,rfl,rfl⟩:=get a d c e;have:=j.ep a k m i;unfold ky;split
    ·show 1<=fI k.ep/\fI k.ep<=u+1+1;rw[qO this hb];omega
    ·omega
   ·obtain⟨k,m,i,rfl,rfl⟩:=get a d c e;have I:=j.ep a k m i;intro n o hs;unfold ky at n;split at n
    ·have n:fI k.ep=1:=n;rw[qO I hb] at n;omega
    ·simp only[dd,List.mem_map] at hs;obtain⟨A,ab,rfl⟩:=hs;have:=j.one a k m i n A ab;split
     ·rfl
     ·exact this
   ·obtain⟨k,m,i,rfl,rfl⟩:=get a d c e;intro o hs n;simp only[dd,List.mem_map] at hs;obtain⟨A,ab,rfl⟩:=hs;by_cases H:due r A=true
    ·rw[if_pos H] at n;simp[B.aS] at n
    ·rw[if_neg H] at n ⊢;unfold due at H;simp only[n,beq_self_eq_true,Bool.true_and,decide_eq_true_eq] at H;omega
  ·rw[if_neg X] at hd;exact absurd hd (by simp)
 rw[if_neg R] at hd;by_cases hf:1<=f.m/\f.m<=20
 case neg=>rw[if_pos hf] at hd;exact absurd hd (by simp)
 rw[if_neg (by simpa using hf)] at hd;have bL:∀(s:O) (t:List B),fl'=(λa=>if a=f.m.toNat then E (s,t) else p a)->r=now->L s t->(1<=s.ep/\s.ep<=u+1+1)->(s.ep=1->∀o∈t,o.st=0)->(∀o∈t,o.st=1->now<o.un)->bh (u+1) r fl':=λs t w x ad ae w3 af=>by
  subst w;rw[x];have get:∀a d c,(if a=f.m.toNat then E (s,t) else p a)=E (d,c)->(s=d/\t=c)\/p a=E (d,c):=λa d c e=>by
   split at e
   ·injection e with e;injection e with J M;exact .inl ⟨J,M⟩
   ·exact .inr e
  refine⟨λa P=>?_,λa d c e=>?_,λa d c e=>?_,λa d c e=>?_,λa d c e=>?_,by omega,by omega⟩
  ·rw[if_neg (by omega)];exact j.gP a P
  ·obtain⟨rfl,rfl⟩|z:=get a d c e
   ·exact ad
   ·exact j.wf a d c z
  ·obtain⟨rfl,rfl⟩|z:=get a d c e
   ·exact ae
   ·have:=j.ep a d c z;omega
  ·obtain⟨rfl,rfl⟩|z:=get a d c e
   ·exact w3
   ·exact j.one a d c z
  ·obtain⟨rfl,rfl⟩|z:=get a d c e
   ·exact af
   ·exact j.hold a d c z
 cases i:p f.m.toNat with
 |none=>
  rw[i] at hd;simp only at hd;by_cases G:f.kind=1
  ·rw[if_pos G] at hd;by_cases hs:f.p.sized=true/\f.p.limited=true
   ·rw[if_pos hs] at hd;injection hd with _ hd;injection hd with w x;have Q:∀o∈q f.p,o.st=0:=λo hs=>by
     simp only[q,List.mem_map] at hs;obtain⟨ai,_,rfl⟩:=hs;rfl
    exact bL _ _ x.symm w.symm ((ly hs.1 hs.2).at 1) ⟨by show(1:Int)<=1;omega,by show(1:Int)<=u+1+1;omega⟩ (λ_=>Q) (λo hs e=>by rw[Q o hs] at e;omega)
   ·rw[if_neg hs] at hd;exact absurd hd (by simp)
  ·rw[if_neg G] at hd;exact absurd hd (by simp)
 |some A=>
  obtain⟨d,c⟩:=A;rw[i] at hd;simp only at hd;by_cases G:f.kind=1
  ·rw[if_pos G] at hd;exact absurd hd (by simp)
  rw[if_neg G] at hd;by_cases D:aH d c f now=0
  ·rw[if_pos D] at hd;injection hd with _ hd;injection hd with w x;have I:=j.ep _ d c i;have aa:=j.wf _ d c i;exact bL _ _ x.symm w.symm (Kq aa (by omega) D) (by rw[vN,qO I hb];omega) (λe=>by rw[vN,qO I hb] at e;omega) (Kr aa D (j.hold _ d c i))
  ·rw[if_neg D] at hd;exact absurd (congrArg (·.1) hd) D
set_option maxHeartbeats 4000000
theorem AX{f:Program} {ops:Array Oper} {d:Oper} {a:Act} {m:U} {i:Act->U->Prop} {o:Exit->Act->U->Prop} {n:Prop} (u:gM d (yielded ops a.tmps)=true) (e:FuncId) (args:Array Operand) (w:Array TypeId) (r:d.op=Op.call { callee:=Callee.value (Operand.func e),args:=args,argTypes:=w })
  (vs:Array V) (t:args.map a.eval=vs) (q:∀j,(callFunc e vs).run f j=.ok (.enter e vs) j) (R:V->U->Prop) (hc:Calls f e vs m λk w'=>∃c,k=g c/\R c w') (p:∀c w',R c w'->i (a.put d.dst c) w'):if gM d (yielded ops a.tmps)=true then eT f d a m i o else n:=by
 rw[if_pos u];unfold eT execOp;simp[go_sem,r,t];rw[q];simp[go_sem];refine hc.mono ?_;rintro k w' ⟨c,rfl,s⟩;exact p _ _ s
theorem AY{a:U} {f:Nat} {cs:Array V} (e:X a f cs 121) (c:cs[30]? =E (b F)) (o:Option Addr) (j n:Nat):Calls T 79 #[b (E ⟨f,30,F⟩),C o j n] a λd w'=>d=g (y K 17)/\w'=a:=by
 have m:=i (yc e c (j:Int));clear e c;go_enter func79,ntmps79;go_wp2_with fail;refine(k m).mono ?_;rintro d p ⟨rfl,rfl⟩;go_wp2;go_ret;exact⟨rfl,rfl⟩
theorem Ks{a:U} {j:Nat} {cs:Array V} (c:X a j cs 121) (e:cs[30]? =E (b F)) (n:Option Addr) (m d:Nat):Calls T 56 #[b (E ⟨j,30,F⟩),C n m d] a λf w'=>f=g (y K 17)/\G No a w':=by
 have d0:=c.cell 30;rw[e] at d0;have s:=c.lt;have o:=i λp (q:G No a p)=>(AY (q.has c (λr=>r)) e n m d);clear c;go_enter func56,ntmps56;go_wp2_with fail;go_quiet (fail);go_wp2_with fail;refine((k o) _ ((G.refl No a).drewN _)).mono ?_;rintro f t ⟨rfl,rfl⟩;go_wp2;go_ret;exact⟨rfl,(G.refl No a).drewN _⟩
theorem Kt{c:U} {S:Nat->Prop} {e tb:Nat} {f:u} {cs:Array V} (d:X c e cs 121) (t:cs[30]? =E (b (E ⟨tb,0,F⟩))) (x:ae c S tb f) (a:Nat) (hi:a<2) (w:cs[31]? =E (y K a)) (N:Option Addr) (q D:Nat) (hs:(f.b a).length<=q):Calls T 56 #[b (E ⟨e,30,F⟩),C N q D] c λo w'=>o=g (y K 0)/\G No c w':=by
 have d0:=d.cell 30;rw[t] at d0;have d1:=d.cell 31;rw[w] at d1;have O:=d.lt
 have A:=i λj (L:G No c j)=>(show Calls T 89 #[b (E ⟨tb,0,F⟩),y K a] j λo w'=>∃r,o=g r/\∃m n,r=C m (f.b a).length n/\G No j w' from(uh (x.aD L) a (by omega)).mono (λo w' ⟨r,H,I,P,J⟩=>by
  obtain⟨m,n,rfl⟩:=aC I
  exact⟨_,H,m,n,rfl,J⟩))
 have B:=i λw3 (p:G No c.drew w3)=>(show w3.cell? ⟨e,30,F⟩=E (b (E ⟨tb,0,F⟩))/\w3.cell? ⟨e,31,F⟩=E (y K a) from⟨((p.has d.drew (λs=>s)).cell 30).trans t,((p.has d.drew (λs=>s)).cell 31).trans w⟩);have Q:((f.b a).length:Int)<=(q:Int):=by omega
 generalize (f.b a).length=p at *;clear d x hs;go_enter func56,ntmps56;go_wp2_with fail
 go_region_held3 (λw'=>w'.cell? ⟨e,30,F⟩=E (b (E ⟨tb,0,F⟩))/\w'.cell? ⟨e,31,F⟩=E (y K a)) (first|with_reducible assumption|go_keep) (first
  |(refine AX (by first|rfl|simp[gM,yielded]) 89 _ _ rfl #[b (E ⟨tb,0,F⟩),y K a] (by simp[Z,aP]) (λj=>by kernel_rfl) _ ((k A) _ (G.refl No c).drew) ?_;rintro aa w3 ⟨m,n,rfl,z⟩;have M:=(k B) w3 z;obtain⟨R,Y⟩:=id M))
 all_goals go_wp2_with fail
 all_goals go_ret
 all_goals exact⟨rfl,(G.refl No c).drew.trans z⟩
theorem Ku{f:U} {S:Nat->Prop} {j tb:Nat} {e:u} {cs:Array V} (o:X f j cs 121) (x:cs[30]? =E (b (E ⟨tb,0,F⟩))) (af:¬S j) (A:ae f S tb e) (a:Nat) (hi:a<2) (z:cs[31]? =E (y K a)) (tn:Bool) (Y:cs[32]? =E (W tn)) (s:Option Addr) (r:Nat) (c:List Int) (L:Reads f (C s c.length r) c.length (cg c)) (M:(C s c.length r).ownBlock≠E tb) (J:∀d∈c,0<=d/\d<256) (hl:(e.b (1 - a)).length+c.length<=17592186044416) (hs:¬(e.b a).length<=c.length):
  Calls T 56 #[b (E ⟨j,30,F⟩),C s c.length r] f λm w'=>m=g (y K (bD e a c).1)/\oC f w' S j tb a cs (bD e a c):=by
 have d0:=o.cell 30;rw[x] at d0;have d1:=o.cell 31;rw[z] at d1;have aj:=o.lt
 have O:=i λn (p:G No f n)=>(show Calls T 89 #[b (E ⟨tb,0,F⟩),y K a] n λm w'=>∃I,m=g I/\∃t w,I=C t (e.b a).length w/\G No n w' from(uh (A.aD p) a (by omega)).mono (λm w' ⟨I,aa,ab,ak,ad⟩=>by
  obtain⟨t,w,rfl⟩:=aC ab
  exact⟨_,aa,t,w,rfl,ad⟩))
 have N:=i λn (p:G No f n)=>(show Calls T 79 #[b (E ⟨j,30,F⟩),C s c.length r] n λm w'=>m=g (y K (bD e a c).1)/\oC f w' S j tb a cs (bD e a c) from
  (Al (p.has o (λd=>d)) x af (A.aD p) a hi z tn Y s r c (L.mod p (λ_ _ d=>d)) M J hl).mono (λm w' ⟨ag,H⟩=>⟨ag,H.tape.wide (λao q=>q.imp id (λq=>bF p.size q)),H.has,(p.mono (λ_ _ d=>d.elim)).trans H.mod⟩))
 have P:=i λw3 (B:G No f.drew w3)=>(show w3.cell? ⟨j,30,F⟩=E (b (E ⟨tb,0,F⟩))/\w3.cell? ⟨j,31,F⟩=E (y K a) from⟨((B.has o.drew (λd=>d)).cell 30).trans x,((B.has o.drew (λd=>d)).cell 31).trans z⟩);have am:¬((e.b a).length:Int)<=(c.length:Int):=by omega
 generalize bD e a c=ai at *;generalize (e.b a).length=B at *;generalize c.length=ap at *;clear o A hs L M J hl;go_enter func56,ntmps56;go_wp2_with fail
 go_region_held3 (λw'=>w'.cell? ⟨j,30,F⟩=E (b (E ⟨tb,0,F⟩))/\w'.cell? ⟨j,31,F⟩=E (y K a)) (first|with_reducible assumption|go_keep) (first
  |(refine AX (by first|rfl|simp[gM,yielded]) 89 _ _ rfl #[b (E ⟨tb,0,F⟩),y K a] (by simp[Z,aP]) (λn=>by kernel_rfl) _ ((k O) _ (G.refl No f).drew) ?_;rintro au w3 ⟨t,w,rfl,D⟩;have ah:=(k P) w3 D;obtain⟨aq,ar⟩:=id ah;have Q:=i ((G.refl No f).drew.trans D);clear D))
 all_goals go_wp2_with fail
 all_goals refine((k N) _ (k Q)).mono ?_
 all_goals rintro m av ⟨rfl,q⟩
 all_goals have R:=i q
 all_goals clear q
 all_goals go_wp2
 all_goals go_ret
 all_goals exact⟨rfl,k R⟩
def kQ(pt:Nat->Option Nat) (c:Int) (d:Nat):Nat->Option Nat:=
 if c=16 then lN pt else if c=0 then(λa=>if a=30 then(if d=0 then E 0 else F) else if a=31 then F else pt a) else pt
theorem tk(pt:Nat->Option Nat) (a:Int) (c j:Nat) (d:j<29):kQ pt a c j=pt j:=by
 unfold kQ lN
 repeat' split
 all_goals first|rfl|omega|skip
 all_goals simp only
 all_goals rw[if_neg (by omega)]
 all_goals first|rfl|rw[if_neg (by omega)]
theorem Kv(now:Int) (pt:Nat->Option Nat) (c:Int) (a:Nat) (hi:a<2):vG c a (cD now pt)=cD now (kQ pt c a):=by
 unfold vG kQ;split
 ·rw[yo]
 ·split
  ·have:a=0\/a=1:=by omega
   obtain rfl|rfl:=this<;>rfl
  ·rfl
def cv(a:aO) (R:Int×u):aO:={ a with T:=R.2,live:=R.1 !=16,file:=if R.1=0 then 1 - a.file else a.file,torn:=if R.1=0 then false else a.torn }
theorem AZ{a:aO} {c:List Int} (d:a.live=true):iw a c=((bD a.T a.file c).1,cv a (bD a.T a.file c)):=by
 unfold iw bD cv;rw[if_neg (by simp[d])];by_cases e:a.T.room<(a.T.used:Int)+c.length
 ·rw[if_pos e,if_pos e];obtain⟨tb,o,q,p,k⟩:=a;simp only at d;subst d;rfl
 rw[if_neg e,if_neg e];simp only;generalize (if c=[] then(true,a.T) else dS a.T (1 - a.file) c)=m;obtain⟨r,f⟩:=m
 cases r with
 |false=>rfl
 |true=>
  have i:¬((true,f):Bool×u).1=false:=by simp
  rw[if_neg i];simp only[if_neg i];generalize dQ f a.file=j;obtain⟨n,s⟩:=j
  cases n with
  |false=>rfl
  |true=>
   obtain⟨tb,o,q,p,k⟩:=a;simp only at d;subst d;rfl
theorem cW.A5{p m w':U} {f:Nat->Nat} {o:Nat} {now:Int} {pt:Nat->Option Nat} {r:Nat->Option (O×List B)} {i:aO} {R:Int×u} (q:cW p f o now pt r i) (L:i.live=true) (A:G No p m) (hi:i.file<2) (N:oC m w' (λa=>f a=30) o i.tb i.file (cD now pt) R):cW w' (kH f m.heap.size w'.heap.size) o now (kQ pt R.1 i.file) r (cv i R)/\(∀a,a<p.heap.size->kH f m.heap.size w'.heap.size a=f a)/\G (λa=>f a≠0) p w':=by
 obtain⟨P,x,z⟩:=N;have k:=q.keep;have M:=A.size;have aa:=z.size;have hold:∀a,f a≠0->a<m.heap.size:=λa c=>aG (k.aU a c) M;have t:G (λa=>f a=30\/a=o) p w':=(A.mono (λ_ _ Y=>Y.elim)).trans z;rw[Kv now pt R.1 i.file hi] at x
 refine⟨⟨?_,?_,?_,?_,?_⟩,λa c=>if_pos (by omega),t.mono (λa _ j=>by
  obtain j|j:=j
  ·show f a≠0;omega
  ·show f a≠0;rw[j,k.aW];omega)⟩
 ·have Q:cF w' f o now (kQ pt R.1 i.file) r:=by
   refine⟨x,k.aW,λa c=>aG (k.aU a c) t.size,λn s hf=>by rw[tk pt _ _ n (by omega)];exact k.gone n s hf,λn X S s hf=>?_⟩;obtain⟨D,H,I,J⟩:=k.here n X S s hf;refine⟨D,by rw[tk pt _ _ n (by omega)];exact H,I,J.mod t (λa c j=>?_)⟩;obtain j|j:=j
   ·omega
   ·rw[j,k.aW] at c;omega
  refine Q.ow m.heap.size (λa c=>if_pos c) hold (λa c=>?_);unfold kH at c;split at c
  ·omega
  ·split at c
   ·assumption
   ·exact absurd rfl c
 ·have w:=q.ptr;rw[if_pos L] at w;unfold kQ lN cv;by_cases e:R.1=16
  ·rw[if_pos e];simp[e]
  ·rw[if_neg e];by_cases d:R.1=0
   ·rw[if_pos d];simp[d,w]
   ·rw[if_neg d];simp[e,w]
 ·have:=q.file;unfold mL kQ lN cv at *;by_cases e:R.1=16
  ·rw[if_pos e];simp[e];exact this
  ·rw[if_neg e];by_cases d:R.1=0
   ·rw[if_pos d];have hc:i.file=0\/i.file=1:=by omega
    obtain hc|hc:=hc<;>simp[d,hc]
   ·rw[if_neg d];simp[d];exact this
 ·have:=q.torn;unfold lJ kQ lN cv at *;by_cases e:R.1=16
  ·rw[if_pos e];simp[e];exact this
  ·rw[if_neg e];by_cases d:R.1=0
   ·rw[if_pos d];simp[d]
   ·rw[if_neg d];simp[d];exact this
 ·refine P.narrow.wide (λa ⟨c,hl⟩=>?_);show kH f m.heap.size w'.heap.size a=30;unfold kH;obtain c|c:=c
  ·rw[if_pos (hold a (by omega))];exact c
  ·rw[if_neg (by omega),if_pos hl]
theorem Kw{a:U} {aa:Nat->Nat} {f:Nat} {now:Int} {pt:Nat->Option Nat} {e:Y} {p:aO} (r:cW a aa f now pt e p) (hl:p.live=false) (A:p.torn=true) (Q:e 0=F) (hf:dy 0 (dH now e)) (d:o) (S:∃j m,dh d=.iface j m):Calls T 50 #[b (E ⟨f,0,F⟩),l #[y K d.fl,dh d]] a λB w'=>B=g (y K 17)/\G No a w':=by
 obtain⟨j,m,hv⟩:=S;have u:G No a (a.alloc (v #[y K d.fl,.iface j m] 125)):=(G.refl _ _).alloc _;have z:=r.aD u;have s:=r.ptr;rw[hl,if_neg (by simp)] at s;rw[hv];have c:=i z;have M:=i u;have I:=i s;have J:=i A;clear r z u s hv hl A;go_enter func50,ntmps50;go_upto_region 3 with fail;generalize a.alloc (v #[y K d.fl,.iface j m] 125)=af at *
 have x:=i (qs (k c).keep.has true (by rw[oc,(k c).torn,k J]));have ad:=(k c).keep.has.lt;go_wp2_with fail;refine(k x).mono ?_;rintro B n ⟨rfl,rfl⟩;have L:=i (tg ((k c).keep.mod (G.refl No n).drew (λ_ _ w=>w)) Q hf);have H:=i λq N X P (R:G No n q)=>AY (R.has (k c).keep.has (λw=>w)) (by rw[mO,k I];rfl) N X P;clear x;go_wp2_with fail
 go_region_law (first
  |(refine lQ rfl 57 _ _ rfl #[b (E ⟨f,0,F⟩)] (by simp[Z,aP]) (λq=>by kernel_rfl) _ (k L) ?_;intro ae D t;obtain⟨O,ab,rfl⟩:=aC t.row)
  |(refine eZ rfl 79 _ _ rfl #[b (E ⟨f,30,F⟩),_] (by simp[Z,aP];try rfl) (λq=>by kernel_rfl) (y K 17) (λw'=>w'=D) ((k H) D O (ay now e).length ab ((G.refl No n).drew.trans t.mod)) ?_;rintro ag rfl))
 all_goals go_wp2
 all_goals go_ret
 all_goals exact⟨rfl,(k M).trans ((G.refl No n).drew.trans t.mod)⟩
structure vO (w W w':U) (ow:Nat->Nat) (kb:Nat) (now:Int) (pt:Nat->Option Nat) (fl:Y) (K':aO):Prop where
 ex:∃ow' pt',cW w' ow' kb now pt' fl K'/\(∀k,k<w.heap.size->ow' k=ow k)/\∀j,j<29->pt' j=pt j
 mod:G (λk=>ow k≠0) w w'
 Mz:G (λk=>ow k≠0) W w'
theorem vO.saved{i j w':U} {f:Nat->Nat} {e:Nat} {now:Int} {pt:Nat->Option Nat} {c:Y} {a:aO} (d:vO i j w' f e now pt c a):jK i w' f e now pt c a:=⟨d.ex,d.mod⟩
structure nn (now:Int) (fl:Y) (K:aO):Prop where
 zero:fl 0=F
 fit:dy 0 (dH now fl)
 byte:∀x∈ay now fl,0<=x/\x<256
 file:K.file<2
 len:(K.T.b (1 - K.file)).length+(ay now fl).length<=8796093022208
theorem Ky{n w W:U} {e:Nat->Nat} {m:Nat} {now:Int} {pt:Nat->Option Nat} {c:Y} {a:aO} (f:cW n e m now pt c a) (hl:a.live=true) (k:nn now c a) (o:G No n w) (z:G No w W) {v:V} (r:W.ownsRow 0 5 1 v (ay now c).length (cg (ay now c))) (A:∀d,v.ownBlock=E d->w.heap.size<=d):
  Calls T 79 #[b (E ⟨m,30,F⟩),v] W λt w'=>t=g (y K (bD a.T a.file (ay now c)).1)/\vO n W w' e m now pt c (cv a (bD a.T a.file (ay now c))):=by
 obtain⟨u,x,rfl⟩:=aC r;have p:=o.trans z;have j:=f.aD p;have P:=f.tape.lt;have B:e m=1:=f.keep.aW;have q:=f.ptr;rw[if_pos hl] at q;have N:=o.size;refine(Al (S:=λd=>e d=30) j.keep.has (by rw[mO,q];rfl) (by omega) j.tape a.file k.file (by rw[qu,j.file]) a.torn (by rw[oc,j.torn]) u x (ay now c) (mn r) (λJ=>by have:=A _ J;omega) k.byte (by have:=k.len;omega)).mono ?_;rintro t w' ⟨L,s⟩
 obtain⟨D,H,I⟩:=cW.A5 f hl p k.file s
 exact⟨L,⟨_,_,D,H,λO M=>tk _ _ _ _ (by omega)⟩,I,s.mod.mono (λd _ i=>by
  obtain i|i:=i
  ·show e d≠0;omega
  ·show e d≠0;rw[i,B];omega)⟩
theorem Kz{e:U} {aa:Nat->Nat} {n:Nat} {now:Int} {pt:Nat->Option Nat} {z:Y} {d:aO} (L:cW e aa n now pt z d) (hl:d.live=true) (ar:d.torn=true) (ak:nn now z d) (c:o) (hf:gN now c):Calls T 50 #[b (E ⟨n,0,F⟩),l #[y K c.fl,dh c]] e λM w'=>M=g (y K (cV d (ay now z) (ag now [c])).1)/\jK e w' aa n now pt z (cV d (ay now z) (ag now [c])).2:=by
 obtain⟨s,t,hv⟩:=pf c;have av:G No e (e.alloc (v #[y K c.fl,.iface s t] 125)):=(G.refl _ _).alloc _;have b0:=X.new e #[y K c.fl,.iface s t] 125;have aQ:e.heap.size+1<=(e.alloc (v #[y K c.fl,.iface s t] 125)).heap.size:=by simp
 have aN:aa e.heap.size=0:=by
  by_cases j:aa e.heap.size=0
  ·exact j
  ·have:=L.keep.aU _ j;omega
 have aL:=L.aD av;have a5:=i hv;rw[hv];unfold cV;rw[if_pos ar,AZ hl];simp only;obtain⟨f,P⟩:∃f,bD d.T d.file (ay now z)=f:=⟨_,rfl⟩;have I:=i λ(ab a:U) u (bc:G No e ab) (Q:G No ab a) A D=>Ky L hl ak (w:=ab) (W:=a) (v:=u) bc Q A D;rw[P] at I ⊢;have aM:f.1=0->(cv d f).live=true/\(cv d f).torn=false/\(cv d f).file<2/\((cv d f).T.b (cv d f).file).length+42<=17592186044416:=λaj=>by
  have ba:=ak.file;have bB:=ak.len;unfold cv;refine⟨by simp[aj],by simp[aj],by simp only[if_pos aj];omega,?_⟩;simp only[if_pos aj];obtain⟨_,j,_⟩|⟨j,_⟩|⟨j,_⟩:=Ap d.T ba (ay now z)
  ·rw[P] at j;rw[j,if_neg (by omega),if_pos rfl,aJ];omega
  ·rw[P] at j;omega
  ·rw[P] at j;omega
 have aD:=i aM;have x:=i aL;have bt:=i L;have aF:=i av;have aX:=i b0;have aE:=i ar;have bv:=i aQ;have a0:=i aN;have ae:=i ak;have hold:=i L.keep.aU;clear L aL av b0 hv ar P aM aQ aN;by_cases R:f.1=0
 ·rw[if_pos R];obtain⟨au,aR,bh,bG⟩:=(k aD) R;rw[R] at I;generalize cv d f=O at *;unfold gp;rw[au,if_neg (by simp)];simp only;obtain⟨J,ao⟩:∃J,fM O.T O.file (ag now [c])=J:=⟨_,rfl⟩;rw[ao];have aZ:=i ao;have aB:=i au;have bu:=i aR;clear ao au aR aD;go_enter func50,ntmps50;go_upto_region 3 with fail;generalize e.alloc (v #[y K c.fl,.iface s t] 125)=ab at *
  have N:=i (qs (k x).keep.has true (by rw[oc,(k x).torn,k aE]));have bi:=(k x).keep.has.lt;go_wp2_with fail;refine(k N).mono ?_;rintro M w ⟨rfl,rfl⟩;have af:=i (tg ((k x).keep.mod (G.refl No w).drew (λ_ _ H=>H)) (k ae).zero (k ae).fit);have ad:=i λa u (B:G No w a) A D=>(k I) w a u (k aF) B A D;clear N I;go_wp2_with fail
  go_region_law (first
   |(refine lQ rfl 57 _ _ rfl #[b (E ⟨n,0,F⟩)] (by simp[Z,aP]) (λa=>by kernel_rfl) _ (k af) ?_;intro bs ax p;obtain⟨a8,bq,rfl⟩:=aC p.row)
   |(refine eZ rfl 79 _ _ rfl #[b (E ⟨n,30,F⟩),_] (by simp[Z,aP];try rfl) (λa=>by kernel_rfl) (y K 0) _ ((k ad) ax _ ((G.refl No w).drew.trans p.mod) p.row p.new) ?_;intro q aq))
  all_goals
   obtain⟨⟨aw,bL,S,aU,aV⟩,aS,aT⟩:=aq;have ai:=aT.has (p.mod.has (k aX).drew (λH=>H)) (λj=>j (k a0));have bx:q.cell? ⟨n,0,F⟩=E (y K now):=S.keep.has.cell 0;have bJ:=S.keep.has.lt;have bz:q.cell? ⟨e.heap.size,0,F⟩=E (y K c.fl):=ai.cell 0;have bA:q.cell? ⟨e.heap.size,1,F⟩=E (.iface s t):=ai.cell 1;have bH:=ai.lt;have ap:=S.ptr;rw[k aB,if_pos rfl] at ap;have a1:=i ap;have ah:=i S;have aK:=i aU
   have a6:=i aV;have aH:=i aS;have aA:=i (X.new q #[y K c.fl,.iface s t] 125);have aI:=i ((G.refl No q).alloc (v #[y K c.fl,.iface s t] 125));have a2:=i λa (hb:X a q.heap.size #[y K c.fl,.iface s t] 125)=>uD (k a5) hf q.heap.size 1 hb;have a3:=i (yn hf);have a4:=i (uC hf)
   have aY:=i λa u (B:G No q a) (A:a.ownsRow 0 5 1 u (ag now [c]).length (cg (ag now [c]))) (D:∀m,u.ownBlock=E m->q.heap.size<=m)=>
    (show Calls T 80 #[b (E ⟨n,30,F⟩),u] a λM w'=>M=g (y K J.1)/\jK e w' aa n now pt z { O with T:=J.2,live:=J.1 !=16 } from by
     rw[<-k aZ]
     obtain⟨a7,a9,rfl⟩:=aC A
     have Q:=(k ah).aD B
     have bN:=(k ah).tape.lt
     have bE:aw n=1:=(k ah).keep.aW
     refine(ye (S:=λm=>aw m=30) Q.keep.has (by rw[mO,k a1];rfl) (by omega) Q.tape O.file bh (by rw[qu,Q.file]) a7 a9 (ag now [c]) (mn A) (λj=>by have:=D _ j;omega) (k a3) (by have:=k a4;omega)).mono ?_
     rintro M w' ⟨bk,bl,bm,aW⟩
     obtain⟨bn,bo,bp⟩:=cW.laid (k ah) B.size aW.size (k aB) bl bm ((B.mono (λ_ _ H=>H.elim)).trans aW)
     exact⟨bk,⟨_,_,bn,λm r=>(bo m (aG r (k aH).size)).trans ((k aK) m r),λbf bb=>(pd _ _ _ (by omega)).trans ((k a6) bf bb)⟩,(k aH).trans' bp (λm r hl=>by
      have r:aw m≠0:=r
      rw[(k aK) m hl] at r
      exact r)⟩)
   clear ai S aU aV aS aT ap af ad p;go_wp2_with fail
   go_region_law (first
    |(refine lQ rfl 81 _ _ rfl #[y K now,C (E ⟨q.heap.size,0,F⟩) 1 1] (by simp[Z,aP]) (λa=>by kernel_rfl) _ ((k a2) _ (by first|with_reducible exact(k aA).drew|with_reducible exact(k aA))) ?_;intro bO bP am;obtain⟨bw,bM,rfl⟩:=aC am.row)
    |(refine eZ rfl 80 _ _ rfl #[b (E ⟨n,30,F⟩),_] (by simp[Z,aP];try rfl) (λa=>by kernel_rfl) (y K J.1) _ ((k aY) _ _ ((k aI).drew.trans am.mod) am.row (λm r=>bF (k aI).size (am.new m r))) ?_;intro bQ bd))
   all_goals go_wp2
   all_goals go_ret
   all_goals exact⟨rfl,bd⟩
 ·rw[if_neg R];generalize cv d f=O at *;go_enter func50,ntmps50;go_upto_region 3 with fail;generalize e.alloc (v #[y K c.fl,.iface s t] 125)=ab at *;have N:=i (qs (k x).keep.has true (by rw[oc,(k x).torn,k aE]));have bi:=(k x).keep.has.lt;go_wp2_with fail;refine(k N).mono ?_;rintro M w ⟨rfl,rfl⟩;have af:=i (tg ((k x).keep.mod (G.refl No w).drew (λ_ _ H=>H)) (k ae).zero (k ae).fit)
  have ad:=i λa u (B:G No w a) A D=>(k I) w a u (k aF) B A D;have bC:(f.1 !=0)=true:=by simpa using R
  clear N I;go_wp2_with fail
  go_region_law (first
   |(refine lQ rfl 57 _ _ rfl #[b (E ⟨n,0,F⟩)] (by simp[Z,aP]) (λa=>by kernel_rfl) _ (k af) ?_;intro bs ax p;obtain⟨a8,bq,rfl⟩:=aC p.row)
   |(refine eZ rfl 79 _ _ rfl #[b (E ⟨n,30,F⟩),_] (by simp[Z,aP];try rfl) (λa=>by kernel_rfl) (y K f.1) _ ((k ad) ax _ ((G.refl No w).drew.trans p.mod) p.row p.new) ?_;intro q aq))
  all_goals go_wp2
  all_goals go_ret
  all_goals exact⟨rfl,aq.saved⟩
theorem KA{c:aO} {a d:List Int} (e:c.live=false):cV c a d=(17,c):=by
 unfold cV iw gp;simp[e]
theorem KB{i:U} {m:Nat->Nat} {k:Nat} {now:Int} {pt:Nat->Option Nat} {d:Y} {a:aO} (e:cW i m k now pt d a) (j:nn now d a) (hlen:(a.T.b a.file).length+42<=17592186044416) (c:o) (hf:gN now c):Calls T 50 #[b (E ⟨k,0,F⟩),l #[y K c.fl,dh c]] i λq w'=>q=g (y K (cV a (ay now d) (ag now [c])).1)/\jK i w' m k now pt d (cV a (ay now d) (ag now [c])).2:=by
 by_cases hl:a.live=true
 ·by_cases f:a.torn=true
  ·exact Kz e hl f j c hf
  ·have w:a.torn=false:=by simpa using f
   have u:cV a (ay now d) (ag now [c])=gp a (ag now [c]):=by unfold cV;rw[if_neg f]
   rw[u];exact Fv e hl w j.file hlen c hf
 ·have r:a.live=false:=by simpa using hl
  rw[KA r];have same:∀w',G No i w'->jK i w' m k now pt d a:=λw' s=>⟨⟨m,pt,e.aD s,λ_ _=>rfl,λ_ _=>rfl⟩,s.mono (λ_ _ x=>x.elim)⟩;by_cases f:a.torn=true
  ·exact(Kw e r f j.zero j.fit c (pf c)).mono (λq w' ⟨n,p⟩=>⟨n,same w' p⟩)
  ·have t:=e.ptr;rw[if_neg hl] at t;exact(Fu e.keep.has t (by rw[e.torn];simpa using f) c hf).mono (λq w' ⟨n,p⟩=>⟨n,same w' p⟩)
theorem KC{n:U} {w:Nat->Nat} {e:Nat} {now:Int} {pt:Nat->Option Nat} {d:Nat->Option (O×List B)} {k:aO} (au:cW n w e now pt d k) (ah:0<=now/\now<=4611686018427387000) (a:N) (aK:gN now (J now a)->∀c,G No n c->Calls T 50 #[b (E ⟨e,0,F⟩),l #[y K (J now a).fl,dh (J now a)]] c λx w'=>x=g (y K (cV k (ay now d) (ag now [J now a])).1)/\jK c w' w e now pt d (cV k (ay now d) (ag now [J now a])).2):
  Calls T 25 #[b (E ⟨e,0,F⟩),l (Q a)] n λi w'=>i=g (y K (dV now d k a).1)/\gH n w' w e pt (dV now d k a).2.1 (dV now d k a).2.2.1 (dV now d k a).2.2.2:=by
 have P:=au.keep;have no:∀j:Int,j≠0->(aA now d a).1=j->(∀c,G No n c->Calls T 49 #[b (E ⟨e,0,F⟩),l (Q a)] c λi w'=>i=g (refuse j)/\G No c w')->
   Calls T 25 #[b (E ⟨e,0,F⟩),l (Q a)] n λi w'=>i=g (y K (dV now d k a).1)/\gH n w' w e pt (dV now d k a).2.1 (dV now d k a).2.2.1 (dV now d k a).2.2.2:=λj ax hd s=>by
  unfold dV;rw[hd,if_pos ax];exact(Gm e a j ax n s).mono (λi w' ⟨x,af⟩=>⟨x,gH.same au af⟩)
 have ar:∀aq ak,(aA now d a)=(0,aq,ak)->gN now (J now a)->(∀c,G No n c->Calls T 49 #[b (E ⟨e,0,F⟩),l (Q a)] c λi w'=>i=g (cZ (dh (J now a)))/\G No c w')->
   (∀c o p,cF c o e now p d->Calls T 44 #[b (E ⟨e,0,F⟩),l #[y K a.m,dh (J now a)]] c λi w'=>i=g (h #[])/\lU c w' o e p aq ak)->
   Calls T 25 #[b (E ⟨e,0,F⟩),l (Q a)] n λi w'=>i=g (y K (dV now d k a).1)/\gH n w' w e pt (dV now d k a).2.1 (dV now d k a).2.2.1 (dV now d k a).2.2.2:=λaq ak hd hf s hA=>by
  obtain⟨aB,aC,hv⟩:=pf (J now a);have hS:∀c,G No n c->Calls T 50 #[b (E ⟨e,0,F⟩),l #[y K a.m,dh (J now a)]] c λx w'=>x=g (y K (cV k (ay now d) (ag now [J now a])).1)/\jK c w' w e now pt d (cV k (ay now d) (ag now [J now a])).2:=aK hf;unfold dV;rw[hd,if_neg (by simp)];rw[hv] at s hS hA;by_cases t:(cV k (ay now d) (ag now [J now a])).1=0
  ·rw[if_pos t];rw[t] at hS;refine Gp e a aB aC n (λaD=>∃o p,cW aD o e now p d (cV k (ay now d) (ag now [J now a])).2/\(∀D,D<n.heap.size->o D=w D)/\(∀A,A<29->p A=pt A)/\G (λD=>w D≠0) n aD) _ s (λc I f hb aF=>?_) (λc aI=>?_)
   ·refine(hS c f).mono ?_;rintro x w' ⟨ai,⟨o,p,R,Y,aa⟩,ab⟩;have aR:w I=0:=by
     by_cases i:w I=0
     ·exact i
     ·have:=P.aU I i;omega
    exact⟨ai,⟨o,p,R,λD M=>Y D (aG M f.size),aa,(f.mono (λ_ _ j=>j.elim)).trans ab⟩,ab.has aF (λi=>i aR)⟩
   ·obtain⟨o,p,R,Y,aa,ab⟩:=aI;refine(hA c o p R.keep).mono ?_;rintro i w' ⟨aS,aT⟩;exact⟨aS,gH.Hx P.aU ⟨o,p,R,Y,aa,aT⟩ ab⟩
  ·rw[if_neg t];refine Gn e a aB aC _ t n _ s (λc f=>(hS c f).mono ?_);rintro x w' ⟨ai,⟨o,p,R,Y,aa⟩,ab⟩;exact⟨ai,(⟨⟨o,p,R,Y,λaQ _ hi=>aa aQ hi⟩,ab⟩:gH c w' w e pt now d _).first f⟩
 by_cases S:a.kind<1\/a.kind>9
 ·exact no 1 (by omega) (by unfold aA;rw[if_pos S]) (λc _=>FM e a S c)
 by_cases z:a.kind=8
 ·have av:∀c,G No n c->∀m,G No c m->Calls T 32 #[b (E ⟨e,0,F⟩)] m λi w'=>i=g (y K now)/\w'=m:=λc f m L=>uz (P.mod (f.trans L) (λ_ _ j=>j));by_cases ad:1<=a.time/\a.time<=100
  ·refine ar _ _ (by unfold aA;rw[if_neg S,if_pos z,if_pos ad]) (zA z ad ah) (λc f=>?_) (λc o p M=>?_)
   ·rw[vj z];exact yQ e a now _ _ z c (av c f) (λm=>FJ a.time now m ad.1 ad.2 ah)
   ·rw[vj z];exact uN e a.m (now+a.time) c _ (λm L=>(uM (M.mod L (λ_ _ j=>j)) (now+a.time)).mono (λi w' ⟨x,D,af⟩=>⟨x,⟨o,p,D,λ_ _=>rfl,λ_ _=>rfl⟩,(L.mono (λ_ _ j=>j.elim)).trans af⟩))
  ·exact no 8 (by omega) (by unfold aA;rw[if_neg S,if_pos z,if_neg ad]) (λc f=>yQ e a now _ _ z c (av c f) (λm=>FK a.time now m ad))
 by_cases hf:1<=a.m/\a.m<=20
 case neg=>
  exact no 2 (by omega) (by unfold aA;rw[if_neg S,if_neg z,if_pos hf]) (λc _=>FO e a (by omega) hf c)
 have aj:((a.m.toNat:Nat):Int)=a.m:=by omega
 have hF:∀c,G No n c->∀m,G No c m->Calls T 59 #[b (E ⟨e,0,F⟩),y K a.m] m λi w'=>i=g (aL (pt a.m.toNat))/\w'=m:=λc f m L=>by
  have:=uA (P.mod (f.trans L) (λ_ _ j=>j)) a.m.toNat (by omega);rw[aj] at this;exact this
 cases X:d a.m.toNat with
 |none=>
  have ap:=P.gone _ (by omega) X;rw[ap] at hF;have r:aA now d a=if a.kind=1 then(if a.p.sized=true/\a.p.limited=true then(0,now,λA=>if A=a.m.toNat then E (a.p.at 1,q a.p) else d A) else(4,now,d)) else(2,now,d):=by
   unfold aA;rw[if_neg S,if_neg z,if_neg (by simpa using hf),X]
  by_cases u:a.kind=1
  ·rw[if_pos u] at r;by_cases hs:a.p.sized=true/\a.p.limited=true
   ·rw[if_pos hs] at r;have hA:∀c,Calls T 76 #[eb a.p] c λi w'=>i=g (h #[jf a.p,y K 0])/\G No c w':=λc=>by
     have:=xB a.p c;unfold rM at this;rw[if_pos hs] at this;exact this
    refine ar _ _ r (zy u hf hs.1 hs.2) (λc f=>?_) (λc o p M=>?_)
    ·rw[vh u];exact yR e a _ _ u hf c (hF c f) hA
    ·rw[vh u];have:=za M a.m.toNat (by omega) X a.p hs.1 hs.2;rw[aj] at this;exact this
   ·rw[if_neg hs] at r;have hA:∀c,Calls T 76 #[eb a.p] c λi w'=>i=g (h #[.nilIface,y K 4])/\G No c w':=λc=>by
     have:=xB a.p c;unfold rM at this;rw[if_neg hs] at this;exact this
    exact no 4 (by omega) (by rw[r]) (λc f=>yR e a _ _ u hf c (hF c f) hA)
  ·rw[if_neg u] at r;exact no 2 (by omega) (by rw[r]) (λc f=>FV e a (by omega) hf c (hF c f))
 |some j=>
  obtain⟨H,ae⟩:=j;obtain⟨I,ap,aw,aM⟩:=P.here _ H ae (by omega) X;rw[ap] at hF;have r:aA now d a=if a.kind=1 then(3,now,d) else if aH H ae a now=0 then(0,now,λA=>if A=a.m.toNat then E (fT H a,dg H ae a) else d A) else(aH H ae a now,now,d):=by
   unfold aA;rw[if_neg S,if_neg z,if_neg (by simpa using hf),X]
  by_cases u:a.kind=1
  ·rw[if_pos u] at r;exact no 3 (by omega) (by rw[r]) (λc f=>FU e I a u hf c (hF c f))
  ·rw[if_neg u] at r;have s:∀c,G No n c->∀m,G No c m->Calls T 77 #[b (E ⟨I,0,F⟩),l (Q a),y K now] m λi w'=>i=g (jH H ae a now)/\G No m w':=λc f m L=>by
    obtain⟨af,es,aU,ai,R,Y,aa,ab,aV⟩:=aM.aD (f.trans L);exact El ⟨ai,R,Y,aa⟩ aw a now ah (by omega)
   unfold jH at s;have ao:2<=a.kind/\a.kind<=9/\a.kind≠8:=by omega
   by_cases t:aH H ae a now=0
   ·rw[if_pos t] at s r;refine ar _ _ r (zC ao hf aw ah t) (λc f=>?_) (λc o p M=>?_)
    ·rw[vm ao];exact yS e I a now _ _ _ (by omega) hf c (f.has P.has (λj=>j)) rfl (hF c f) (s c f)
    ·rw[vm ao];by_cases am:a.kind=9
     ·have:=zd M a.m.toNat (by omega) X a am t;rw[aj] at this;exact this
     have:=yU M a.m.toNat (by omega) X ah a (by omega) t am;rw[aj] at this;refine this.mono ?_;rintro i w' ⟨x,aN,af⟩;have aE:fT H a=H.next:=by unfold fT;rw[if_neg am]
     rw[aE];exact⟨x,⟨o,p,aN,λ_ _=>rfl,λ_ _=>rfl⟩,af⟩
   ·rw[if_neg t] at s r;exact no _ t (by rw[r]) (λc f=>yS e I a now _ _ _ (by omega) hf c (f.has P.has (λj=>j)) rfl (hF c f) (s c f))
theorem tm{f:U} {j:Nat->Nat} {e:Nat} {now:Int} {pt:Nat->Option Nat} {d:Y} {a:aO} (i:cW f j e now pt d a) (o:0<=now/\now<=4611686018427387000) (m:nn now d a) (hlen:(a.T.b a.file).length+42<=17592186044416) (c:N):Calls T 25 #[b (E ⟨e,0,F⟩),l (Q c)] f λk w'=>k=g (y K (dV now d a c).1)/\gH f w' j e pt (dV now d a c).2.1 (dV now d a c).2.2.1 (dV now d a c).2.2.2:=
 KC i o c (λhf p n=>KB (i.aD n) m hlen _ hf)
def eR(now:Int) (c:Y) (a:aO):Int×aO:=
 if a.live=false then(17,a) else if (a.T.b a.file).length<=(ay now c).length then(0,a) else((bD a.T a.file (ay now c)).1,cv a (bD a.T a.file (ay now c)))
theorem KD{d:U} {o:Nat->Nat} {f:Nat} {now:Int} {pt:Nat->Option Nat} {c:Y} {a:aO} (e:cW d o f now pt c a) (n:nn now c a):Calls T 30 #[b (E ⟨f,0,F⟩)] d λD w'=>D=g (y K (eR now c a).1)/\jK d w' o f now pt c (eR now c a).2:=by
 have ah:=e.keep.has.lt;have P:=i (tg (e.keep.mod (G.refl No d).drew (λ_ _ I=>I)) n.zero n.fit);obtain⟨r,H⟩:∃r,eR now c a=r:=⟨_,rfl⟩;rw[H];have M:G No d d.drew:=(G.refl No d).drew;have z:∀m x,G No d m->m.ownsRow 0 5 1 x (ay now c).length (cg (ay now c))->(∀q,x.ownBlock=E q->d.heap.size<=q)->Calls T 56 #[b (E ⟨f,30,F⟩),x] m λO w'=>O=g (y K r.1)/\jK d w' o f now pt c r.2:=by
  rw[<-H];intro m x u N R;unfold eR;obtain⟨A,B,rfl⟩:=aC N;have j:=e.aD u;have same:∀w',G No m w'->jK d w' o f now pt c a:=λw' L=>⟨⟨o,pt,e.aD (u.trans L),λ_ _=>rfl,λ_ _=>rfl⟩,(u.trans L).mono (λ_ _ I=>I.elim)⟩;by_cases hl:a.live=false
  ·rw[if_pos hl];have p:=e.ptr;rw[hl,if_neg (by simp)] at p;exact(Ks j.keep.has (by rw[mO,p];rfl) A _ B).mono (λD w' ⟨s,t⟩=>⟨s,same w' t⟩)
  rw[if_neg hl];have J:a.live=true:=by simpa using hl
  have p:=e.ptr;rw[if_pos J] at p;by_cases hs:(a.T.b a.file).length<=(ay now c).length
  ·rw[if_pos hs];exact(Kt j.keep.has (by rw[mO,p];rfl) j.tape a.file n.file (by rw[qu,j.file]) A _ B hs).mono (λD w' ⟨s,t⟩=>⟨s,same w' t⟩)
  rw[if_neg hs];have am:=e.tape.lt;have aj:o f=1:=e.keep.aW;refine(Ku (S:=λq=>o q=30) j.keep.has (by rw[mO,p];rfl) (by omega) j.tape a.file n.file (by rw[qu,j.file]) a.torn (by rw[oc,j.torn]) A B (ay now c) (mn N) (λad=>by have:=R _ ad;omega) n.byte (by have:=n.len;omega) hs).mono ?_;rintro O w' ⟨s,t⟩;obtain⟨X,aa,ab⟩:=cW.A5 e J u n.file t;exact⟨s,⟨_,_,X,aa,λai ag=>tk _ _ _ _ (by omega)⟩,ab⟩
 have z:=i z;clear e H;go_enter func30,ntmps30;go_wp2_with fail
 go_region_law (first
  |(refine lQ rfl 57 _ _ rfl #[b (E ⟨f,0,F⟩)] (by simp[Z,aP]) (λm=>by kernel_rfl) _ (k P) ?_;intro ao ae w;obtain⟨af,ak,rfl⟩:=aC w.row)
  |(refine eZ rfl 56 _ _ rfl #[b (E ⟨f,30,F⟩),_] (by simp[Z,aP];try rfl) (λm=>by kernel_rfl) (y K r.1) _ ((k z) ae _ (M.trans w.mod) w.row (λq Q=>bF M.size (w.new q Q))) ?_;intro ap S))
 all_goals go_wp2
 all_goals go_ret
 all_goals exact⟨rfl,S⟩
theorem tp:∀(a:List o) {c:List o} {now i j:Int} {f f1 f2:Y},iB now f a i f1->iB i f1 c j f2->iB now f (a++c) j f2
 |[],c,_,_,_,_,_,_,d,e=>by obtain⟨rfl,rfl⟩:=d;exact e
 |q::a,c,_,_,_,_,_,_,d,e=>by
  obtain⟨p,k,m,n⟩:=d;exact⟨p,k,m,tp a n e⟩
theorem tq{now a:Int} {d f1:Y} {c:o} (e:sV now d c a f1):iB now d [c] a f1:=⟨a,f1,e,rfl,rfl⟩
theorem dy.append:∀ {a d:List o} {now:Int},dy now a->dy (fE now a) d->dy now (a++d)
 |[],_,_,_,c=>c
 |f::a,d,now,c,e=>⟨c.1,dy.append c.2 e⟩
theorem A6:∀(a c:List o) (now:Int),fE now (a++c)=fE (fE now a) c
 |[],_,_=>rfl
 |d::a,c,now=>A6 a c (fm now d)
theorem A7:∀(a:List o) (now:Int),a.foldl fm now=fE now a
 |[],_=>rfl
 |c::a,now=>A7 a (fm now c)
theorem KE{p:O} {a:List B} (d:L p a) (j:∀i∈a,i.st=0):q p=a:=by
 apply List.ext_getElem
 ·exact sU d
 ·intro c n e;have f:=d.place c e;have hs:=j a[c] (dD e);have hb:=(d.cQ a[c] (dD e)).bare (.inl hs);simp only at f;simp only[q,List.getElem_map,List.getElem_range];rw[<-f.1,<-f.2];generalize a[c]=i at *;obtain⟨r,k,st,o,m,s⟩:=i;simp only at hs hb;rw[hs,hb.1,hb.2.1,hb.2.2]
theorem KF{p:O} (a:p.ep=1):p.at 1=p:=by
 obtain⟨c,d,e,f,i,k,m,j⟩:=p;simp only at a;subst a;rfl
def below(c:Y) (d:Nat):Y:=λa=>if a<d then c a else F
theorem KG(a:Y):below a 0=eO:=by
 funext c;unfold below eO;rw[if_neg (by omega)]
theorem KH{c:Y} {a:Nat} (i:c a=F):below c (a+1)=below c a:=by
 funext e;unfold below;by_cases f:e=a
 ·subst f;rw[if_pos (by omega),if_neg (by omega),i]
 ·by_cases d:e<a
  ·rw[if_pos (by omega),if_pos d]
  ·rw[if_neg (by omega),if_neg d]
theorem KI{c:Y} {a:Nat} {f:O×List B} (i:c a=E f):below c (a+1)=λj=>if j=a then E f else below c a j:=by
 funext j;unfold below;by_cases d:j=a
 ·subst d;rw[if_pos (by omega),if_pos rfl,i]
 ·rw[if_neg d];by_cases e:j<a
  ·rw[if_pos (by omega),if_pos e]
  ·rw[if_neg (by omega),if_neg e]
theorem A8{p now:Int} {e:Y} (f:bh p now e):∀a,iB 0 eO (ev now e a) now (below e a)
 |0=>by
  rw[KG];unfold ev;by_cases m:0<now
  ·rw[if_pos m];refine tq (.inr (.inl ⟨?_,λ_=>rfl,rfl,by omega⟩));unfold canon;rfl
  ·rw[if_neg m];have:=f.time;exact⟨by omega,rfl⟩
 |a+1=>by
  have o:=A8 f a
  cases c:e a with
  |none=>rw[oE c,KH c];exact o
  |some t=>
   obtain⟨d,k⟩:=t;have j:=f.wf a d k c;have n:1<=a/\a<=20:=by
    by_cases s:a=0\/20<a
    ·rw[f.gP a s] at c;cases c
    ·omega
   have hb:below e a a=F:=if_neg (by omega);rw[pE c,KI c];refine tp _ o (tq ?_);by_cases i:d.ep=1
   ·refine .inl ⟨⟨1,a,0,0,0,0,0,0,0,d⟩,?_,?_⟩
    ·have q:canon (dq a (d,k))=ph a d:=by unfold canon dq;simp only[if_pos i];rfl
     rw[q];rfl
    ·unfold aA;rw[if_neg (by simp),if_neg (by simp),if_neg (by simp;omega)];have r:((a:Nat):Int).toNat=a:=by omega
     simp only[r,hb,if_true];rw[if_pos ⟨j.sized,j.limited⟩,KF i,KE j (f.one a d k c i)]
   ·refine .inr (.inr ⟨a,d,k,?_,n.1,n.2,hb,j,rfl,rfl⟩);unfold canon dq;simp only[if_neg i];rfl
theorem KJ(now:Int) (a:Nat) (c:O×List B):fm now (dq a c)=now:=by
 unfold fm dq;simp only;rw[if_neg (by split<;>omega)]
theorem tu{j now:Int} {c:Y} (d:bh j now c):∀a,fE 0 (ev now c a)=now
 |0=>by
  unfold ev;by_cases e:0<now
  ·rw[if_pos e];rfl
  ·rw[if_neg e];have:=d.time;show(0:Int)=now;omega
 |a+1=>by
  have i:=tu d a
  cases f:c a with
  |none=>rw[oE f];exact i
  |some k=>
   rw[pE f,A6,i];exact KJ now a k
theorem A9{p:O} (c:p.limited=true) (a:Nat):0<=p.aZ a/\p.aZ a<16384:=by
 simp only[O.limited,decide_eq_true_eq] at c;unfold O.aZ;split<;>omega
theorem A'{r now:Int} {m:Y} (i:bh r now m) {c:Nat} (z:c<32) {p:O} {d:List B} (k:m c=E (p,d)):lT now (dq c (p,d)):=by
 have j:=i.wf c p d k;have hb:=j.bounds;have hl:=A9 j.limited;have w:=i.ep c p d k;have u:=i.lY;have A:=i.time;simp only at hb hl;by_cases n:p.ep=1
 ·have o:(dq c (p,d)).kind=1:=by unfold dq;simp[n]
  exact⟨by omega,λ_=>⟨by omega,λ_=>⟨by show(0:Int)<=c;omega,by show(c:Int)<32;omega⟩,λ_=>⟨by show 0<=p.rows/\p.rows<128;omega,by show 0<=p.w/\p.w<128;omega,by show 0<=p.front/\p.front<128;omega,hl⟩,λa=>by omega,λa=>by omega,λa=>by omega,λa=>by omega,λa=>by omega⟩,λa=>by omega,λa=>by omega,λa=>by omega,λa=>by omega⟩
 ·have o:(dq c (p,d)).kind=7:=by unfold dq;simp[n]
  have hlen:=aM.wf.gU j;have x:=oZ (λe:B=>e.st !=0) d;simp only at hlen
  refine⟨by omega,λa=>absurd o a,λa=>by omega,λ_=>⟨by show(0:Int)<=c;omega,by show(c:Int)<32;omega⟩,λ_=>⟨by show 0<=p.rows/\p.rows<128;omega,by show 0<=p.w/\p.w<128;omega,by show 0<=p.front/\p.front<128;omega,hl,by show 0<=p.ep;omega,by show p.ep<=4611686018427387904;omega⟩,λ_=>⟨by show(d.filter _).length<=120;omega,λe hs=>?_⟩⟩;have hs:e∈d.filter (λe=>e.st !=0):=hs;have q:=zX j e hs
  have t:=(List.mem_filter.1 hs).1;have s:=q.2;simp only[O.has,decide_eq_true_eq] at s;have f:=q.1;have:=f.kW;have:=f.s1;have:=f.kX;have:=f.c1;have:=f.pa;have:=f.un;exact⟨⟨by omega,by omega,by omega,by omega,by omega,λa=>by have:=i.hold c p d k e t a;omega,by omega⟩,f⟩
theorem vP{k now:Int} {e:Y} (d:bh k now e):∀c,c<=21->dy 0 (ev now e c)
 |0,_=>by
  unfold ev;have o:=d.time;have m:=d.lY;by_cases i:0<now
  ·rw[if_pos i]
   refine⟨⟨by show(1:Int)<=6/\(6:Int)<=7;omega,λ_=>⟨by show(1:Int)<=6/\(6:Int)<=6;omega,λa=>absurd rfl a,λa=>absurd a (by show ¬(6:Int)=1;omega),λa=>absurd a (by show ¬(6:Int)=2;omega),λa=>absurd a (by show ¬((6:Int)=3\/(6:Int)=4);omega),λa=>absurd a (by show ¬(6:Int)=4;omega),λa=>absurd a (by show ¬(6:Int)=5;omega),λ_=>⟨by omega,by show 0<=now;omega,by show now<=4611686018427387904;omega⟩⟩,λa=>absurd a (by show ¬(6:Int)=2;omega),λa=>absurd a (by show ¬(6:Int)=7;omega),λa=>absurd a (by show ¬(6:Int)=7;omega),λa=>absurd a (by show ¬(6:Int)=7;omega)⟩,trivial⟩
  ·rw[if_neg i];trivial
 |c+1,n=>by
  have j:=vP d c (by omega)
  cases f:e c with
  |none=>rw[oE f];exact j
  |some p=>
   rw[pE f];refine dy.append j ⟨?_,trivial⟩;rw[tu d c];exact A' d (by omega) f
theorem KK{p:O} (a:p.rows<16384/\p.w<16384/\p.front<16384/\∀c,p.aZ c<16384):(gA p).length<=14:=by
 have j:=gW a.1;have k:=gW a.2.1;have m:=gW a.2.2.1;have d:=gW (a.2.2.2 0);have e:=gW (a.2.2.2 1);have f:=gW (a.2.2.2 2);have i:=gW (a.2.2.2 3);simp only[O.aZ] at d e f i;unfold gA jC;simp only[aJ];omega
theorem KL{now:Int} {a:B} (e:jJ now a):(gi now a).length<=15:=by
 obtain⟨m,n,o,p,q,r,s⟩:=e;have f:=gW (x:=(a.row - 1)* 6+a.P - 1) (by omega);have i:=gW (x:=a.st* 4+a.cl) (by omega);have c:=gW (x:=a.pa) (by omega);have d:=(dk (a.un - now)).2;unfold gi eV;simp only[aJ];have j:(if a.st=3 then[] else aN a.pa).length<=2:=by
  split
  ·simp
  ·exact c
 have k:(if a.st=1 then aN (a.un - now) else[]).length<=9:=by
  split
  ·exact d
  ·simp
 omega
theorem Ba{now:Int}:∀ {ss:List B},(∀c∈ss,jJ now c)->(fK now ss).length<=15* ss.length
 |[],_=>by simp[fK]
 |c::ss,d=>by
  have a:=KL (d c (by simp));have i:=Ba (ss:=ss) (λf e=>d f (oM _ e));simp only[fK,aJ,dP];omega
theorem KM{o now:Int} {e:Y} (f:bh o now e) {c:Nat} (r:c<32) {p:O} {a:List B} (n:e c=E (p,a)):(fk now (dq c (p,a))).length<=60+30* ba a:=by
 have hf:=A' f r n;have m:=f.wf c p a n;have hb:=m.bounds;have hl:=A9 m.limited;simp only at hb hl;have w:(gA p).length<=14:=KK ⟨by omega,by omega,by omega,λc=>(hl c).2⟩;by_cases i:p.ep=1
 ·have j:(dq c (p,a)).kind=1:=by unfold dq;simp[i]
  have:=rX (hf.c (by omega));omega
 ·have j:(dq c (p,a)).kind=7:=by unfold dq;simp[i]
  have k:=hf.w j;have t:=Ba (λd hs=>(k.2 d hs).1);have u:(dq c (p,a)).S.length=ba a:=by
   show(a.filter λd=>d.st !=0).length=a.countP λd=>d.st !=0;rw[List.countP_eq_length_filter]
  have s:=(dk p.ep).2;have hc:=gW (x:=((dq c (p,a)).S.length:Int)) (by have:=k.1;omega);unfold fk;rw[if_neg (by omega),if_neg (by omega),if_neg (by omega),if_neg (by omega),if_neg (by omega),if_neg (by omega)];unfold jD;simp only[dP,aJ];have q:(dq c (p,a)).p=p:=rfl;rw[q];omega
def dL(a:Y):Nat->Int
 |0=>200
 |c+1=>dL a c+(match a c with|none=>0|some d=>60+30* (ba d.2:Int))
theorem vQ(c:Y):∀a,200<=dL c a
 |0=>by unfold dL;omega
 |a+1=>by
  have:=vQ c a;unfold dL;split
  ·omega
  ·rename_i d _;have:(0:Int)<=ba d.2:=Int.natCast_nonneg _;show 200<=dL c a+(60+30* (ba d.2:Int));omega
theorem Bb{k now:Int} {d:Y} (e:bh k now d):∀a,a<=21->((fq 0 (ev now d a)).length:Int)<=dL d a - 100
 |0,_=>by
  unfold ev dL;by_cases j:0<now
  ·rw[if_pos j];have:=(dk (now - 0)).2;show((192::aN (now - 0)++[]).length:Int)<=_;simp only[dR,dP];omega
  ·rw[if_neg j];show((0:Nat):Int)<=_;omega
 |a+1,o=>by
  have p:=Bb e a (by omega)
  cases c:d a with
  |none=>
   rw[oE c];unfold dL;rw[c];simp only;omega
  |some n=>
   obtain⟨i,f⟩:=n;have hl:=KM e (by omega) c;rw[pE c,yh,A7,tu e a];have m:fq now [dq a (i,f)]=fk now (dq a (i,f)):=by show fk now (dq a (i,f))++[]=_;rw[dR]
   rw[m,aJ];unfold dL;rw[c];simp only;omega
theorem tw{c now:Int} {a:Y} (d:bh c now a):((ay now a).length:Int)<=dL a 21:=by
 have e:=Bb d 21 (by omega);have i:=vQ a 21;rw[jr] at e;have f:=nj now a 21;rw[jr] at f;have j:=gW (x:=((dH now a).length:Int)) (by omega);unfold ay;split
 ·simp;omega
 ·unfold ag;simp only[aJ,dP,im];omega
theorem Bc{now:Int}:∀ {c:List B},(∀a∈c,jJ now a)->∀e∈fK now c,jg e
 |[],_=>all_nil
 |a::c,d=>dT (yk (d a (by simp))) (Bc (λi f=>d i (oM _ f)))
theorem KN{now:Int} {e:o} (a:lT now e):∀f∈fk now e,jg f:=by
 by_cases c:e.kind=7
 ·obtain⟨q,r,s,d,t,u⟩:=a.p c;obtain⟨w,p⟩:=a.w c;have hf:=a.fl c;have i:=d 0;have j:=d 1;have k:=d 2;have m:=d 3;simp only[O.aZ] at i j k m;unfold fk;rw[if_neg (by omega),if_neg (by omega),if_neg (by omega),if_neg (by omega),if_neg (by omega),if_neg (by omega)];refine all_cons ⟨by omega,by omega⟩ ?_;unfold jD gA jC
  exact dT (dT (dT (dT (dT (dT (dT (dT (dT (dG (by omega)) (dG (by omega))) (dG (by omega))) (dG (by omega))) (dG (by omega))) (dG (by omega))) (dG (by omega))) (dG (by omega))) (dG (by omega))) (Bc (λn hs=>(p n hs).1))
 ·exact ym (a.c c)
theorem Bd:∀ {es:List o} {now:Int},dy now es->∀c∈fq now es,jg c
 |[],_,_=>all_nil
 |d::es,now,a=>dT (KN a.1) (Bd a.2)
theorem Be{e now:Int} {a:Y} (f:bh e now a):∀c∈ay now a,0<=c/\c<256:=by
 have i:=nj now a 21;rw[jr] at i;have d:=vP f 21 (by omega);rw[jr] at d;unfold ay;split
 ·exact all_nil
 ·unfold ag;exact dT (dT (dG (by omega)) (Bd d)) (all_cons ⟨by omega,by omega⟩ all_nil)
theorem Bf{f now:Int} {a:Y} (c:bh f now a):iB 0 eO (dH now a) now a:=by
 have:=A8 c 21;rw[jr] at this;have i:below a 21=a:=by
  funext e;unfold below;by_cases d:e<21
  ·rw[if_pos d]
  ·rw[if_neg d,c.gP e (by omega)]
 rw[i] at this;exact this
theorem pG{d now:Int} {a:Y} (e:bh d now a):dy 0 (dH now a):=by
 have c:=vP e 21 (by omega);rw[jr] at c;exact c
theorem Bg{d now:Int} {a:Y} (e:bh d now a):fE 0 (dH now a)=now:=by
 have c:=tu e 21;rw[jr] at c;exact c
theorem tx{p now u:Int} {f fl':Y} {a:N} (k:bh p now f) (hd:aA now f a=(0,u,fl')):lT now (J now a):=by
 have A:=k.time;have x:=k.lY;have z:=vz now a;have hc:=Kl (now:=now) (fl:=f) (c:=a) (by omega) (λt e d _ j=>k.wf t e d j) (by rw[hd]);refine⟨by omega,λ_=>hc,λm=>?_,λj=>by omega,λj=>by omega,λj=>by omega⟩;have s:a.kind=2\/a.kind=3\/a.kind=6:=by
  unfold J at m;simp only at m
  repeat' split at m
  all_goals omega
 have r:∃e d,f a.m.toNat=E (e,d)/\aH e d a now=0:=by
  unfold aA at hd;rw[if_neg (by omega),if_neg (by omega)] at hd;by_cases hf:1<=a.m/\a.m<=20
  case neg=>rw[if_pos hf] at hd;exact absurd hd (by simp)
  rw[if_neg (by simpa using hf)] at hd
  cases o:f a.m.toNat with
  |none=>rw[o] at hd;simp only at hd;rw[if_neg (by omega)] at hd;exact absurd hd (by simp)
  |some w=>
   obtain⟨e,d⟩:=w;rw[o] at hd;simp only at hd;rw[if_neg (by omega)] at hd;by_cases i:aH e d a now=0
   ·exact⟨e,d,rfl,i⟩
   ·rw[if_neg i] at hd;exact absurd (congrArg (·.1) hd) i
 obtain⟨e,d,_,i⟩:=r;obtain⟨_,_,_,n,q⟩:=qC i (by omega);obtain c|c|c:=s
 ·have hs:(J now a).bV=⟨a.j,a.ac,1,a.aI,a.cls,a.time⟩:=by unfold J;simp[c]
  have hb:=jV (n c).1;have B:=n c;rw[hs];exact⟨by simp,by simp,by simp only;omega,by simp only;omega,by simp,by simp only;omega,by simp only;omega,by simp⟩
 ·have hs:(J now a).bV=⟨a.j,a.ac,2,a.aI,a.cls,0⟩:=by unfold J;simp[c]
  have hb:=jV (q c);rw[hs];exact⟨by simp,by simp,by simp only;omega,by simp only;omega,by simp,by simp only;omega,by simp,by simp⟩
 ·have hs:(J now a).bV=⟨a.j,a.ac,3,0,0,0⟩:=by unfold J;simp[c]
  rw[hs];exact⟨by simp,by simp,by simp,by simp,by simp,by simp,by simp,by simp⟩
end Go.Proofs.YthhibagcpjeihaaGreat
