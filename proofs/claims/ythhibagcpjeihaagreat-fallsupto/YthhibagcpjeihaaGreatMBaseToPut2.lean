import Derived.Test.YthhibagcpjeihaaGreatRows
import Derived.WalkKit
import Derived.ProofKit
import Derived.Deep.RegionLawGrows
import Derived.BigQuiet
import Derived.Deep.QuietTactic
import Derived.WideKeyArgs
import Derived.DeepKeys4
import Derived.MapViews
import Derived.Deep.DeepCutAuto
open Go.Proofs.Tryz
open Go.Value renaming int->y,pointer->b,slice->C,bool->W,agg->l,tuple->h,ownBlock->az
open Go.IntKind renaming i64->K
open Option renaming none->F,some->E
open Go renaming World->U,Value->V
open Go.Proofs.Tryz renaming prog->T,underlying162->ld
open Go.Ending renaming returned->g
open Go.Obj renaming cells->v
open Nat renaming lt_of_lt_of_le->aG,le_trans->bF,le_refl->bK
open Go.World renaming size_alloc->bj
open List renaming getElem_mem->dD,getElem_of_mem->iP,countP_le_length->mg,findIdx?_eq_none_iff->oR,countP_cons->kh,find?_cons->kZ,mem_cons_self->nG,getElem_set->mi,mem_cons_of_mem->oM
open Int renaming mul_nonneg->iK,eq_ofNat_of_zero_le->oS
open Bool renaming false_eq_true->kg,and_eq_true->kY
open Go.Instr renaming index->gz,lookup->iO
open Array renaming getElem?_setIfInBounds->pQ
namespace Go.Proofs.YthhibagcpjeihaaGreat
open Go.RowKit
theorem i{p:Prop} (a:p):Hid p:=a
theorem k{p:Prop} (a:Hid p):p:=a
def X(d:U) (c:Nat) (cs:Array V) (a:TypeId):Prop:=d.heap[c]? =E (v cs a (0,0))
theorem X.cell{e:U} {a:Nat} {cs:Array V} {f:TypeId} (c:X e a cs f) (d:Nat):e.cell? ⟨a,d,F⟩=cs[d]? :=by
 unfold X at c;simp[World.cell?,c]
theorem X.frozen{d:U} {a:Nat} {cs:Array V} {T:TypeId} (c:X d a cs T) (e:Nat):d.frozen? ⟨a,e,F⟩=false:=by
 unfold X at c;simp[World.frozen?,c]
theorem X.lt{c:U} {a:Nat} {cs:Array V} {d:TypeId} (e:X c a cs d):a<c.heap.size:=(Array.getElem?_eq_some_iff.1 e).1
theorem X.ne{f:U} {d b':Nat} {cs cs':Array V} {c T':TypeId} (e:X f d cs c) (a:X f b' cs' T') (j:c≠T'):d≠b':=by
 rintro rfl;unfold X at e a;rw[e] at a;injection a with a;injection a with _ i;exact j i
structure G (S:Nat->Prop) (w w':U):Prop where
 os:w'.os=w.os
 tape:w'.tape=w.tape
 output:w'.output=w.output
 size:w.heap.size<=w'.heap.size
 block:∀k,k<w.heap.size->¬S k->w'.heap[k]? =w.heap[k]?
def No:Nat->Prop:=λ_=>False
theorem G.refl(S:Nat->Prop) (a:U):G S a a:=⟨rfl,rfl,rfl,bK _,λ_ _ _=>rfl⟩
theorem G.trans{S:Nat->Prop} {a e f:U} (c:G S a e) (d:G S e f):G S a f:=
 ⟨d.os.trans c.os,d.tape.trans c.tape,d.output.trans c.output,bF c.size d.size,
  λi hi hs=>(d.block i (aG hi c.size) hs).trans (c.block i hi hs)⟩
theorem G.trans'{S S':Nat->Prop} {a f i:U} (d:G S a f) (e:G S' f i) (hS:∀c,S' c->c<a.heap.size->S c):G S a i:=
 ⟨e.os.trans d.os,e.tape.trans d.tape,e.output.trans d.output,bF d.size e.size,
  λc hi hs=>(e.block c (aG hi d.size) (λj=>hs (hS c j hi))).trans (d.block c hi hs)⟩
theorem G.mono{S S':Nat->Prop} {a e:U} (d:G S a e) (hS:∀c,c<a.heap.size->S c->S' c):G S' a e:=
 ⟨d.os,d.tape,d.output,d.size,λc hi hs=>d.block c hi (λf=>hs (hS c hi f))⟩
theorem G.drew{S:Nat->Prop} {a d:U} (c:G S a d):G S a d.drew:=⟨c.os,c.tape,c.output,c.size,c.block⟩
theorem G.drewN{S:Nat->Prop} {a d:U} (c:G S a d) (e:Nat):G S a (d.drewN e):=⟨c.os,c.tape,c.output,c.size,c.block⟩
theorem G.alloc{S:Nat->Prop} {a w:U} (c:G S a w) (e:Obj):G S a (w.alloc e):=
 c.trans ⟨rfl,rfl,rfl,by simp,λf d _=>Below.heap_alloc _ _ _ d⟩
theorem G.setCell{S:Nat->Prop} {a e:U} (f:G S a e) {p:Addr} (c:S p.block\/a.heap.size<=p.block) (j:V):G S a (e.setCell p j):=
 f.trans' (S':=λd=>d=p.block) ⟨rfl,rfl,rfl,by simp,λd _ i=>Below.heap_setCell _ _ _ _ i⟩
  (λk hi hl=>by subst hi;obtain c|c:=c;exact c;omega)
theorem G.grown{S:Nat->Prop} {a w w':U} {row:Option Nat} (f:G S a w) (d:w.grownBy w' row) (k:∀c,row=E c->S c\/a.heap.size<=c):G S a w':=
 f.trans' (S':=λc=>E c=row) ⟨d.os,d.tape,d.output,d.size,λc i j=>d.block c i j⟩
  (λm hi hl=>by obtain e|e:=k m hi.symm;exact e;omega)
theorem G.has{S:Nat->Prop} {d w':U} (e:G S d w') {a:Nat} {cs:Array V} {c:TypeId} (hb:X d a cs c) (hs:¬S a):X w' a cs c:=by
 unfold X;rw[e.block a hb.lt hs];exact hb
theorem G.owns{S:Nat->Prop} {k w':U} (n:G S k w') {base:Nat} {d:TypeId} {size:Nat} {c:V} {j:Nat} {xs:List V} (f:k.ownsRow base d size c j xs) (hs:∀i,c.ownBlock=E i->¬S i):w'.ownsRow base d size c j xs:=by
 refine⟨f.1,?_⟩;obtain o|⟨a,cap,m,rfl,hb,e,rest⟩:=f.2
 ·exact .inl o
 ·exact .inr ⟨a,cap,m,rfl,hb,by rw[n.block a (Array.getElem?_eq_some_iff.1 e).1 (hs a rfl)];exact e,rest⟩
theorem G.below{c w':U} (a:G No c w'):Below c.heap.size c w':=⟨a.os,a.tape,a.output,a.size,λe d=>a.block e d (λf=>f)⟩
theorem X.alloc{w:U} {c:Nat} {cs:Array V} {a:TypeId} (d:X w c cs a) (e:Obj):X (w.alloc e) c cs a:=by
 unfold X;rw[Below.heap_alloc _ _ _ d.lt];exact d
theorem X.new(a:U) (cs:Array V) (c:TypeId):X (a.alloc (v cs c)) a.heap.size cs c:=by
 unfold X;exact heap_alloc_new a _
theorem X.drew{d:U} {c:Nat} {cs:Array V} {a:TypeId} (e:X d c cs a):X d.drew c cs a:=e
theorem X.drewN{d:U} {c:Nat} {cs:Array V} {a:TypeId} (e:X d c cs a) (f:Nat):X (d.drewN f) c cs a:=e
theorem X.set{f:U} {a:Nat} {cs:Array V} {T:TypeId} (c:X f a cs T) (d:Nat) (e:V):X (f.setCell ⟨a,d,F⟩ e) a (cs.setIfInBounds d e) T:=by
 unfold X at c ⊢;simp[World.setCell,Array.getElem?_modify,c]
theorem X.dB{e:U} {c:Nat} {cs:Array V} {d:TypeId} (f:X e c cs d) {a:Addr} (i:c≠a.block) (j:V):X (e.setCell a j) c cs d:=by
 unfold X;rw[Below.heap_setCell _ _ _ _ i];exact f
theorem gT{i:U} {base:Nat} {c:TypeId} {size:Nat} {d:V} {f:Nat} {xs:List V} (e:i.ownsRow base c size d f xs) {a:Addr} (m:d.ownBlock≠E a.block) (p:V):(i.setCell a p).ownsRow base c size d f xs:=by
 refine⟨e.1,?_⟩;obtain o|⟨k,cap,j,rfl,hb,n,rest⟩:=e.2
 ·exact .inl o
 ·refine .inr ⟨k,cap,j,rfl,hb,?_,rest⟩;rw[Below.heap_setCell _ _ _ _ (by intro c;exact m (by simp[az,c]))];exact n
end Go.Proofs.YthhibagcpjeihaaGreat
namespace Go.Proofs.YthhibagcpjeihaaGreat.M
structure B where
 row:Int
 P:Int
 st:Int
 pa:Int
 cl:Int
 un:Int
structure O where
 rows:Int
 w:Int
 front:Int
 I:Int
 R:Int
 n:Int
 f:Int
 ep:Int
structure aM where
 num:Int
 p:O
 S:List B
 ep:Int
structure N where
 kind:Int
 m:Int
 j:Int
 ac:Int
 bN:Int
 bO:Int
 aI:Int
 cls:Int
 time:Int
 p:O
def fI(a:Int):Int:=Go.IntKind.i64.wrap (a+1)
theorem pO(a:Int):Go.IntKind.i64.wrap (a+1)=fI a:=rfl
def O.next(p:O):O:=⟨p.rows,p.w,p.front,p.I,p.R,p.n,p.f,fI p.ep⟩
def O.at(p:O) (a:Int):O:=⟨p.rows,p.w,p.front,p.I,p.R,p.n,p.f,a⟩
def O.aZ(p:O):Nat->Int
 |0=>p.I
 |1=>p.R
 |2=>p.n
 |_=>p.f
def B.cX(a:B):Bool:=a.st==1||a.st==2
def B.aS(a:B):B:=⟨a.row,a.P,0,0,0,0⟩
def cY(a:List B):Nat:=a.countP λc=>c.st==0
def iJ(p:O) (c:Bool) (st:Int) (d:List B):Nat:=d.countP λa=>(decide (a.row<=p.front)==c)&&a.st==st
def gd(c:Int) (d:List B):Nat:=d.countP λa=>a.cX&&a.cl==c
def dN(c:Int) (d:List B):Nat:=d.countP λa=>a.cX&&decide (c<=a.cl)
def nE(p:O) (a:List B):Nat->Int
 |0=>min (cY a:Int) (p.aZ 0 - dN 0 a)
 |c+1=>min (nE p a c) (p.aZ (c+1) - dN ((c:Int)+1) a)
def leftOf(p:O) (c:List B) (a:Nat):Int:=max (nE p c a) 0
def O.sized(p:O):Bool:=decide (1<=p.rows/\p.rows<=20/\1<=p.w/\p.w<=6/\0<=p.front/\p.front<=p.rows)
def O.limited(p:O):Bool:=decide (0<=p.I/\p.I<=200/\0<=p.R/\p.R<=p.I/\0<=p.n/\p.n<=p.R/\0<=p.f/\p.f<=p.n)
def O.has(p:O) (c a:Int):Bool:=decide (1<=c/\c<=p.rows/\1<=a/\a<=p.w)
def O.idx(p:O) (c a:Int):Nat:=((c - 1)* p.w+(a - 1)).toNat
def jc:B:=⟨0,0,0,0,0,0⟩
structure B.wf (s:B):Prop where
 kW:0<=s.st
 s1:s.st<=3
 kX:0<=s.cl
 c1:s.cl<=3
 bare:s.st=0\/s.st=3->s.pa=0/\s.cl=0/\s.un=0
 pa:0<=s.pa/\s.pa<=1000
 un:0<=s.un/\s.un<=4611686018427387904
 qZ:s.st=2->s.un=0
structure aM.wf (f:aM):Prop where
 sized:f.p.sized=true
 limited:f.p.limited=true
 len:(f.S.length:Int)=f.p.rows* f.p.w
 place:∀i (h:i<f.S.length),f.S[i].row=(i:Int) / f.p.w+1/\f.S[i].P=(i:Int) % f.p.w+1
 cQ:∀s∈f.S,s.wf
theorem aM.wf.bounds{a:aM} (c:a.wf):1<=a.p.rows/\a.p.rows<=20/\1<=a.p.w/\a.p.w<=6/\0<=a.p.front/\a.p.front<=a.p.rows:=by
 have:=c.sized;simpa [O.sized] using this
theorem aM.wf.gU{a:aM} (c:a.wf):a.S.length<=120:=by
 obtain⟨f,d,i,e,_⟩:=c.bounds;have hl:=c.len;have:a.p.rows* a.p.w<=20* 6:=Int.mul_le_mul d e (by omega) (by omega);omega
theorem aM.wf.gV{a:aM} (d:a.wf) {r c:Int} (e:a.p.has r c=true):a.p.idx r c<a.S.length:=by
 simp only[O.has,decide_eq_true_eq] at e;obtain⟨m,n,o,p⟩:=e;obtain⟨f,i,j,k,_⟩:=d.bounds;have hl:=d.len;have q:(r - 1)* a.p.w<=(a.p.rows - 1)* a.p.w:=Int.mul_le_mul_of_nonneg_right (by omega) (by omega);have s:(a.p.rows - 1)* a.p.w=a.p.rows* a.p.w - a.p.w:=by rw[Int.sub_mul,Int.one_mul]
 have t:0<=(r - 1)* a.p.w:=iK (by omega) (by omega);unfold O.idx;omega
theorem aM.wf.nF{a:aM} (e:a.wf) {c d:Int} (f:a.p.has c d=true):(a.S[a.p.idx c d]'(e.gV f)).row=c/\(a.S[a.p.idx c d]'(e.gV f)).P=d:=by
 have i:=e.place _ (e.gV f);simp only[O.has,decide_eq_true_eq] at f;obtain⟨p,q,r,s⟩:=f;obtain⟨k,m,n,o,_⟩:=e.bounds;have t:0<=(c - 1)* a.p.w:=iK (by omega) (by omega);have j:((a.p.idx c d:Nat):Int)=(d - 1)+(c - 1)* a.p.w:=by unfold O.idx;omega
 rw[j] at i;rw[Int.add_mul_ediv_right _ _ (by omega:a.p.w≠0),Int.add_mul_emod_self_right,Int.ediv_eq_zero_of_lt (by omega) (by omega),Int.emod_eq_of_lt (by omega) (by omega)] at i;omega
theorem aM.wf.jd{a:aM} (c:a.wf) {i:Nat} (hi:i<a.S.length):a.p.has a.S[i].row a.S[i].P=true/\a.p.idx a.S[i].row a.S[i].P=i:=by
 have d:=c.place i hi;obtain⟨e,f,j,k,_⟩:=c.bounds;have hl:=c.len;have d0:=Int.emod_nonneg (i:Int) (by omega:a.p.w≠0);have d1:=Int.emod_lt_of_pos (i:Int) (by omega:0<a.p.w);have d2:=Int.mul_ediv_add_emod (i:Int) a.p.w;have d3:0<=(i:Int) / a.p.w:=Int.ediv_nonneg (by omega) (by omega);have d4:(i:Int) / a.p.w<a.p.rows:=by
  apply Int.ediv_lt_of_lt_mul (by omega);omega
 have d5:a.p.w* ((i:Int) / a.p.w)=(i:Int) / a.p.w* a.p.w:=Int.mul_comm _ _;constructor
 ·simp only[O.has,decide_eq_true_eq];omega
 ·unfold O.idx;rw[d.1,d.2,show(i:Int) / a.p.w+1 - 1=(i:Int) / a.p.w from by omega];omega
theorem aM.wf.tM{a:aM} (d:a.wf) {c j:Nat} (hi:c<a.S.length) (f:j<a.S.length) (i:a.S[c].row=a.S[j].row) (hc:a.S[c].P=a.S[j].P):c=j:=by
 have e:=(d.jd hi).2;have k:=(d.jd f).2;rw[i,hc] at e;omega
theorem countP_set(p:B->Bool) (c:List B) (d:Nat) (e:d<c.length) (a:B):((c.set d a).countP p:Int)=c.countP p - (if p c[d] then 1 else 0)+(if p a then 1 else 0):=by
 rw[List.countP_set e];have pos:p c[d]=true->1<=c.countP p:=λi=>List.countP_pos_iff.2 ⟨_,dD e,i⟩
 cases f:p c[d]<;>cases j:p a
 ·simp
 ·simp
 ·have:=pos f;simp only[if_true,kg,if_false];omega
 ·have:=pos f;simp only[if_true];omega
theorem Cl(p:O) (a:List B):cY a=iJ p true 0 a+iJ p false 0 a:=by
 unfold cY iJ
 induction a with
 |nil=>rfl
 |cons c a f=>
  simp only[kh,f];by_cases d:c.row<=p.front<;>by_cases e:c.st=0<;>simp[d,e]<;>omega
theorem Cm(a:List B) (hl:∀c∈a,0<=c.cl/\c.cl<=3):dN 0 a=gd 0 a+gd 1 a+gd 2 a+gd 3 a/\dN 1 a=gd 1 a+gd 2 a+gd 3 a/\dN 2 a=gd 2 a+gd 3 a/\dN 3 a=gd 3 a:=by
 unfold dN gd
 induction a with
 |nil=>exact⟨rfl,rfl,rfl,rfl⟩
 |cons c a m=>
  obtain⟨f,i,j,k⟩:=m (λn e=>hl n (oM _ e));obtain⟨o,p⟩:=hl c (nG);simp only[kh,f,i,j,k];have:c.cl=0\/c.cl=1\/c.cl=2\/c.cl=3:=by omega
  obtain d|d|d|d:=this<;>cases hs:c.cX<;>simp[d]<;>omega
end Go.Proofs.YthhibagcpjeihaaGreat.M
namespace Go.Proofs.YthhibagcpjeihaaGreat
open Go.RowKit
set_option linter.unusedVariables false
set_option maxRecDepth 100000
set_option maxHeartbeats 2000000
theorem aB(a:Int) (c: -4611686018427387904<=a) (d:a<=4611686018427387904):K.wrap a=a:=by
 simp[IntKind.wrap,IntKind.bits,IntKind.signed];omega
theorem ey(a:Int) (c: -9223372036854775808<=a) (d:a<=9223372036854775807):K.wrap a=a:=by
 simp[IntKind.wrap,IntKind.signed,IntKind.bits];omega
def iM(a c:Int):Int:=if a<0 then(-(a+1)) % c else a % c
theorem wo(c a:Int) (d:0<a):0<=iM c a/\iM c a<a:=by
 unfold iM;split
 ·exact⟨Int.emod_nonneg _ (by omega),Int.emod_lt_of_pos _ d⟩
 ·exact⟨Int.emod_nonneg _ (by omega),Int.emod_lt_of_pos _ d⟩
theorem X.grown{w w':U} {a:Nat} {cs:Array V} {c:TypeId} {row:Option Nat} (d:X w a cs c) (e:w.grownBy w' row) (f:E a≠row):X w' a cs c:=by
 unfold X;rw[e.block a d.lt f];exact d
theorem aC{k:U} {base:Nat} {e:TypeId} {size:Nat} {d:V} {c:Nat} {xs:List V} (f:k.ownsRow base e size d c xs):∃a cap,d=C a c cap:=by
 obtain⟨i,j⟩|⟨n,cap,m,hv,_⟩:=f.2
 ·exact⟨F,0,by rw[i,j]⟩
 ·exact⟨_,cap,hv⟩
open Go.RowKit Go.WideMaps
open Go.ChangeMaps (setBlock)
set_option linter.unusedSimpArgs false
theorem laidOut:laidOutB T=true:=by kernel_rfl
theorem oN:KeyLaw T 36:=deep_law_laid laidOut (m:=2) (by omega) (of_decide_eq_true (by kernel_rfl)) (by kernel_rfl) (by rw[underlying36])
def iN(c a:Int):V:=l #[y K c,y K a]
def cH(c p a d:Int):V:=l #[y K c,y K p,y K a,y K d]
theorem oO(c a:Int) (o:0<=c/\c<=1000) (hc:0<=a/\a<=1000):∃k,keyOf T 36 (iN c a)=E k:=by
 have m:(Lit.int K c).wf=true:=by simp[Lit.wf,IntKind.min,IntKind.max,IntKind.signed,IntKind.bits];omega
 have n:(Lit.int K a).wf=true:=by simp[Lit.wf,IntKind.min,IntKind.max,IntKind.signed,IntKind.bits];omega
 have i:T.keyType 36=true:=by kernel_rfl
 have f:T.cellsOf 36=2:=by kernel_rfl
 have e:T.cellsOf 3=1:=by kernel_rfl
 have ts:∃d,T.types.size+1=d+2:=⟨T.types.size - 1,by have:0<T.types.size:=of_decide_eq_true (by kernel_rfl);omega⟩;obtain⟨d,j⟩:=ts;apply Option.isSome_iff_exists.1;unfold keyOf;rw[underlying36,j];simp[i,iN,Value.formed,underlying36,f,e,Program.keyLits,underlying3,m,n,Value.cells]
structure t where
 born:Nat
 r:Int
 c:Int
 s:Int
 p:Int
 k:Int
 u:Int
def t.obj(a:t):MapEntry:=⟨iN a.r a.c,cH a.s a.p a.k a.u,a.born⟩
def bH(c:List t) (a:Nat):Obj:=.map (c.map t.obj).toArray a
def t.is(d c:Int) (a:t):Bool:=a.r==d&&a.c==c
structure ez (l:List t) (clock:Nat):Prop where
 keys:∀e∈l,0<=e.r/\e.r<=1000/\0<=e.c/\e.c<=1000
 apart:l.Pairwise λa b=>¬(a.r=b.r/\a.c=b.c)
 oP:l.Pairwise λa b=>a.born≠b.born
 oQ:∀e∈l,e.born<clock
theorem wq{d c e c':Int}:iN d c=iN e c'↔d=e/\c=c':=by
 constructor
 ·intro a;simp only[iN,l.injEq] at a;simp at a;exact a
 ·rintro⟨rfl,rfl⟩;rfl
theorem tN{c:List t} (o:c.Pairwise λa e=>¬(a.r=e.r/\a.c=e.c)) {j:Nat} (i:j<c.length) {k f:Int} (d:c[j].r=k/\c[j].c=f):c.findIdx? (t.is k f)=E j:=by
 rw[List.findIdx?_eq_some_iff_getElem];refine⟨i,by simp[t.is,d.1,d.2],λp hi=>?_⟩;have:=(List.pairwise_iff_getElem.1 o) p j (by omega) i hi;simp only[t.is,kY,beq_iff_eq];rintro⟨m,n⟩;exact this ⟨by rw[m,d.1],by rw[n,d.2]⟩
theorem rh(n:U) (e:List t) (w:Nat) (hl:ez e w) (c d:Int) (G:0<=c/\c<=1000) (hc:0<=d/\d<=1000):(Instr.findKey 36 (iN c d) (e.map t.obj)).run T n=.ok ((e.findIdx? (t.is c d)).map λj=>(j,(e[j]?.map λa=>cH a.s a.p a.k a.u).getD undef)) n:=by
 obtain⟨I,H⟩:=oO c d G hc
 obtain⟨i,D⟩|⟨j,a,i,p,A⟩:=oN.find n H (e.map t.obj) (λa k=>by
  obtain⟨f,m,rfl⟩:=List.mem_map.1 k
  obtain⟨r,s,u,x⟩:=hl.keys f m
  exact oO f.r f.c ⟨r,s⟩ ⟨u,x⟩)
 ·rw[i];have:e.findIdx? (t.is c d)=F:=by
   rw[oR];intro a k;have:=D _ (List.mem_map_of_mem k);simp only[t.is,Bool.and_eq_false_iff,beq_eq_false_iff_ne,ne_eq];by_cases o:a.r=c
   ·right;intro z;exact this (wq.2 ⟨o,z⟩)
   ·left;exact o
  rw[this];rfl
 ·rw[i];rw[List.getElem?_map] at p;obtain⟨f,m,rfl⟩:=Option.map_eq_some_iff.1 p;obtain⟨q,rfl⟩:=List.getElem?_eq_some_iff.1 m;have B:=wq.1 A;rw[tN hl.apart q B];simp[q,t.obj]
def dC(d:List t) (e c:Int):Int×Int×Int×Int:=((d.find? (t.is e c)).map λa=>(a.s,a.p,a.k,a.u)).getD (0,0,0,0)
theorem pP(a:List t) (p:t->Bool):a.find? p=(a.findIdx? p).bind λj=>a[j]? :=by
 induction a with
 |nil=>rfl
 |cons c a d=>
  simp only[kZ,List.findIdx?_cons]
  cases p c
  ·simp only[kg,if_false,d]
   cases a.findIdx? p<;>simp
  ·simp
theorem ri(a:U):(zeroValue 199).run T a=.ok (cH 0 0 0 0) a:=by kernel_rfl
theorem Cn(a:List t) (j:Nat):(a.map t.obj).eraseIdx j=(a.eraseIdx j).map t.obj:=by
 induction a generalizing j with
 |nil=>simp
 |cons c a d=>cases j<;>simp_all
theorem wu(c:MapEntry->MapEntry) (d:t->t):∀(a:List t) (j:Nat) (f:j<a.length),c a[j].obj=(d a[j]).obj->(a.map t.obj).modify j c=(a.modify j d).map t.obj
 |i::a,0,_,e=>by simpa using e
 |i::a,j+1,f,e=>by
  have:=wu c d a j (by simpa using f) (by simpa using e);simp[this]
theorem rj(e:U) (i:Nat) (d:List t) (j:Nat) (k:e.heap[i]? =E (bH d j)) (hl:ez d j) (c a:Int) (q:0<=c/\c<=1000) (hc:0<=a/\a<=1000):(iO 162 (.map (E i)) (iN c a) false).run T e=.ok (cH (dC d c a).1 (dC d c a).2.1 (dC d c a).2.2.1 (dC d c a).2.2.2) e:=by
 obtain⟨w,s⟩:=oO c a q hc;have n:=λr=>oN.check e r s;have f:=rh e d j hl c a q hc;unfold bH at k;have o:(getObj i).run T e=.ok (.map (d.map t.obj).toArray j) e:=by simp[getObj,Sem.run,k]
 have hs:∀m,(setObj i m).run T e=.ok () (setBlock e i m):=λm=>by simp[setObj,Sem.run,k,setBlock]
 rw[dC,pP]
 cases hf:d.findIdx? (t.is c a) with
 |none=>
  rw[hf] at f;simp[iO,run_underlying ld,o,n,f,ri,cH]
 |some u=>
  have p:=(List.findIdx?_eq_some_iff_getElem.1 hf).1;rw[hf] at f;simp[p] at f;simp[iO,run_underlying ld,o,n,f,ri,p]
theorem Co(a:U) (f:Nat) (c:List t) (i:Nat) (ty:TypeId) (m:a.heap[f]? =E (bH c i)) (hl:ez c i) (e d:Int) (r:0<=e/\e<=1000) (hc:0<=d/\d<=1000):(Builtin.delete_ #[162,36] ty #[.map (E f),iN e d]).run T a=.ok (h #[]) (setBlock a f (bH (match c.findIdx? (t.is e d) with|some j=>c.eraseIdx j|none=>c) i)):=by
 obtain⟨w,u⟩:=oO e d r hc;have o:=λs=>oN.check a s u;have k:=rh a c i hl e d r hc;unfold bH at m;have p:(getObj f).run T a=.ok (.map (c.map t.obj).toArray i) a:=by simp[getObj,Sem.run,m]
 have hs:∀n,(setObj f n).run T a=.ok () (setBlock a f n):=λn=>by simp[setObj,Sem.run,m,setBlock]
 cases hf:c.findIdx? (t.is e d) with
 |none=>
  rw[hf] at k;simp[Builtin.delete_,run_underlying ld,p,hs,o,k,bH]
 |some j=>
  have q:=(List.findIdx?_eq_some_iff_getElem.1 hf).1;rw[hf] at k;simp[q] at k;simp[Builtin.delete_,run_underlying ld,p,hs,o,k,bH,q];rw[Cn]
theorem Cp(a:U) (k:Nat) (c:List t) (f:Nat) (u:a.heap[k]? =E (bH c f)) (hl:ez c f) (e d q p o r:Int) (A:0<=e/\e<=1000) (hc:0<=d/\d<=1000):
  (Instr.mapUpdate 162 (.map (E k)) (iN e d) (cH q p o r)).run T a=
   .ok () (match c.findIdx? (t.is e d) with
    |some j=>setBlock a k (bH (c.modify j λi=>⟨i.born,i.r,i.c,q,p,o,r⟩) f)
    |none=>setBlock a k (bH (c++[⟨f,e,d,q,p,o,r⟩]) (f+1))):=by
 obtain⟨I,B⟩:=oO e d A hc;have x:=λD=>oN.check a D B;have m:=rh a c f hl e d A hc;have G:=oN.stays a B;unfold bH at u;have z:(getObj k).run T a=.ok (.map (c.map t.obj).toArray f) a:=by simp[getObj,Sem.run,u]
 have hs:∀w,(setObj k w).run T a=.ok () (setBlock a k w):=λw=>by simp[setObj,Sem.run,u,setBlock]
 cases hf:c.findIdx? (t.is e d) with
 |none=>
  rw[hf] at m;simp[Instr.mapUpdate,run_underlying ld,z,hs,x,m,bH,t.obj]
 |some j=>
  have n:=(List.findIdx?_eq_some_iff_getElem.1 hf);obtain⟨n,s,_⟩:=n;simp[t.is] at s;rw[hf] at m;simp[n] at m;have H:(c[j]).obj.key=iN e d:=by simp[t.obj,s]
  simp[Instr.mapUpdate,run_underlying ld,z,hs,x,m,bH,n,H,G];rw[wu _ (λi=>⟨i.born,i.r,i.c,q,p,o,r⟩) c j n (by simp[t.obj,s])]
open M
theorem ez.erase{f:List t} {e:Nat} (a:ez f e) (j:Nat):ez (f.eraseIdx j) e:=
 ⟨λc d=>a.keys c (List.mem_of_mem_eraseIdx d),a.apart.sublist (List.eraseIdx_sublist _ _),a.oP.sublist (List.eraseIdx_sublist _ _),λc d=>a.oQ c (List.mem_of_mem_eraseIdx d)⟩
def jR(d:List t) (a:Nat) (i e j p f k:Int):List t×Nat:=
 match d.findIdx? (t.is i e) with
 |some m=>(d.modify m λc=>⟨c.born,c.r,c.c,j,p,f,k⟩,a)
 |none=>(d++[⟨a,i,e,j,p,f,k⟩],a+1)
def il(a:List t) (e c:Int):List t:=
 match a.findIdx? (t.is e c) with
 |some d=>a.eraseIdx d
 |none=>a
theorem mem_modify{f:Type} {k:f->f}:∀ {d:List f} {j:Nat} {c:f},c∈d.modify j k->c∈d\/∃i∈d,c=k i
 |[],j,c,a=>by simp at a
 |e::d,0,c,a=>by
  simp at a;obtain a|a:=a
  ·exact .inr ⟨e,by simp,a⟩
  ·exact .inl (by simp[a])
 |e::d,j+1,c,a=>by
  simp at a;obtain a|a:=a
  ·exact .inl (by simp[a])
  ·obtain a|⟨i,hy,e⟩:=mem_modify a
   ·exact .inl (by simp[a])
   ·exact .inr ⟨i,by simp[hy],e⟩
theorem wv{e:Type} {i:e->e}:∀ {c:List e} {j:Nat} {d:e},d∈c.modify j i->d∈c\/∃a:j<c.length,d=i c[j]
 |[],j,d,a=>by simp at a
 |f::c,0,d,a=>by
  simp at a;obtain a|a:=a
  ·exact .inr ⟨by simp,a⟩
  ·exact .inl (by simp[a])
 |f::c,j+1,d,a=>by
  simp at a;obtain a|a:=a
  ·exact .inl (by simp[a])
  ·obtain a|⟨k,f⟩:=wv a
   ·exact .inl (by simp[a])
   ·exact .inr ⟨by simpa using k,by rw[List.getElem_cons_succ];exact f⟩
theorem rk{f:Type} {R:f->f->Prop} {g:f->f} (m:∀a d,R a d->R (g a) d) (n:∀a d,R a d->R a (g d)):∀ {i:List f} {j:Nat},i.Pairwise R->(i.modify j g).Pairwise R
 |[],_,_=>by simp
 |o::i,0,c=>by
  simp only[List.modify_zero_cons,List.pairwise_cons] at c ⊢;exact⟨λk e=>m _ _ (c.1 k e),c.2⟩
 |o::i,j+1,c=>by
  simp only[List.modify_succ_cons,List.pairwise_cons] at c ⊢;refine⟨λk e=>?_,rk m n c.2⟩;obtain e|⟨p,hy,rfl⟩:=mem_modify e
  ·exact c.1 k e
  ·exact n _ _ (c.1 p hy)
def t.with(d p c e:Int) (a:t):t:=⟨a.born,a.r,a.c,d,p,c,e⟩
theorem rm{a:List t} {d:Nat} {f c i p e k:Int} {j:Nat} (m:a.findIdx? (t.is f c)=E j):jR a d f c i p e k=(a.modify j (t.with i p e k),d):=by
 unfold jR;rw[m];rfl
theorem rp{d:List t} {c:Nat} {e a i p f j:Int} (k:d.findIdx? (t.is e a)=F):jR d c e a i p f j=(d++[⟨c,e,a,i,p,f,j⟩],c+1):=by
 unfold jR;rw[k]
theorem wD{a:List t} {d c:Int} {j:Nat} (e:a.findIdx? (t.is d c)=E j):il a d c=a.eraseIdx j:=by
 unfold il;rw[e]
theorem wF{a:List t} {d c:Int} (e:a.findIdx? (t.is d c)=F):il a d c=a:=by
 unfold il;rw[e]
theorem nH{c d:Int} {a:t}:t.is c d a=false↔¬(a.r=c/\a.c=d):=by
 simp only[t.is,Bool.and_eq_false_iff,beq_eq_false_iff_ne];by_cases e:a.r=c
 ·simp[e]
 ·simp[e]
theorem rq{d c:Int} {a:t}:t.is d c a=true↔(a.r=d/\a.c=c):=by
 simp[t.is]
theorem ez.put{n:List t} {r:Nat} (c:ez n r) (k j o p m q:Int) (w:0<=k/\k<=1000) (hc:0<=j/\j<=1000):ez (jR n r k j o p m q).1 (jR n r k j o p m q).2:=by
 cases hf:n.findIdx? (t.is k j) with
 |some x=>
  rw[rm hf];refine⟨λe a=>?_,rk (g:=t.with o p m q) (λd i f=>f) (λd i f=>f) c.apart,rk (g:=t.with o p m q) (λd i f=>f) (λd i f=>f) c.oP,λe a=>?_⟩
  ·obtain a|⟨u,hy,rfl⟩:=mem_modify a
   ·exact c.keys e a
   ·exact c.keys u hy
  ·obtain a|⟨u,hy,rfl⟩:=mem_modify a
   ·exact c.oQ e a
   ·exact c.oQ u hy
 |none=>
  rw[rp hf];rw[oR] at hf;refine⟨λe a=>?_,?_,?_,λe a=>?_⟩
  ·obtain a|a:=List.mem_append.1 a
   ·exact c.keys e a
   ·simp at a;subst a;exact⟨w.1,w.2,hc.1,hc.2⟩
  ·refine List.pairwise_append.2 ⟨c.apart,by simp,λd s i hb=>?_⟩;simp at hb;subst hb;exact nH.1 (hf d s)
  ·refine List.pairwise_append.2 ⟨c.oP,by simp,λd s i hb=>?_⟩;simp at hb;subst hb;have:=c.oQ d s;simp only;omega
  ·obtain a|a:=List.mem_append.1 a
   ·have:=c.oQ e a;simp only;omega
   ·simp at a;subst a;simp
theorem wG{p:t->Bool}:∀(a:List t) (j:Nat),(∀c:j<a.length,p a[j]=false)->(a.eraseIdx j).find? p=a.find? p
 |[],_,_=>by simp
 |d::a,0,c=>by
  have:=c (by simp);simp at this;simp[this]
 |d::a,j+1,c=>by
  simp only[List.eraseIdx_cons_succ,kZ];rw[wG a j (λe=>by have:=c (by simpa using e);rwa [List.getElem_cons_succ] at this)]
theorem wH(e:t->t) (c:t->Bool):∀(a:List t) (j:Nat),(∀d:j<a.length,c a[j]=false/\c (e a[j])=false)->(a.modify j e).find? c=a.find? c
 |[],_,_=>by simp
 |f::a,0,d=>by
  have:=d (by simp);simp at this;simp[this.1,this.2]
 |f::a,j+1,d=>by
  simp only[List.modify_succ_cons,kZ];rw[wH e c a j (λi=>by have:=d (by simpa using i);rwa [List.getElem_cons_succ] at this)]
theorem wI{d:List t} {e c:Int} (f:∀a∈d,¬(a.r=e/\a.c=c)):dC d e c=(0,0,0,0):=by
 unfold dC;rw[List.find?_eq_none.2 (λa i=>by rw[nH.2 (f a i)];simp)];rfl
theorem wJ{f:List t} {u:Nat} (w:ez f u) (i d j c':Int):dC (il f i d) j c'=if j=i/\c'=d then(0,0,0,0) else dC f j c':=by
 cases hf:f.findIdx? (t.is i d) with
 |none=>
  rw[wF hf];rw[oR] at hf;by_cases a:j=i/\c'=d
  ·rw[if_pos a,a.1,a.2];exact wI λe m=>nH.1 (hf e m)
  ·rw[if_neg a]
 |some k=>
  rw[wD hf];obtain⟨r,c,_⟩:=List.findIdx?_eq_some_iff_getElem.1 hf;have c:=rq.1 c;by_cases a:j=i/\c'=d
  ·rw[if_pos a,a.1,a.2];refine wI λe m n=>?_;obtain⟨o,hi,x,q⟩:=List.mem_eraseIdx_iff_getElem.1 m;have s:=List.pairwise_iff_getElem.1 w.apart;obtain p|p:=Nat.lt_or_ge o k
   ·exact s o k hi r p (by rw[q,c.1,c.2];exact n)
   ·exact s k o r hi (by omega) (by rw[q,c.1,c.2];exact⟨n.1.symm,n.2.symm⟩)
  ·rw[if_neg a];unfold dC;rw[wG f k (λ_=>nH.2 (λe=>a ⟨by rw[<-e.1,c.1],by rw[<-e.2,c.2]⟩))]
theorem wK{c:List t} {e:Nat} (f:ez c e) {a:t} (i:a∈c):dC c a.r a.c=(a.s,a.p,a.k,a.u):=by
 obtain⟨j,d,rfl⟩:=iP i;unfold dC;rw[pP,tN f.apart d ⟨rfl,rfl⟩];simp[d]
theorem Cq{f:List t} {r:Nat} (x:ez f r) (i e m p k n j c':Int):dC (jR f r i e m p k n).1 j c'=if j=i/\c'=e then(m,p,k,n) else dC f j c':=by
 cases hf:f.findIdx? (t.is i e) with
 |none=>
  rw[rp hf];rw[oR] at hf;unfold dC;simp only[List.find?_append];by_cases a:j=i/\c'=e
  ·rw[if_pos a,a.1,a.2];rw[List.find?_eq_none.2 (λc z=>by rw[hf c z];simp)];simp[t.is]
  ·rw[if_neg a];have:t.is j c' ⟨r,i,e,m,p,k,n⟩=false:=nH.2 (λc=>a ⟨c.1.symm,c.2.symm⟩);simp[this]
 |some s=>
  rw[rm hf];obtain⟨w,d,_⟩:=List.findIdx?_eq_some_iff_getElem.1 hf;have d:=rq.1 d;have A:(f.modify s (t.with m p k n)).Pairwise λo q=>¬(o.r=q.r/\o.c=q.c):=rk (g:=t.with m p k n) (λo q u=>u) (λo q u=>u) x.apart;by_cases a:j=i/\c'=e
  ·rw[if_pos a,a.1,a.2];unfold dC;rw[pP,tN A (j:=s) (by simpa using w) (by simpa [t.with] using d)];simp[w,t.with]
  ·rw[if_neg a];unfold dC;rw[wH _ _ f s (λ_=>⟨nH.2 (λc=>a ⟨by rw[<-c.1,d.1],by rw[<-c.2,d.2]⟩),nH.2 (λc=>a ⟨by rw[<-c.1];exact d.1,by rw[<-c.2];exact d.2⟩)⟩)]
theorem wL{d:List t} {f e:Int} {c:t} (a:c∈il d f e):c∈d:=by
 unfold il at a;split at a
 ·exact List.mem_of_mem_eraseIdx a
 ·exact a
theorem ez.drop{d:List t} {a:Nat} (c:ez d a) (f e:Int):ez (il d f e) a:=by
 unfold il;split
 ·exact c.erase _
 ·exact c
theorem Cr{f:List t} {k:Nat} {i e j p m n:Int} {c:t} (a:c∈(jR f k i e j p m n).1):c∈f\/(c.r=i/\c.c=e/\c.s=j):=by
 cases hf:f.findIdx? (t.is i e) with
 |none=>
  rw[rp hf] at a;obtain a|a:=List.mem_append.1 a
  ·exact .inl a
  ·simp at a;subst a;exact .inr ⟨rfl,rfl,rfl⟩
 |some q=>
  rw[rm hf] at a;obtain⟨o,d,_⟩:=List.findIdx?_eq_some_iff_getElem.1 hf;have d:=rq.1 d;obtain a|⟨_,rfl⟩:=wv a
  ·exact .inl a
  ·exact .inr ⟨d.1,d.2,rfl⟩
theorem tO(a:Nat) (m f n:Int) (e:U):Calls T 136 #[l #[y K a,y K m,y K f,y K n]] e λi w'=>i=g (W (decide (a=1\/a=2)))/\G No e w':=by
 by_cases c:a=1
 ·subst c;go_enter func136,ntmps136;go_wp2;go_ret;exact⟨rfl,(G.refl _ _).alloc _⟩
 ·have j:((a:Int)==1)=false:=by simp;omega
  by_cases d:a=2
  ·subst d;go_enter func136,ntmps136;go_wp2;go_ret;exact⟨rfl,(G.refl _ _).alloc _⟩
  ·have k:((a:Int)==2)=false:=by simp;omega
   go_enter func136,ntmps136;go_wp2;go_ret;exact⟨by simp[c,d,j,k],(G.refl _ _).alloc _⟩
theorem G.at{a i:U} {c:Nat} (j:G (λd=>d=c) a i) (e:Nat) (f:V):G (λd=>d=c) a (i.setCell ⟨c,e,F⟩ f):=G.setCell (S:=λd=>d=c) j (p:=⟨c,e,F⟩) (.inl rfl) f
def nI(cs:Array V) (base a e:Nat) (d f c:Int):Array V:=
 if a=1\/a=2 then(cs.setIfInBounds (base+a) (y K (d+c))).setIfInBounds (16+e) (y K (f+c)) else cs.setIfInBounds (base+a) (y K (d+c))
theorem wM(o a d base:Nat) (cs:Array V) (row B r s J c t n:Int) (f:U) (q:X f o cs 164) (P:cs[2]? =E (y K J)) (Y:(row<=J/\base=8)\/(¬row<=J/\base=12)) (ak:a<4) (ah:d<4) (Q:cs[base+a]? =E (y K c)) (hy:cs[16+d]? =E (y K t)) (af: -100000<=c/\c<=100000) (ag: -100000<=t/\t<=100000) (ae: -1<=n/\n<=1):
  Calls T 134 #[b (E ⟨o,0,F⟩),l #[y K row,y K B],l #[y K a,y K r,y K d,y K s],y K n] f λI w'=>I=g (h #[])/\G (· =o) f w'/\X w' o (nI cs base a d c t n) 164:=by
 have aj:=q.lt;have A:=q.cell 2;have D:=q.cell (base+a);have H:=q.cell (16+d);have R:=q.frozen;rw[P] at A;rw[Q] at D;rw[hy] at H;have N:=i q;have S:=aB (c+n) (by omega) (by omega);have O:=i hy;clear q P Q hy;have am:(a:Int)<4:=by omega
 have ai:(d:Int)<4:=by omega
 obtain⟨aa,rfl⟩|⟨aa,rfl⟩:=Y
 ·go_enter func134,ntmps134;go_wp2;go_quiet (fail);go_wp2;go_region;go_wp2_with fail;refine(tO a r d s _).mono ?_;rintro I w3 ⟨rfl,m⟩;have j:X w3 o (cs.setIfInBounds (8+a) (y K (c+n))) 164:=m.has (((((k N).alloc _).alloc _).drewN (nq+1)).set (8+a) _) (λc=>c);have x:X w3 (f.heap.size+1) #[y K a,y K r,y K d,y K s] 199:=
   m.has (X.dB (X.drewN (by have:=X.new (f.alloc (v #[y K row,y K B] 36)) #[y K a,y K r,y K d,y K s] 199;rwa [bj] at this) (nq+1)) (by simp;omega) _) (λc=>c)
  have z:G (· =o) f w3:=((((((G.refl _ f).alloc _).alloc _).drewN (nq+1)).at (8+a) _)).trans (m.mono (λ_ _ c=>c.elim));have M:=j.cell (16+d);have ad:=j.frozen;have L:=x.cell 2;rw[pQ,if_neg (by omega),(k O)] at M;simp only[List.getElem?_toArray,List.getElem?_cons_succ,List.getElem?_cons_zero] at L;have u:=i j;have w:=i z;clear m j x z A D H R S;by_cases e:a=1\/a=2
  ·have hd:decide (a=1\/a=2)=true:=decide_eq_true e;rw[hd];have p:=i e;clear e hd;have ab:=aB (t+n) (by omega) (by omega);go_wp2_with fail;go_region;go_wp2;go_end0;refine⟨rfl,((k w).at (16+d) _).drew,?_⟩;unfold nI;rw[if_pos (k p)];exact(k u).set (16+d) _
  ·have hd:decide (a=1\/a=2)=false:=decide_eq_false e;rw[hd];have p:=i e;clear e hd;go_wp2;go_end0;refine⟨rfl,k w,?_⟩;unfold nI;rw[if_neg (k p)];exact k u
 ·go_enter func134,ntmps134;go_wp2;go_quiet (fail);go_wp2;go_region;go_wp2_with fail;refine(tO a r d s _).mono ?_;rintro I w3 ⟨rfl,m⟩;have j:X w3 o (cs.setIfInBounds (12+a) (y K (c+n))) 164:=m.has (((((k N).alloc _).alloc _).drewN (nq+1)).set (12+a) _) (λc=>c);have x:X w3 (f.heap.size+1) #[y K a,y K r,y K d,y K s] 199:=
   m.has (X.dB (X.drewN (by have:=X.new (f.alloc (v #[y K row,y K B] 36)) #[y K a,y K r,y K d,y K s] 199;rwa [bj] at this) (nq+1)) (by simp;omega) _) (λc=>c)
  have z:G (· =o) f w3:=((((((G.refl _ f).alloc _).alloc _).drewN (nq+1)).at (12+a) _)).trans (m.mono (λ_ _ c=>c.elim));have M:=j.cell (16+d);have ad:=j.frozen;have L:=x.cell 2;rw[pQ,if_neg (by omega),(k O)] at M;simp only[List.getElem?_toArray,List.getElem?_cons_succ,List.getElem?_cons_zero] at L;have u:=i j;have w:=i z;clear m j x z A D H R S;by_cases e:a=1\/a=2
  ·have hd:decide (a=1\/a=2)=true:=decide_eq_true e;rw[hd];have p:=i e;clear e hd;have ab:=aB (t+n) (by omega) (by omega);go_wp2_with fail;go_region;go_wp2;go_end0;refine⟨rfl,((k w).at (16+d) _).drew,?_⟩;unfold nI;rw[if_pos (k p)];exact(k u).set (16+d) _
  ·have hd:decide (a=1\/a=2)=false:=decide_eq_false e;rw[hd];have p:=i e;clear e hd;go_wp2;go_end0;refine⟨rfl,k w,?_⟩;unfold nI;rw[if_neg (k p)];exact k u
theorem pR(c d e f:V) (a:U):(gz 37 (l #[c,d,e,f]) (y K 0)).run T a=.ok c a:=by simp[go_sem,gz]
theorem pS(d c e f:V) (a:U):(gz 37 (l #[d,c,e,f]) (y K 1)).run T a=.ok c a:=by simp[go_sem,gz]
theorem pT(d e c f:V) (a:U):(gz 37 (l #[d,e,c,f]) (y K 2)).run T a=.ok c a:=by simp[go_sem,gz]
theorem pU(d e f c:V) (a:U):(gz 37 (l #[d,e,f,c]) (y K 3)).run T a=.ok c a:=by simp[go_sem,gz]
theorem rr(ty:TypeId) (a c:Int) (d:U):(Builtin.min_ #[3,3] ty #[y K a,y K c]).run T d=.ok (y K (min a c)) d:=by
 have:(if c<a then c else a)=min a c:=by split<;>omega
 simp[Builtin.min_,Builtin.min2,this]
theorem ru(ty:TypeId) (a c:Int) (d:U):(Builtin.max_ #[3,3] ty #[y K a,y K c]).run T d=.ok (y K (max a c)) d:=by
 have:(if a<c then c else a)=max a c:=by split<;>omega
 simp[Builtin.max_,Builtin.max2,this]
attribute [local go_sem] pR pS pT pU
attribute [local go_sem ↓] rr ru
def db(z k r s t u w:Int) (x:V) (a c d e b0 f i j A B D G m n o p q:Int):Array V:=
 #[y K z,y K k,y K r,y K s,y K t,y K u,y K w,x,y K a,y K c,y K d,y K e,
  y K b0,y K f,y K i,y K j,y K A,y K B,y K D,y K G,y K m,y K n,y K o,y K p,y K q]
theorem wN(M:Nat) (ap af ah e o s z:Int) (ao:V) (w S Y aa b0 ab ad ae c d j m ar au av aw ag:Int) (R:U) (ai:X R M (db ap af ah e o s z ao w S Y aa b0 ab ad ae c d j m ar au av aw ag) 164) (aD:0<=w/\w<=1000/\0<=b0/\b0<=1000) (hs:0<=c/\c<=1000/\0<=d/\d<=1000/\0<=j/\j<=1000/\0<=m/\m<=1000)
  (hl:0<=e/\e<=1000/\0<=o/\o<=1000/\0<=s/\s<=1000/\0<=z/\z<=1000):Calls T 135 #[b (E ⟨M,0,F⟩)] R λaB w'=>aB=g (h #[])/\G (λam=>am=M) R w'/\X w' M (db ap af ah e o s z ao w S Y aa b0 ab ad ae c d j m (max (min (w+b0) (e - (c+d+j+m))) 0) (max (min (min (w+b0) (e - (c+d+j+m))) (o - (d+j+m))) 0)
    (max (min (min (min (w+b0) (e - (c+d+j+m))) (o - (d+j+m))) (s - (j+m))) 0) (max (min (min (min (min (w+b0) (e - (c+d+j+m))) (o - (d+j+m))) (s - (j+m))) (z - m)) 0) ag) 164:=by
 have hc:=ai.cell;unfold db at hc;have ay:=i ai;clear ai;go_enter func135,ntmps135;go_wp2;go_loopw [2,13] (λI q wr=>((q=y K 0/\I=y K 0)\/(q=y K 1/\I=y K c)\/(q=y K 2/\I=y K (c+d))\/(q=y K 3/\I=y K (c+d+j))\/(q=y K 4/\I=y K (c+d+j+m)))/\wr=R) (λ_ q _=>4 - (intOf q).toNat)
 case atStart=>exact⟨.inl ⟨rfl,rfl⟩,rfl⟩
 case round=>
  obtain⟨t,D⟩:=hrel;subst D;obtain⟨rfl,rfl⟩|⟨rfl,rfl⟩|⟨rfl,rfl⟩|⟨rfl,rfl⟩|⟨rfl,rfl⟩:=t
  ·go_wp2;go_roundw
   ·exact⟨.inr (.inl ⟨rfl,rfl⟩),trivial⟩
   ·simp[intOf]
  ·go_wp2;go_roundw
   ·exact⟨.inr (.inr (.inl ⟨rfl,rfl⟩)),trivial⟩
   ·simp[intOf]
  ·go_wp2;go_roundw
   ·exact⟨.inr (.inr (.inr (.inl ⟨rfl,rfl⟩))),trivial⟩
   ·simp[intOf]
  ·go_wp2;go_roundw
   ·exact⟨.inr (.inr (.inr (.inr ⟨rfl,rfl⟩))),trivial⟩
   ·simp[intOf]
  ·go_wp2;go_quiet (fail);go_wp2;have aL:=i aD;have P:=i hs;have aM:=i hl;clear hc;generalize Q:c+d+j+m=a at *;generalize hA:w+b0=p at *;have O:=i Q;have aA:=i hA;have aN:0<=a/\a<=4000/\0<=p/\p<=2000:=by omega
   clear Q hA
   go_loopw [2,5,38] (λI aC q ax=>∃f n A B L N:Int,I=y K f/\aC=y K n/\0<=f/\f<=4000/\ -5000<=n/\n<=5000/\Hid (X ax M (db ap af ah e o s z ao w S Y aa b0 ab ad ae c d j m A B L N ag) 164)/\Hid (G (λam=>am=M) wr ax)/\
     ((q=y K 0/\Hid (f=a/\n=p))\/(q=y K 1/\Hid (f=a - c/\n=min p (e - a)/\A=max (min p (e - a)) 0))\/
      (q=y K 2/\Hid (f=a - c - d/\n=min (min p (e - a)) (o - (a - c))/\A=max (min p (e - a)) 0/\B=max (min (min p (e - a)) (o - (a - c))) 0))\/
      (q=y K 3/\Hid (f=a - c - d - j/\n=min (min (min p (e - a)) (o - (a - c))) (s - (a - c - d))/\A=max (min p (e - a)) 0/\B=max (min (min p (e - a)) (o - (a - c))) 0/\L=max (min (min (min p (e - a)) (o - (a - c))) (s - (a - c - d))) 0))\/
      (q=y K 4/\Hid (A=max (min p (e - a)) 0/\B=max (min (min p (e - a)) (o - (a - c))) 0/\L=max (min (min (min p (e - a)) (o - (a - c))) (s - (a - c - d))) 0/\
       N=max (min (min (min (min p (e - a)) (o - (a - c))) (s - (a - c - d))) (z - (a - c - d - j))) 0)))) (λ_ _ q _=>4 - (intOf q).toNat)
   case atStart=>exact⟨a,p,ar,au,av,aw,rfl,rfl,by omega,by omega,by omega,by omega,ay,(G.refl _ _).drewN _,.inl ⟨rfl,rfl,rfl⟩⟩
   case round=>
    obtain⟨f,n,A,B,L,N,rfl,rfl,t0,t1,aQ,aR,x,D,t⟩:=hrel;have hc:=(k x).cell;have aO:=(k x).frozen;unfold db at hc;obtain⟨rfl,t⟩|⟨rfl,t⟩|⟨rfl,t⟩|⟨rfl,t⟩|⟨rfl,t⟩:=t
    ·go_wp2;go_roundw
     ·obtain⟨r,u⟩:=k t;have ak:=k P;have aj:=k O;have H:=(k x).set 20 (y K (max (min n (e - f)) 0));refine⟨f - c,min n (e - f),max (min n (e - f)) 0,B,L,N,rfl,rfl,by omega,by omega,by omega,by omega,H,(k D).at 20 _,.inr (.inl ⟨rfl,?_,?_,?_⟩)⟩
      ·rw[r]
      ·rw[r,u]
      ·rw[r,u]
     ·simp[intOf]
    ·go_wp2;go_roundw
     ·obtain⟨r,u,J⟩:=k t;have ak:=k P;have aj:=k O;have H:=(k x).set 21 (y K (max (min n (o - f)) 0));refine⟨f - d,min n (o - f),A,max (min n (o - f)) 0,L,N,rfl,rfl,by omega,by omega,by omega,by omega,H,(k D).at 21 _,.inr (.inr (.inl ⟨rfl,?_,?_,J,?_⟩))⟩
      ·rw[r]
      ·rw[r,u]
      ·rw[r,u]
     ·simp[intOf]
    ·go_wp2;go_roundw
     ·obtain⟨r,u,J,aq⟩:=k t;have ak:=k P;have aj:=k O;have H:=(k x).set 22 (y K (max (min n (s - f)) 0));refine⟨f - j,min n (s - f),A,B,max (min n (s - f)) 0,N,rfl,rfl,by omega,by omega,by omega,by omega,H,(k D).at 22 _,.inr (.inr (.inr (.inl ⟨rfl,?_,?_,J,aq,?_⟩)))⟩
      ·rw[r]
      ·rw[r,u]
      ·rw[r,u]
     ·simp[intOf]
    ·go_wp2;go_roundw
     ·obtain⟨r,u,J,aq,aK⟩:=k t;have ak:=k P;have aj:=k O;have H:=(k x).set 23 (y K (max (min n (z - f)) 0));refine⟨f - m,min n (z - f),A,B,L,max (min n (z - f)) 0,rfl,rfl,by omega,by omega,by omega,by omega,H,(k D).at 23 _,.inr (.inr (.inr (.inr ⟨rfl,J,aq,aK,?_⟩)))⟩;rw[r,u]
     ·simp[intOf]
    ·go_wp2;go_end0;obtain⟨aI,r,u,J⟩:=k t;have Q:=k O;have hA:=k aA;have aE:d+j+m=a - c:=by omega
     have aF:j+m=a - c - d:=by omega
     have aH:m=a - c - d - j:=by omega
     refine⟨rfl,k D,?_⟩;rw[Q,hA,aE,aF];have x:=k x;rw[aI,r,u,J,<-aH] at x;exact x
def bL(a:Nat->Int) (d:Nat) (e:Int):Nat->Int:=λc=>if c=d then e else a c
def dw(p:O) (f:V) (a c e d:Nat->Int):Array V:=
 db p.rows p.w p.front p.I p.R p.n p.f f (a 0) (a 1) (a 2) (a 3) (c 0) (c 1) (c 2) (c 3) (e 0) (e 1) (e 2) (e 3) (d 0) (d 1) (d 2) (d 3) p.ep
def jx(d c:Nat) (e:Int) (a:Nat->Int):Nat->Int:=if d=1\/d=2 then bL a c (a c+e) else a
theorem wO(p:O) (f:V) (a d i e:Nat->Int) (c:Nat) (k:c<4) (j:Int):(dw p f a d i e).setIfInBounds (8+c) (y K j)=dw p f (bL a c j) d i e:=by
 match c,k with
 |0,_=>rfl
 |1,_=>rfl
 |2,_=>rfl
 |3,_=>rfl
theorem wP(p:O) (f:V) (a d i e:Nat->Int) (c:Nat) (k:c<4) (j:Int):(dw p f a d i e).setIfInBounds (12+c) (y K j)=dw p f a (bL d c j) i e:=by
 match c,k with
 |0,_=>rfl
 |1,_=>rfl
 |2,_=>rfl
 |3,_=>rfl
theorem wQ(p:O) (f:V) (a d i e:Nat->Int) (c:Nat) (k:c<4) (j:Int):(dw p f a d i e).setIfInBounds (16+c) (y K j)=dw p f a d (bL i c j) e:=by
 match c,k with
 |0,_=>rfl
 |1,_=>rfl
 |2,_=>rfl
 |3,_=>rfl
theorem wR(p:O) (i:V) (a d e f:Nat->Int) (c:Nat) (j:c<4):(dw p i a d e f)[8+c]? =E (y K (a c))/\(dw p i a d e f)[12+c]? =E (y K (d c))/\(dw p i a d e f)[16+c]? =E (y K (e c)):=by
 match c,j with
 |0,_=>exact⟨rfl,rfl,rfl⟩
 |1,_=>exact⟨rfl,rfl,rfl⟩
 |2,_=>exact⟨rfl,rfl,rfl⟩
 |3,_=>exact⟨rfl,rfl,rfl⟩
def Small(a:Nat->Int):Prop:=∀c,c<4-> -100000<=a c/\a c<=100000
theorem wT(n a d:Nat) (p:O) (s:V) (f i fs r:Nat->Int) (row t x z j:Int) (q:U) (B:X q n (dw p s f i fs r) 164) (e:a<4) (m:d<4) (I:Small f) (hb:Small i) (hs:Small fs) (A: -1<=j/\j<=1):Calls T 134 #[b (E ⟨n,0,F⟩),l #[y K row,y K t],l #[y K a,y K x,y K d,y K z],y K j] q λu w'=>
   u=g (h #[])/\G (λd=>d=n) q w'/\X w' n (dw p s (if row<=p.front then bL f a (f a+j) else f) (if row<=p.front then i else bL i a (i a+j)) (jx a d j fs) r) 164:=by
 obtain⟨D,H,gs⟩:=wR p s f i fs r a e;have gk:=(wR p s f i fs r d m).2.2;by_cases o:row<=p.front
 ·refine(wM n a d 8 _ row t x z p.front (f a) (fs d) j q B rfl (.inl ⟨o,rfl⟩) e m D gk (I a e) (hs d m) A).mono ?_;rintro u w' ⟨rfl,w,c⟩;refine⟨rfl,w,?_⟩;rw[if_pos o,if_pos o];unfold nI at c;unfold jx;split at c
  ·rename_i k;rw[wO _ _ _ _ _ _ _ e,wQ _ _ _ _ _ _ _ m] at c;rw[if_pos k];exact c
  ·rename_i k;rw[wO _ _ _ _ _ _ _ e] at c;rw[if_neg k];exact c
 ·refine(wM n a d 12 _ row t x z p.front (i a) (fs d) j q B rfl (.inr ⟨o,rfl⟩) e m H gk (hb a e) (hs d m) A).mono ?_;rintro u w' ⟨rfl,w,c⟩;refine⟨rfl,w,?_⟩;rw[if_neg o,if_neg o];unfold nI at c;unfold jx;split at c
  ·rename_i k;rw[wP _ _ _ _ _ _ _ e,wQ _ _ _ _ _ _ _ m] at c;rw[if_pos k];exact c
  ·rename_i k;rw[wP _ _ _ _ _ _ _ e] at c;rw[if_neg k];exact c
def af(p:O) (c:List B):Nat->Int:=λa=>iJ p true a c
def aj(p:O) (c:List B):Nat->Int:=λa=>iJ p false a c
def c(d:List B):Nat->Int:=λa=>gd a d
def iQ(p:O) (c:List B):Nat->Int:=λa=>M.leftOf p c a
def dO(p:O) (d:V) (a:List B):Array V:=dw p d (af p a) (aj p a) (c a) (iQ p a)
structure jy (es:List t) (p:O) (l:List B):Prop where
 nJ:∀e∈es,p.has e.r e.c=true/\e.s≠0
 cQ:∀i (h:i<l.length),dC es l[i].row l[i].P=(l[i].st,l[i].pa,l[i].cl,l[i].un)
 size:es.length=l.countP λs=>s.st !=0
def a9(f:U) (S:Nat->Prop) (c:Nat) (p:O) (e:List B):Prop:=
 ∃a es d,X f c (dO p (.map (E a)) e) 164/\f.heap[a]? =E (bH es d)/\ez es d/\jy es p e/\S c/\S a
theorem G.map{S:Nat->Prop} {e w':U} (f:G S e w') {a:Nat} {es:List t} {c:Nat} (d:e.heap[a]? =E (bH es c)) (hs:¬S a):w'.heap[a]? =E (bH es c):=by
 rw[f.block a (Array.getElem?_eq_some_iff.1 d).1 hs];exact d
theorem a9.mod{w w':U} {S S':Nat->Prop} {a:Nat} {p:O} {i:List B} (m:a9 w S a p i) (e:G S' w w') (hs:∀f,S f->¬S' f):a9 w' S a p i:=by
 obtain⟨j,es,k,n,o,q,r,c,d⟩:=m;exact⟨j,es,k,e.has n (hs a c),e.map o (hs j d),q,r,c,d⟩
theorem a9.aD{d w':U} {S:Nat->Prop} {a:Nat} {p:O} {c:List B} (e:a9 d S a p c) (f:G No d w'):a9 w' S a p c:=e.mod f (λ_ _ i=>i)
theorem tP(a:List B) (hl:a.length<=1000) (c:B->Bool):0<=((a.countP c:Nat):Int)/\((a.countP c:Nat):Int)<=1000:=by
 have:=mg (p:=c) (l:=a);omega
theorem X.mh{f:U} {a e:Nat} {cs:Array V} {i:TypeId} {es:List t} {j:Nat} (c:X f a cs i) (d:f.heap[e]? =E (bH es j)):e≠a:=by
 rintro rfl;unfold X at c;rw[c] at d;simp[bH] at d
theorem wU{f:U} {a e:Nat} {cs:Array V} {c:TypeId} (d:X f a cs c) (i:e≠a) (j:Obj):X (setBlock f e j) a cs c:=by
 unfold X at d ⊢;simp[setBlock,pQ,i,d]
theorem tQ{d:U} {a:Nat} (e:a<d.heap.size) (c:Obj):(setBlock d a c).heap[a]? =E c:=by
 simp[setBlock,pQ,e]
theorem G.setBlock{S:Nat->Prop} {a f:U} (c:G S a f) {d:Nat} (j:S d\/a.heap.size<=d) (m:Obj):G S a (setBlock f d m):=by
 refine c.trans' (S':=λe=>e=d) ⟨rfl,rfl,rfl,by simp[ChangeMaps.setBlock],λe n k=>?_⟩ (λo hi hl=>by subst hi;obtain c|c:=j;exact c;omega);simp[ChangeMaps.setBlock,pQ];intro i;exact absurd i.symm k
set_option maxHeartbeats 4000000 in theorem Cs(e c aT f n' k':Nat) (p:O) (ae ag fs s af ah ai A B D aI:Nat->Int) (n m aU aV q r:Int) (j:U) (es ad:List t) (Q ab:Nat) (H:X j e (dw p (.map (E c)) ae ag fs s) 164) (u:j.heap[c]? =E (bH es Q)) (aL:∀d:U,d.heap[c]? =E (bH es Q)->(iO 162 (.map (E c)) (l #[y K n,y K m]) false).run T d=.ok (l #[y K aT,y K aU,y K f,y K aV]) d)
  (I:n'=0->∀(d:U) ty,d.heap[c]? =E (bH es Q)->(Builtin.delete_ #[162,36] ty #[.map (E c),l #[y K n,y K m]]).run T d=.ok (h #[]) (setBlock d c (bH ad ab))) (am:n'≠0->∀d:U,d.heap[c]? =E (bH es Q)->(Instr.mapUpdate 162 (.map (E c)) (l #[y K n,y K m]) (l #[y K n',y K q,y K k',y K r])).run T d=.ok () (setBlock d c (bH ad ab)))
  (aN:∀d,X d e (dw p (.map (E c)) ae ag fs s) 164->Calls T 134 #[b (E ⟨e,0,F⟩),l #[y K n,y K m],l #[y K aT,y K aU,y K f,y K aV],y K (-1)] d λa w'=>a=g (h #[])/\G (λf=>f=e) d w'/\X w' e (dw p (.map (E c)) af ah ai s) 164) (aO:∀d,X d e (dw p (.map (E c)) af ah ai s) 164->Calls T 134 #[b (E ⟨e,0,F⟩),l #[y K n,y K m],l #[y K n',y K q,y K k',y K r],y K 1] d λa w'=>a=g (h #[])/\G (λf=>f=e) d w'/\X w' e (dw p (.map (E c)) A B D s) 164)
  (aM:∀d,X d e (dw p (.map (E c)) A B D s) 164->Calls T 135 #[b (E ⟨e,0,F⟩)] d λa w'=>a=g (h #[])/\G (λf=>f=e) d w'/\X w' e (dw p (.map (E c)) A B D aI) 164):Calls T 118 #[b (E ⟨e,0,F⟩),l #[y K n,y K m],l #[y K n',y K q,y K k',y K r]] j λa w'=>a=g (h #[])/\G (λf=>f=e\/f=c) j w'/\X w' e (dw p (.map (E c)) A B D aI) 164/\w'.heap[c]? =E (bH ad ab):=by
 have J:=H.mh u;have a6:=H.lt;have P:=H.cell 7;rw[show(dw p (.map (E c)) ae ag fs s)[7]? =E (.map (E c)) from rfl] at P
 have a4:=aL (((j.alloc (v #[y K n,y K m] 36)).alloc (v #[y K n',y K q,y K k',y K r] 199))).drew (by
  have:=G.map (G.refl No j|>.alloc (v #[y K n,y K m] 36)|>.alloc (v #[y K n',y K q,y K k',y K r] 199)|>.drew) u (λo=>o)
  exact this)
 have aX:=i H;have aZ:=i u;have aY:=i I;have a2:=i am;have a0:=i aN;have a1:=i aO;have aA:=i aM;have w:=i J;clear H u aL I am aN aO aM J;go_enter func118,ntmps118;go_wp2_with fail;go_cut [] (λaW=>Hid (X aW e (dw p (.map (E c)) af ah ai s) 164)/\Hid (G (λf=>f=e) ((j.alloc (v #[y K n,y K m] 36)).alloc (v #[y K n',y K q,y K k',y K r] 199)) aW))
 case first=>
  go_region_with (go_at_call 134;refine((k a0) _ ?_).mono ?_;exact(((k aX).alloc _).alloc _).drew;rintro a w3 ⟨rfl,R,a5⟩)
  all_goals go_wp2
  all_goals go_meet
  all_goals exact⟨a5,(G.refl _ _).drew.trans R⟩
 case rest=>
  obtain⟨aK,L⟩:=hcut;have u:=k aZ;have J:=k w;have bf:=(Array.getElem?_eq_some_iff.1 u).1;have mw:G No j ((j.alloc (v #[y K n,y K m] 36)).alloc (v #[y K n',y K q,y K k',y K r] 199)):=((G.refl _ j).alloc _).alloc _;have aq:X ((j.alloc (v #[y K n,y K m] 36)).alloc (v #[y K n',y K q,y K k',y K r] 199)) j.heap.size #[y K n,y K m] 36:=(X.new j _ _).alloc _
  have ar:X ((j.alloc (v #[y K n,y K m] 36)).alloc (v #[y K n',y K q,y K k',y K r] 199)) (j.heap.size+1) #[y K n',y K q,y K k',y K r] 199:=by
   have:=X.new (j.alloc (v #[y K n,y K m] 36)) #[y K n',y K q,y K k',y K r] 199
   rwa [bj] at this
  have Y:∀f,f=e->f≠j.heap.size/\f≠j.heap.size+1:=λf bd=>by omega
  have x:=(k L).has aq (λa=>by have:=(Y _ a).1;omega);have z:=(k L).has ar (λa=>by have:=(Y _ a).2;omega);have R:=(k L).map (mw.map u (λo=>o)) (λa=>J a);have aB:G (λf=>f=e) j wc:=(mw.mono (λ_ _ o=>o.elim)).trans (k L);generalize aQ:j.heap.size=a3 at *;generalize aR:a3+1=bc at *;have aF:=x.cell;have aH:=z.cell;have aC:=i aB;have au:=i x;have av:=i z;have ax:=i R;have aE:=i Y;have a9:=i aQ
  have ba:=i aR;clear aq ar x z mw R u J Y aB L aQ aR P a4 a6;go_wp2_with fail;refine((k a1) _ (k aK)).mono ?_;rintro a aa ⟨rfl,M,aj⟩;have x:=M.has (k au) (λa=>by have:=((k aE) _ a).1;omega);have z:=M.has (k av) (λa=>by have:=((k aE) _ a).2;omega);have ao:=M.map (k ax) (λa=>(k w) a);have aD:=i ((k aC).trans M);have aw:=i aj;have ay:=i ao;have aS:=(Array.getElem?_eq_some_iff.1 ao).1
  have P:=aj.cell 7;rw[show(dw p (.map (E c)) A B D s)[7]? =E (.map (E c)) from rfl] at P;clear aF aH;have aF:=x.cell;have aH:=z.cell;clear aj x z M ao aC au av ax aK;by_cases S:n'=0
  ·subst S;have I:=(k aY) rfl aa.drew;have a8:=λty=>I ty (k ay);clear I;rw[show(((0:Nat):Int))=0 from rfl] at *;go_wp2_with fail;go_region
   all_goals
    go_wp2_with fail;refine((k aA) _ ?_).mono ?_
    ·exact wU (X.drew (k aw)) (k w) _
    rintro a a7 ⟨rfl,N,ak⟩;go_wp2;go_end0;have ap:c<aa.drew.heap.size:=aS;refine⟨rfl,(((k aD).drew.mono (λ_ _ o=>.inl o)).setBlock (.inl (.inr rfl)) _).trans (N.mono (λ_ _ o=>.inl o)),ak,N.map (tQ ap _) (λa=>(k w) a)⟩
  ·have bh:((n':Int)==0)=false:=by simp;omega
   have am:=(k a2) S aa.drew (k ay);have bb:=i S;clear S;go_wp2_with fail;go_region
   all_goals
    go_wp2_with fail;refine((k aA) _ ?_).mono ?_
    ·exact wU (X.drew (k aw)) (k w) _
    rintro a a7 ⟨rfl,N,ak⟩;go_wp2;go_end0;have ap:c<aa.drew.heap.size:=aS;refine⟨rfl,(((k aD).drew.mono (λ_ _ o=>.inl o)).setBlock (.inl (.inr rfl)) _).trans (N.mono (λ_ _ o=>.inl o)),ak,N.map (tQ ap _) (λa=>(k w) a)⟩
def L(p:O) (a:List B):Prop:=(⟨0,p,a,0⟩:aM).wf
theorem L.set{p:O} {a:List B} (c:L p a) {d:Nat} (hi:d<a.length) {e:B} (hs:e.wf) (o:e.row=a[d].row) (hc:e.P=a[d].P):L p (a.set d e):=by
 refine⟨c.sized,c.limited,by simpa using c.len,λj m=>?_,λr q=>?_⟩
 ·have n:j<a.length:=by simpa using m
  have i:=c.place j n;simp only[mi] at i ⊢;split
  ·rename_i k;subst k;rw[o,hc];exact i
  ·exact i
 ·obtain f|f:=List.mem_or_eq_of_mem_set q
  ·exact c.cQ r f
  ·rw[f];exact hs
theorem wV{p:O} {a:List B} (d:L p a):iQ p a 0=max (min (af p a 0+aj p a 0) (p.I - (c a 0+c a 1+c a 2+c a 3))) 0/\iQ p a 1=max (min (min (af p a 0+aj p a 0) (p.I - (c a 0+c a 1+c a 2+c a 3))) (p.R - (c a 1+c a 2+c a 3))) 0/\iQ p a 2=max (min (min (min (af p a 0+aj p a 0) (p.I - (c a 0+c a 1+c a 2+c a 3))) (p.R - (c a 1+c a 2+c a 3))) (p.n - (c a 2+c a 3))) 0/\
  iQ p a 3=max (min (min (min (min (af p a 0+aj p a 0) (p.I - (c a 0+c a 1+c a 2+c a 3))) (p.R - (c a 1+c a 2+c a 3))) (p.n - (c a 2+c a 3))) (p.f - c a 3)) 0:=by
 obtain⟨f0,f1,f2,f3⟩:=Cm a (λe hs=>⟨(d.cQ e hs).kX,(d.cQ e hs).c1⟩);have hf:=Cl p a;have f:((cY a:Nat):Int)=af p a 0+aj p a 0:=by rw[hf];simp[af,aj]
 have i:((dN 0 a:Nat):Int)=c a 0+c a 1+c a 2+c a 3:=by rw[f0];simp[c]
 have j:((dN 1 a:Nat):Int)=c a 1+c a 2+c a 3:=by rw[f1];simp[c]
 have k:((dN 2 a:Nat):Int)=c a 2+c a 3:=by rw[f2];simp[c]
 have m:((dN 3 a:Nat):Int)=c a 3:=by rw[f3];simp[c]
 simp only[iQ,M.leftOf,nE,O.aZ];simp only[show((0:Nat):Int)+1=1 from rfl,show((1:Nat):Int)+1=2 from rfl,show((2:Nat):Int)+1=3 from rfl,f,i,j,k,m];exact⟨trivial,trivial,trivial,trivial⟩
theorem wW{p:O} {a:List B} (k:L p a) (j:Nat):0<=af p a j/\af p a j<=1000/\0<=aj p a j/\aj p a j<=1000/\0<=c a j/\c a j<=1000:=by
 have hl:a.length<=1000:=by have:=k.gU;simp only at this;omega
 have e:=tP a hl λd=>(decide (d.row<=p.front)==true)&&d.st==(j:Int);have f:=tP a hl λd=>(decide (d.row<=p.front)==false)&&d.st==(j:Int);have i:=tP a hl λd=>d.cX&&d.cl==(j:Int);exact⟨e.1,e.2,f.1,f.2,i.1,i.2⟩
theorem Ct{p:O} {k:V} {a e m f a' b' n i:Nat->Int} (c:∀j,j<4->a j=a' j) (hb:∀j,j<4->e j=b' j) (hs:∀j,j<4->m j=n j) (d:∀j,j<4->f j=i j):dw p k a e m f=dw p k a' b' n i:=by
 unfold dw
 rw[c 0 (by omega),c 1 (by omega),c 2 (by omega),c 3 (by omega),hb 0 (by omega),hb 1 (by omega),hb 2 (by omega),hb 3 (by omega),hs 0 (by omega),hs 1 (by omega),hs 2 (by omega),hs 3 (by omega),
  d 0 (by omega),d 1 (by omega),d 2 (by omega),d 3 (by omega)]
theorem wX{p:O} (a:p.limited=true):0<=p.I/\p.I<=1000/\0<=p.R/\p.R<=1000/\0<=p.n/\p.n<=1000/\0<=p.f/\p.f<=1000:=by
 simp only[O.limited,decide_eq_true_eq] at a;omega
theorem tR(e:Nat->Int) (d n' j:Nat):bL (bL e d (e d+ -1)) n' (bL e d (e d+ -1) n'+1) j=e j - (if d=j then 1 else 0)+(if n'=j then 1 else 0):=by
 unfold bL;by_cases f:j=d
 ·subst f;by_cases c:j=n'
  ·subst c;simp;omega
  ·rw[if_neg c,if_pos rfl,if_pos rfl,if_neg (λa=>c a.symm)];omega
 ·by_cases c:j=n'
  ·subst c;rw[if_pos rfl,if_neg f,if_neg (λa=>f a.symm),if_pos rfl];omega
  ·rw[if_neg c,if_neg f,if_neg (λa=>f a.symm),if_neg (λa=>c a.symm)];omega
theorem ki(a j:Nat):((a:Int)==(j:Int))=decide (a=j):=by
 by_cases c:a=j
 ·subst c;simp
 ·simp[c];omega
theorem Cu(p:O) {a:List B} {c:Nat} (hi:c<a.length) (f:B) (d n':Nat) (k:a[c].st=d) (m:f.st=n') (n:f.row=a[c].row) (j:Nat):(if a[c].row<=p.front then bL (if a[c].row<=p.front then bL (af p a) d (af p a d+ -1) else af p a) n' ((if a[c].row<=p.front then bL (af p a) d (af p a d+ -1) else af p a) n'+1) else(if a[c].row<=p.front then bL (af p a) d (af p a d+ -1) else af p a)) j=af p (a.set c f) j:=by
 have i:af p (a.set c f) j=af p a j - (if (decide (a[c].row<=p.front)==true&&decide (d=j))=true then 1 else 0)+(if (decide (a[c].row<=p.front)==true&&decide (n'=j))=true then 1 else 0):=by
  simp only[af,iJ];rw[countP_set _ _ _ hi,k,m,n,ki,ki]
 rw[i];by_cases e:a[c].row<=p.front
 ·rw[if_pos e,if_pos e,tR];simp[e]
 ·rw[if_neg e,if_neg e];simp[e]
theorem Cv(p:O) {a:List B} {c:Nat} (hi:c<a.length) (f:B) (d n':Nat) (k:a[c].st=d) (m:f.st=n') (n:f.row=a[c].row) (j:Nat):(if a[c].row<=p.front then(if a[c].row<=p.front then aj p a else bL (aj p a) d (aj p a d+ -1)) else bL (if a[c].row<=p.front then aj p a else bL (aj p a) d (aj p a d+ -1)) n' ((if a[c].row<=p.front then aj p a else bL (aj p a) d (aj p a d+ -1)) n'+1)) j=aj p (a.set c f) j:=by
 have i:aj p (a.set c f) j=aj p a j - (if (decide (a[c].row<=p.front)==false&&decide (d=j))=true then 1 else 0)+(if (decide (a[c].row<=p.front)==false&&decide (n'=j))=true then 1 else 0):=by
  simp only[aj,iJ];rw[countP_set _ _ _ hi,k,m,n,ki,ki]
 rw[i];by_cases e:a[c].row<=p.front
 ·rw[if_pos e,if_pos e];simp[e]
 ·rw[if_neg e,if_neg e,tR];simp[e]
theorem wY(c:B) (a:Nat) (d:c.st=a):c.cX=decide (a=1\/a=2):=by
 unfold B.cX;rw[d,show(1:Int)=((1:Nat):Int) from rfl,show(2:Int)=((2:Nat):Int) from rfl,ki,ki];simp
theorem Cw(f:Nat->Int) (d i n' k' j:Nat):jx n' k' 1 (jx d i (-1) f) j=f j - (if (decide (d=1\/d=2)&&decide (i=j))=true then 1 else 0)+(if (decide (n'=1\/n'=2)&&decide (k'=j))=true then 1 else 0):=by
 unfold jx;by_cases c:d=1\/d=2
 ·by_cases a:n'=1\/n'=2
  ·rw[if_pos c,if_pos a,tR];simp[c,a]
  ·rw[if_pos c,if_neg a];simp[c,a,bL];split<;>simp_all<;>omega
 ·by_cases a:n'=1\/n'=2
  ·rw[if_neg c,if_pos a];unfold bL;by_cases e:j=k'
   ·subst e;simp[c,a]
   ·rw[if_neg e];simp[c,a,show ¬k'=j from λk=>e k.symm]
  ·rw[if_neg c,if_neg a];simp[c,a]
theorem Cx{a:List B} {d:Nat} (hi:d<a.length) (f:B) (e n' i k':Nat) (n:a[d].st=e) (o:f.st=n') (k:a[d].cl=i) (m:f.cl=k') (j:Nat):jx n' k' 1 (jx e i (-1) (c a)) j=c (a.set d f) j:=by
 rw[Cw];simp only[c,gd];rw[countP_set _ _ _ hi,wY _ e n,wY _ n' o,k,m,ki,ki]
theorem tS{c:Nat->Int} {i:Nat} {a:Int} (d:Small c) (hv: -100000<=a/\a<=100000):Small (bL c i a):=λf e=>by
 unfold bL;split
 ·exact hv
 ·exact d f e
structure bo (w:U) (b:Nat) (p:O) (l:List B) (m:Nat) (es:List t) (clock:Nat):Prop where
 has:X w b (dO p (.map (E m)) l) 164
 map:w.heap[m]? =E (bH es clock)
 ok:ez es clock
 rel:jy es p l
def jz(es:List t) (c:Nat) (a:B):List t×Nat:=if a.st=0 then(il es a.row a.P,c) else jR es c a.row a.P a.st a.pa a.cl a.un
theorem wZ{es:List t} {p:O} {d:List B} (e:jy es p d) {c:Nat} (hi:c<d.length):(es.findIdx? (t.is d[c].row d[c].P)).isSome=(d[c].st !=0):=by
 have a:=e.cQ c hi;unfold dC at a;rw[pP] at a
 cases hf:es.findIdx? (t.is d[c].row d[c].P) with
 |none=>rw[hf] at a;simp at a;simp[<-a.1]
 |some i=>
  have f:=(List.findIdx?_eq_some_iff_getElem.1 hf).1;rw[hf] at a;simp[f] at a;have:=(e.nJ _ (dD f)).2;simp;omega
theorem Cy{es:List t} {p:O} {c:List B} (j:jy es p c) {e:Nat} (hi:e<c.length) (a:B) (s:a.row=c[e].row) (hc:a.P=c[e].P) (n:Nat):(jz es n a).1.length=(c.set e a).countP λa=>a.st !=0:=by
 have hf:=wZ j hi;have hs:=j.size;have f:=countP_set (λa=>a.st !=0) c e hi a;have r:(c[e].st !=0)=true->1<=c.countP λa=>a.st !=0:=λq=>List.countP_pos_iff.2 ⟨_,dD hi,q⟩;unfold jz;rw[s,hc];by_cases i:a.st=0
 ·rw[if_pos i]
  cases d:es.findIdx? (t.is c[e].row c[e].P) with
  |none=>
   rw[d] at hf;rw[wF d];show es.length=_;rw[<-hf] at f;simp[i] at f;omega
  |some m=>
   rw[d] at hf;have o:=(List.findIdx?_eq_some_iff_getElem.1 d).1;rw[wD d];show(es.eraseIdx m).length=_;rw[List.length_eraseIdx,if_pos o];have:=r (by rw[<-hf];rfl);rw[<-hf] at f;simp[i] at f;omega
 ·rw[if_neg i];have k:(a.st !=0)=true:=by simp[i]
  cases d:es.findIdx? (t.is c[e].row c[e].P) with
  |none=>
   rw[d] at hf;rw[rp d];rw[<-hf,k] at f;simp at f;simp;omega
  |some m=>
   rw[d] at hf;rw[rm d];rw[<-hf,k] at f;simp at f;simp;omega
theorem rv{w u k:Nat} {p:O} {a:List B} {es:List t} {Y:U} (ab:bo Y w p a u es k) (z:L p a) (e:Nat) (hi:e<a.length) (d:B) (hs:d.wf) (n:d.row=a[e].row) (hc:d.P=a[e].P):Calls T 118 #[b (E ⟨w,0,F⟩),l #[y K d.row,y K d.P],l #[y K d.st,y K d.pa,y K d.cl,y K d.un]] Y λr w'=>
   r=g (h #[])/\bo w' w p (a.set e d) u (jz es k d).1 (jz es k d).2/\G (λq=>q=w\/q=u) Y w':=by
 obtain⟨aK,aL,A,H⟩:=ab;have R:=z.cQ _ (dD hi);obtain⟨i,Q⟩:=oS R.kW;obtain⟨q,am⟩:=oS R.kX;obtain⟨n',s⟩:=oS hs.kW;obtain⟨k',P⟩:=oS hs.kX;have ay:i<4:=by have:=R.s1;omega
 have aw:q<4:=by have:=R.c1;omega
 have aA:n'<4:=by have:=hs.s1;omega
 have ax:k'<4:=by have:=hs.c1;omega
 have aR:=(z.jd hi).1;simp only[O.has,decide_eq_true_eq] at aR;obtain⟨aq,ar,au,av,_⟩:=z.bounds;simp only at aq ar au av;have X:0<=d.row/\d.row<=1000:=by rw[n];omega
 have S:0<=d.P/\d.P<=1000:=by rw[hc];omega
 have ao:=H.cQ e hi;rw[<-n,<-hc] at ao;have ap:=z.set hi hs n hc;have D:∀f,0<=af p a f/\af p a f<=1000/\0<=aj p a f/\aj p a f<=1000/\0<=c a f/\c a f<=1000:=wW z;have I:∀f,0<=af p (a.set e d) f/\af p (a.set e d) f<=1000/\0<=aj p (a.set e d) f/\aj p (a.set e d) f<=1000/\0<=c (a.set e d) f/\c (a.set e d) f<=1000:=wW ap;have ae:Small (af p a):=λf _=>by have:=D f;omega
 have ag:Small (aj p a):=λf _=>by have:=D f;omega
 have ah:Small (c a):=λf _=>by have:=D f;omega
 have aT:Small (if a[e].row<=p.front then bL (af p a) i (af p a i+ -1) else af p a):=by
  split
  ·exact tS ae (by have:=D i;omega)
  ·exact ae
 have aU:Small (if a[e].row<=p.front then aj p a else bL (aj p a) i (aj p a i+ -1)):=by
  split
  ·exact ag
  ·exact tS ag (by have:=D i;omega)
 have aV:Small (jx i q (-1) (c a)):=by
  unfold jx;split
  ·exact tS ah (by have:=D q;omega)
  ·exact ah
 have ai:∀aa,dw p (.map (E u)) (if a[e].row<=p.front then bL (if a[e].row<=p.front then bL (af p a) i (af p a i+ -1) else af p a) n' ((if a[e].row<=p.front then bL (af p a) i (af p a i+ -1) else af p a) n'+1) else(if a[e].row<=p.front then bL (af p a) i (af p a i+ -1) else af p a))
   (if a[e].row<=p.front then(if a[e].row<=p.front then aj p a else bL (aj p a) i (aj p a i+ -1)) else bL (if a[e].row<=p.front then aj p a else bL (aj p a) i (aj p a i+ -1)) n' ((if a[e].row<=p.front then aj p a else bL (aj p a) i (aj p a i+ -1)) n'+1))
   (jx n' k' 1 (jx i q (-1) (c a))) aa=dw p (.map (E u)) (af p (a.set e d)) (aj p (a.set e d)) (c (a.set e d)) aa:=λaa=>
  Ct (λf _=>Cu p hi d i n' Q s n f) (λf _=>Cv p hi d i n' Q s n f) (λf _=>Cx hi d i n' q k' Q s am P f) (λ_ _=>rfl)
 have aN:dC es d.row d.P=((i:Int),a[e].pa,(q:Int),a[e].un):=by rw[ao,Q,am]
 have J:n'=0->jz es k d=(il es d.row d.P,k):=λj=>by unfold jz;rw[if_pos (by rw[s,j];rfl)]
 have M:n'≠0->jz es k d=jR es k d.row d.P n' d.pa k' d.un:=λj=>by unfold jz;rw[if_neg (by rw[s];omega),s,P]
 have aS:=Cs w u i q n' k' p (af p a) (aj p a) (c a) (iQ p a) _ _ _ _ _ _ (iQ p (a.set e d)) d.row d.P a[e].pa a[e].un d.pa d.un Y es
  (jz es k d).1 k (jz es k d).2 aK aL
  (λo m=>by
   have:=rj o u es k m A d.row d.P X S
   rw[aN] at this
   exact this)
  (λj o ty m=>by
   rw[J j]
   exact Co o u es k ty m A d.row d.P X S)
  (λj o m=>by
   rw[M j]
   have:=Cp o u es k m A d.row d.P n' d.pa k' d.un X S
   unfold jR
   cases hf:es.findIdx? (t.is d.row d.P)<;>rw[hf] at this<;>exact this)
  (λo m=>wT w i q p _ _ _ _ _ d.row d.P a[e].pa a[e].un (-1) o m ay aw ae ag ah (by omega))
  (λo m=>wT w n' k' p _ _ _ _ _ d.row d.P d.pa d.un 1 o m aA ax (by rw[n];exact aT) (by rw[n];exact aU) aV (by omega))
  (λo m=>by
   rw[n] at m ⊢
   rw[ai] at m ⊢
   obtain⟨aB,aC,aD,aE⟩:=wV ap
   have ls:=wX z.limited
   simp only at ls
   refine(wN w p.rows p.w p.front p.I p.R p.n p.f _ _ _ _ _ _ _ _ _ _ _ _ _ _ _ _ _ _ o m (by have:=I 0;omega) (by have aW:=I 0;have aX:=I 1;have aY:=I 2;have aZ:=I 3;omega) ls).mono ?_
   rintro r w' ⟨rfl,ad,x⟩
   refine⟨rfl,ad,?_⟩
   rw[<-aB,<-aC,<-aD,<-aE] at x
   exact x)
 rw[s,P];refine aS.mono ?_;rintro r w' ⟨rfl,ad,x,aQ⟩;rw[n,ai] at x;refine⟨rfl,⟨x,aQ,?_,?_⟩,ad⟩
 ·by_cases j:n'=0
  ·rw[J j];exact A.drop _ _
  ·rw[M j];exact A.put _ _ _ _ _ _ X S
 ·constructor
  ·intro r N;by_cases j:n'=0
   ·rw[J j] at N;exact H.nJ r (wL N)
   ·rw[M j] at N;obtain ab|⟨aF,aH,aI⟩:=Cr N
    ·exact H.nJ r ab
    ·refine⟨?_,by rw[aI];omega⟩;rw[aF,aH,n,hc];exact(z.jd hi).1
  ·intro f aM;have ak:f<a.length:=by simpa using aM
   have aO:dC (jz es k d).1 (a.set e d)[f].row (a.set e d)[f].P=
     if (a.set e d)[f].row=d.row/\(a.set e d)[f].P=d.P then(d.st,d.pa,d.cl,d.un) else dC es (a.set e d)[f].row (a.set e d)[f].P:=by
    by_cases j:n'=0
    ·rw[J j];have hb:=hs.bare (.inl (by rw[s,j];rfl));rw[wJ A,s,j,hb.1,hb.2.1,hb.2.2];rfl
    ·rw[M j,Cq A,s,P]
   rw[aO];simp only[mi];by_cases r:e=f
   ·subst r;simp
   ·simp only[r,if_false];rw[if_neg (λx=>r (z.tM hi ak (by rw[<-n,x.1]) (by rw[<-hc,x.2])))];exact H.cQ f ak
  ·exact Cy H hi d n hc k
theorem pV{S:Nat->Prop} {f:Nat} {p:O} {c:List B} {i:U} (n:a9 i S f p c) (x:L p c) (d:Nat) (hi:d<c.length) (a:B) (hs:a.wf) (w:a.row=c[d].row) (hc:a.P=c[d].P):Calls T 118 #[b (E ⟨f,0,F⟩),l #[y K a.row,y K a.P],l #[y K a.st,y K a.pa,y K a.cl,y K a.un]] i λj w'=>
   j=g (h #[])/\a9 w' S f p (c.set d a)/\G S i w':=by
 obtain⟨z,es,A,o,q,r,s,k,m⟩:=n;refine(rv ⟨o,q,r,s⟩ x d hi a hs w hc).mono ?_;rintro j w' ⟨rfl,e,u⟩;exact⟨rfl,⟨z,_,_,e.has,e.map,e.ok,e.rel,k,m⟩,u.mono (λD _ t=>by obtain rfl|rfl:=t;exact k;exact m)⟩
end Go.Proofs.YthhibagcpjeihaaGreat
