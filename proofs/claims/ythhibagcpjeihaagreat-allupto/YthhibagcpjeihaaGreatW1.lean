import Derived.Test.YthhibagcpjeihaaGreatRows
import Derived.WalkKit
import Derived.ProofKit
import Derived.Deep.RegionLawGrows
import Derived.BigQuiet
import Derived.Deep.QuietTactic
import Derived.WideKeyArgs
import Derived.DeepKeys4
import Derived.MapViews
open Go.Proofs.Tryz
open Go.Addr renaming mk->u
open Go.Value renaming int->F,pointer->g,slice->C,bool->L,agg->t,tuple->aq,ownBlock->aV
open Go.IntKind renaming i64->K,signed->oz
open Option renaming none->J,some->E
open Go renaming World->U,Value->V
open Go.Proofs.Tryz renaming prog->h,underlying162->oA
open Go.Ending renaming returned->q
open Go.Obj renaming cells->m
open Go.Instr renaming lookup->ji,index->iQ
set_option linter.unusedVariables false
set_option maxRecDepth 100000
set_option maxHeartbeats 2000000
set_option linter.unusedSimpArgs false
set_option linter.defProp false
namespace Go.Proofs.YthhibagcpjeihaaGreat
def Bx:=@Array.ext
def da:=@Array.getElem?_eq_getElem
def Bw:=@Array.getElem?_eq_none
def tO:=@Array.getElem?_setIfInBounds
def mn:=@Array.getElem?_setIfInBounds_ne
def vI:=@Array.getElem?_setIfInBounds_self_of_lt
def dy:=@Array.getElem?_toList
def BW:=@Array.length_toList
def Jo:=@Array.mem_of_getElem?
def uH:=@Array.toList_append
def vy:=@Bool.and_eq_false_iff
def mX:=@Bool.and_eq_true
def mg:=@Bool.false_eq_true
def Sy:=@Bool.not_eq_false'
def BS:=@Bool.or_eq_true
def CS:=@Go.DataW.trod_int
def Me:=@Go.DataW.trod_slice
def zh:=@Go.DataW.trod_struct
def lF:=@Go.IntKind.wrap_i64
def BP:=@Go.Oper.wp_mono
def BC:=@Go.Result.andThen_ok
def yr:=@Go.Sem.run_bind
def jk:=@Go.World.block_lt_of_cell?
def oB:=@Go.World.cell?_of_block
def OU:=@Go.World.cells?_some
def dx:=@Go.World.ownsRow_nil
def bW:=@Go.World.size_alloc
def ny:=@Go.World.size_setCell
def cN:=@Go.bodyPost_ret
def kD:=@Go.getD_set_ne
def fq:=@Go.info_parts
def jj:=@Go.run_underlying
def sJ:=@Go.wpQuiet_nil
def od:=@Go.wp_block
def yj:=@Int.emod_lt_of_pos
def yi:=@Int.emod_nonneg
def sq:=@Int.eq_ofNat_of_zero_le
def rF:=@Int.le_refl
def G5:=@Int.le_trans
def sN:=@Int.lt_or_le
def tL:=@Int.mul_le_mul
def Bb:=@Int.mul_le_mul_of_nonneg_right
def ky:=@Int.mul_nonneg
def Ew:=@Int.mul_pos
def ze:=@Int.natCast_nonneg
def wv:=@Int.tdiv_eq_ediv_of_nonneg
def ux:=@Int.tmod_eq_emod_of_nonneg
def sK:=@Int.toNat_natCast
def JU:=@List.Sublist.refl
def cQ:=@List.append_assoc
def dG:=@List.append_nil
def qO:=@List.countP_append
def mW:=@List.countP_cons
def Cq:=@List.countP_eq_length_filter
def uh:=@List.countP_eq_zero
def oF:=@List.countP_le_length
def Cn:=@List.countP_map
def BQ:=@List.countP_mono_left
def yS:=@List.countP_singleton
def zq:=@List.drop_eq_getElem_cons
def iC:=@List.eq_nil_of_length_eq_zero
def Bf:=@List.eraseIdx_sublist
def yL:=@List.ext_getElem
def BF:=@List.ext_getElem?
def RD:=@List.filterMap_append
def oW:=@List.filterMap_cons
def oX:=@List.filterMap_nil
def Cx:=@List.filter_append
def uY:=@List.filter_cons_of_neg
def xH:=@List.filter_cons_of_pos
def yn:=@List.find?_append
def mi:=@List.find?_cons
def Iu:=@List.findIdx?_cons
def nd:=@List.findIdx?_eq_none_iff
def jC:=@List.findIdx?_eq_some_iff_getElem
def jW:=@List.flatMap_append
def jE:=@List.flatMap_cons
def uw:=@List.flatMap_nil
def Sk:=@List.flatten_append
def sI:=@List.foldl_append
def jT:=@List.foldl_cons
def nM:=@List.foldl_nil
def qR:=@List.getD_eq_getElem?_getD
def vK:=@List.getElem?_append_left
def tS:=@List.getElem?_append_right
def Bs:=@List.getElem?_cons_succ
def Bt:=@List.getElem?_cons_zero
def zi:=@List.getElem?_drop
def du:=@List.getElem?_eq_getElem
def tU:=@List.getElem?_eq_none
def qC:=@List.getElem?_map
def oD:=@List.getElem?_take
def Br:=@List.getElem?_toArray
def sW:=@List.getElem_append_left
def uM:=@List.getElem_append_right
def vB:=@List.getElem_cons_succ
def Ex:=@List.getElem_cons_zero
def uI:=@List.getElem_drop
def sF:=@List.getElem_map
def eK:=@List.getElem_mem
def kB:=@List.getElem_of_mem
def CK:=@List.getElem_range
def pK:=@List.getElem_set
def qX:=@List.getElem_set_ne
def ph:=@List.getElem_set_self
def rm:=@List.getElem_take
def bG:=@List.length_append
def eL:=@List.length_cons
def oZ:=@List.length_drop
def sP:=@List.length_filter_le
def ui:=@List.length_map
def iR:=@List.length_nil
def yG:=@List.length_range
def kH:=@List.length_set
def ri:=@List.length_singleton
def eO:=@List.length_take
def qK:=@List.map_append
def oC:=@List.map_cons
def Ti:=@List.map_flatten
def BD:=@List.map_nil
def IB:=@List.map_toArray
def jR:=@List.mem_append
def rN:=@List.mem_cons_of_mem
def qB:=@List.mem_cons_self
def kA:=@List.mem_map
def Ir:=@List.mem_map_of_mem
def Be:=@List.mem_of_mem_eraseIdx
def sM:=@List.mem_of_mem_take
def Ce:=@List.mem_or_eq_of_mem_set
def Jf:=@List.mem_singleton
def Bh:=@List.modify_succ_cons
def qJ:=@List.nil_append
def Jp:=@List.nodup_range
def rU:=@List.pairwise_cons
def mh:=@List.pairwise_iff_getElem
def ug:=@List.range_succ
def oY:=@List.setIfInBounds_toArray
def nO:=@List.set_cons_succ
def nN:=@List.set_cons_zero
def Qj:=@List.set_eq_nil_iff
def pj:=@List.set_getElem_self
def uL:=@List.set_set
def wZ:=@List.sum_cons
def mD:=@List.take_add_one
def EA:=@List.take_append_drop
def zV:=@List.take_append_of_le_length
def fN:=@List.take_length
def Sp:=@List.take_length_add_append
def wk:=@List.take_of_length_le
def Dv:=@List.take_succ_eq_append_getElem
def BU:=@List.take_take
def DD:=@List.take_zero
def BM:=@Nat.add_assoc
def lE:=@Nat.add_mul
def sL:=@Nat.add_sub_cancel
def tP:=@Nat.add_zero
def vO:=@Nat.le_of_lt
def cz:=@Nat.le_refl
def cC:=@Nat.le_trans
def yv:=@Nat.lt_irrefl
def bj:=@Nat.lt_of_lt_of_le
def KQ:=@Nat.lt_succ_self
def yK:=@Nat.lt_trichotomy
def uc:=@Nat.min_eq_left
def CL:=@Nat.mul_comm
def pC:=@Nat.mul_le_mul_right
def pG:=@Nat.ne_of_lt
def fK:=@Nat.not_lt_zero
def sf:=@Nat.one_mul
def BK:=@Nat.pow_succ
def bK:=@Nat.zero_add
def gr:=@Nat.zero_le
def vJ:=@Nat.zero_mul
def su:=@Ne.symm
def Jn:=@Option.bind_some
def xF:=@Option.map_none
def uN:=@Option.map_some
def bD:=@Option.some.inj
def wh:=@Option.some.injEq
def qS:=@Option.toList_some
def qP:=@Prod.mk.injEq
def tM:=@beq_eq_false_iff_ne
def lD:=@beq_iff_eq
def mu:=@congrArg
def qF:=@decide_eq_false
def eA:=@decide_eq_true_eq
def jQ:=@if_false
def f:=@if_neg
def D:=@if_pos
def iP:=@if_true
def si:=@not_true_eq_false
def rP:=@of_decide_eq_true
open Go.RowKit
theorem l{p:Prop}(a:p):Hid p:=a
theorem b{p:Prop}(a:Hid p):p:=a
def X(d:U)(b:Nat)(c:Array V)(a:TypeId):Prop:=d.heap[b]? =E (m c a (0,0))
variable {v:U} {S o:Nat} {k:Array V} {I:TypeId} {w Q P p:Int} {B:List V} {R:Type} {i:V} {n:Program}
theorem X.T(a:X v S k I)(b:Nat):v.cell? (u S b J)=k[b]? :=by
 unfold X at a;simp[World.cell?,a]
theorem X.aC{T:TypeId}(a:X v S k T)(b:Nat):v.frozen? (u S b J)=false:=by
 unfold X at a;simp[World.frozen?,a]
theorem X.lt(a:X v S k I):S<v.heap.size:=(Array.getElem?_eq_some_iff.1 a).1
theorem X.ne{b':Nat}{cs':Array V}{T':TypeId}(b:X v S k I)(a:X v b' cs' T')(d:I≠T'):S≠b':=by
 rintro rfl;unfold X at b a;rw[b] at a;injection a with a;injection a with _ c;exact d c
structure G (S:Nat->Prop) (w w':U):Prop where
 os:w'.os=w.os
 tape:w'.tape=w.tape
 output:w'.output=w.output
 size:w.heap.size<=w'.heap.size
 block:∀k,k<w.heap.size->¬S k->w'.heap[k]? =w.heap[k]?
def No:Nat->Prop:=λ_=>False
theorem G.refl(S:Nat->Prop)(a:U):G S a a:=⟨rfl,rfl,rfl,cz _,λ_ _ _=>rfl⟩
theorem G.trans{S:Nat->Prop}{a d:U}(b:G S a v)(c:G S v d):G S a d:=
 ⟨c.os.trans b.os,c.tape.trans b.tape,c.output.trans b.output,cC b.size c.size,
  λi hi e=>(c.block i (bj hi b.size) e).trans (b.block i hi e)⟩
theorem G.trans'{S S':Nat->Prop}{a e:U}(c:G S a v)(d:G S' v e)(hS:∀b,S' b->b<a.heap.size->S b):G S a e:=
 ⟨d.os.trans c.os,d.tape.trans c.tape,d.output.trans c.output,cC c.size d.size,
  λb hi i=>(d.block b (bj hi c.size) (λj=>i (hS b j hi))).trans (c.block b hi i)⟩
theorem G.mono{S S':Nat->Prop}{a:U}(c:G S a v)(hS:∀b,b<a.heap.size->S b->S' b):G S' a v:=
 ⟨c.os,c.tape,c.output,c.size,λb hi e=>c.block b hi (λd=>e (hS b hi d))⟩
theorem G.drew{S:Nat->Prop}{a:U}(b:G S a v):G S a v.drew:=⟨b.os,b.tape,b.output,b.size,b.block⟩
theorem G.drewN{S:Nat->Prop}{a:U}(b:G S a v)(c:Nat):G S a (v.drewN c):=⟨b.os,b.tape,b.output,b.size,b.block⟩
theorem G.alloc{S:Nat->Prop}{a w:U}(b:G S a w)(d:Obj):G S a (w.alloc d):=
 b.trans ⟨rfl,rfl,rfl,by simp,λe c _=>Below.heap_alloc _ _ _ c⟩
theorem G.setCell{S:Nat->Prop}{a:U}(d:G S a v){p:Addr}(b:S p.block\/a.heap.size<=p.block)(i:V):G S a (v.setCell p i):=
 d.trans' (S':=λc=>c=p.block) ⟨rfl,rfl,rfl,by simp,λc _ e=>Below.heap_setCell _ _ _ _ e⟩
  (λk hi j=>by subst hi;obtain b|b:=b;exact b;omega)
theorem G.grown{S:Nat->Prop}{a w w':U}{row:Option Nat}(e:G S a w)(c:w.grownBy w' row)(k:∀b,row=E b->S b\/a.heap.size<=b):G S a w':=
 e.trans' (S':=λb=>E b=row) ⟨c.os,c.tape,c.output,c.size,λb i j=>c.block b i j⟩
  (λl hi n=>by obtain d|d:=k l hi.symm;exact d;omega)
theorem G.e{S:Nat->Prop}{w':U}(b:G S v w')(a:X v o k I)(c:¬S o):X w' o k I:=by
 unfold X;rw[b.block o a.lt c];exact a
theorem G.owns{S:Nat->Prop}{w':U}(l:G S v w'){size:Nat}{e:Nat}(c:v.ownsRow o I size i e B)(r:∀d,i.ownBlock=E d->¬S d):w'.ownsRow o I size i e B:=by
 refine⟨c.1,?_⟩;obtain p|⟨a,j,k,rfl,n,b,rest⟩:=c.2
 .exact .inl p
 .exact .inr ⟨a,j,k,rfl,n,by rw[l.block a (Array.getElem?_eq_some_iff.1 b).1 (r a rfl)];exact b,rest⟩
theorem G.below{w':U}(a:G No v w'):Below v.heap.size v w':=⟨a.os,a.tape,a.output,a.size,λc b=>a.block c b (λd=>d)⟩
theorem X.alloc{w:U}(a:X w S k I)(b:Obj):X (w.alloc b) S k I:=by
 unfold X;rw[Below.heap_alloc _ _ _ a.lt];exact a
theorem X.new(a:U)(c:Array V)(b:TypeId):X (a.alloc (m c b)) a.heap.size c b:=by
 unfold X;exact heap_alloc_new a _
theorem X.drew(a:X v S k I):X v.drew S k I:=a
theorem X.drewN(a:X v S k I)(b:Nat):X (v.drewN b) S k I:=a
theorem X.set{T:TypeId}(a:X v S k T)(b:Nat)(c:V):X (v.setCell (u S b J) c) S (k.setIfInBounds b c) T:=by
 unfold X at a ⊢;simp[World.setCell,Array.getElem?_modify,a]
theorem X.eJ(b:X v S k I){a:Addr}(c:S≠a.block)(d:V):X (v.setCell a d) S k I:=by
 unfold X;rw[Below.heap_setCell _ _ _ _ c];exact b
theorem jh{size:Nat}(b:v.ownsRow S I size i o B){a:Addr}(j:i.ownBlock≠E a.block)(p:V):(v.setCell a p).ownsRow S I size i o B:=by
 refine⟨b.1,?_⟩;obtain n|⟨e,c,d,rfl,k,l,rest⟩:=b.2
 .exact .inl n
 .refine .inr ⟨e,c,d,rfl,k,?_,rest⟩;rw[Below.heap_setCell _ _ _ _ (by intro I;exact j (by simp[aV,I]))];exact l
end Go.Proofs.YthhibagcpjeihaaGreat
namespace Go.Proofs.YthhibagcpjeihaaGreat.M
structure z where
 row:Int
 ae:Int
 st:Int
 pa:Int
 cl:Int
 un:Int
structure O where
 rows:Int
 y:Int
 Z:Int
 af:Int
 ag:Int
 ai:Int
 aj:Int
 ep:Int
structure bV where
 num:Int
 c:O
 Y:List z
 ep:Int
structure aK where
 kind:Int
 aF:Int
 aA:Int
 ac:Int
 dd:Int
 de:Int
 bJ:Int
 bF:Int
 time:Int
 c:O
def ik(a:Int):Int:=Go.IntKind.i64.wrap (a+1)
theorem tK(a:Int):Go.IntKind.i64.wrap (a+1)=ik a:=rfl
def O.next(p:O):O:=⟨p.rows,p.y,p.Z,p.af,p.ag,p.ai,p.aj,ik p.ep⟩
def O.at(p:O)(a:Int):O:=⟨p.rows,p.y,p.Z,p.af,p.ag,p.ai,p.aj,a⟩
def O.cD(p:O):Nat->Int
 |0=>p.af
 |1=>p.ag
 |2=>p.ai
 |_=>p.aj
def z.ev(a:z):Bool:=a.st==1||a.st==2
def z.bZ(a:z):z:=⟨a.row,a.ae,0,0,0,0⟩
def ew(a:List z):Nat:=a.countP λb=>b.st==0
def kx(p:O)(b:Bool)(d:Int)(c:List z):Nat:=c.countP λa=>(decide (a.row<=p.Z)==b)&&a.st==d
def iO(b:Int)(c:List z):Nat:=c.countP λa=>a.ev&&a.cl==b
def fI(b:Int)(c:List z):Nat:=c.countP λa=>a.ev&&decide (b<=a.cl)
def qy(p:O)(a:List z):Nat->Int
 |0=>min (ew a:Int) (p.cD 0 - fI 0 a)
 |b+1=>min (qy p a b) (p.cD (b+1) - fI ((b:Int)+1) a)
def leftOf(p:O)(b:List z)(a:Nat):Int:=max (qy p b a) 0
def O.aY(p:O):Bool:=decide (1<=p.rows/\p.rows<=20/\1<=p.y/\p.y<=6/\0<=p.Z/\p.Z<=p.rows)
def O.bI(p:O):Bool:=decide (0<=p.af/\p.af<=200/\0<=p.ag/\p.ag<=p.af/\0<=p.ai/\p.ai<=p.ag/\0<=p.aj/\p.aj<=p.ai)
def O.e(p:O)(b a:Int):Bool:=decide (1<=b/\b<=p.rows/\1<=a/\a<=p.y)
def O.idx(p:O)(b a:Int):Nat:=((b - 1)* p.y+(a - 1)).toNat
def kT:z:=⟨0,0,0,0,0,0⟩
structure z.wf (s:z):Prop where
 ou:0<=s.st
 s1:s.st<=3
 oy:0<=s.cl
 c1:s.cl<=3
 bare:s.st=0\/s.st=3->s.pa=0/\s.cl=0/\s.un=0
 pa:0<=s.pa/\s.pa<=1000
 un:0<=s.un/\s.un<=4611686018427387904
 vu:s.st=2->s.un=0
structure bV.wf (f:bV):Prop where
 aY:f.c.aY=true
 bI:f.c.bI=true
 len:(f.Y.length:Int)=f.c.rows* f.c.y
 place:∀i (h:i<f.Y.length),f.Y[i].row=(i:Int) / f.c.y+1/\f.Y[i].ae=(i:Int) % f.c.y+1
 dX:∀s∈f.Y,s.wf
variable {W:bV} {w Q P p:Int} {S o:Nat} {k:Array V} {I:TypeId} {v:U} {B:List V} {R:Type} {i:V} {n:Program}
theorem bV.wf.bounds(a:W.wf):1<=W.c.rows/\W.c.rows<=20/\1<=W.c.y/\W.c.y<=6/\0<=W.c.Z/\W.c.Z<=W.c.rows:=by
 have:=a.aY;simpa [O.aY] using this
theorem bV.wf.jO(a:W.wf):W.Y.length<=120:=by
 obtain⟨d,b,e,c,_⟩:=a.bounds;have i:=a.len;have:W.c.rows* W.c.y<=20* 6:=tL b c (by omega) (by omega);omega
theorem bV.wf.jP(a:W.wf){r c:Int}(b:W.c.e r c=true):W.c.idx r c<W.Y.length:=by
 simp only[O.e,eA] at b;obtain⟨k,l,n,o⟩:=b;obtain⟨d,e,i,j,_⟩:=a.bounds;have p:=a.len;have s:(r - 1)* W.c.y<=(W.c.rows - 1)* W.c.y:=Bb (by omega) (by omega);have v:(W.c.rows - 1)* W.c.y=W.c.rows* W.c.y - W.c.y:=by rw[Int.sub_mul,Int.one_mul]
 have w:0<=(r - 1)* W.c.y:=ky (by omega) (by omega);unfold O.idx;omega
theorem bV.wf.qA(a:W.wf)(b:W.c.e w Q=true):(W.Y[W.c.idx w Q]'(a.jP b)).row=w/\(W.Y[W.c.idx w Q]'(a.jP b)).ae=Q:=by
 have c:=a.place _ (a.jP b);simp only[O.e,eA] at b;obtain⟨l,n,o,p⟩:=b;obtain⟨e,i,j,k,_⟩:=a.bounds;have r:0<=(w - 1)* W.c.y:=ky (by omega) (by omega);have d:((W.c.idx w Q:Nat):Int)=(Q - 1)+(w - 1)* W.c.y:=by unfold O.idx;omega
 rw[d] at c;rw[Int.add_mul_ediv_right _ _ (by omega:W.c.y≠0),Int.add_mul_emod_self_right,Int.ediv_eq_zero_of_lt (by omega) (by omega),Int.emod_eq_of_lt (by omega) (by omega)] at c;omega
theorem bV.wf.kU(a:W.wf){i:Nat}(hi:i<W.Y.length):W.c.e W.Y[i].row W.Y[i].ae=true/\W.c.idx W.Y[i].row W.Y[i].ae=i:=by
 have b:=a.place i hi;obtain⟨c,d,e,j,_⟩:=a.bounds;have k:=a.len;have d0:=yi (i:Int) (by omega:W.c.y≠0);have d1:=yj (i:Int) (by omega:0<W.c.y);have d2:=Int.mul_ediv_add_emod (i:Int) W.c.y;have d3:0<=(i:Int) / W.c.y:=Int.ediv_nonneg (by omega) (by omega);have d4:(i:Int) / W.c.y<W.c.rows:=by
  apply Int.ediv_lt_of_lt_mul (by omega);omega
 have d5:W.c.y* ((i:Int) / W.c.y)=(i:Int) / W.c.y* W.c.y:=Int.mul_comm _ _;constructor
 .simp only[O.e,eA];omega
 .unfold O.idx;rw[b.1,b.2,show(i:Int) / W.c.y+1 - 1=(i:Int) / W.c.y from by omega];omega
theorem bV.wf.yk(a:W.wf){j:Nat}(hi:S<W.Y.length)(d:j<W.Y.length)(e:W.Y[S].row=W.Y[j].row)(c:W.Y[S].ae=W.Y[j].ae):S=j:=by
 have b:=(a.kU hi).2;have i:=(a.kU d).2;rw[e,c] at b;omega
theorem countP_set(p:z->Bool)(b:List z)(c:Nat)(d:c<b.length)(a:z):((b.set c a).countP p:Int)=b.countP p - (if p b[c] then 1 else 0)+(if p a then 1 else 0):=by
 rw[List.countP_set d];have pos:p b[c]=true->1<=b.countP p:=λi=>List.countP_pos_iff.2 ⟨_,eK d,i⟩
 cases e:p b[c]<;>cases j:p a
 .simp
 .simp
 .have:=pos e;simp only[iP,mg,jQ];omega
 .have:=pos e;simp only[iP];omega
theorem Ip(p:O)(a:List z):ew a=kx p true 0 a+kx p false 0 a:=by
 unfold ew kx
 induction a with
 |nil=>rfl
 |cons b a e=>
  simp only[mW,e];by_cases c:b.row<=p.Z<;>by_cases d:b.st=0<;>simp[c,d]<;>omega
theorem Iq(a:List z)(d:∀b∈a,0<=b.cl/\b.cl<=3):fI 0 a=iO 0 a+iO 1 a+iO 2 a+iO 3 a/\fI 1 a=iO 1 a+iO 2 a+iO 3 a/\fI 2 a=iO 2 a+iO 3 a/\fI 3 a=iO 3 a:=by
 unfold fI iO
 induction a with
 |nil=>exact⟨rfl,rfl,rfl,rfl⟩
 |cons b a n=>
  obtain⟨i,j,k,l⟩:=n (λo e=>d o (rN _ e));obtain⟨p,r⟩:=d b (qB);simp only[mW,i,j,k,l];have:b.cl=0\/b.cl=1\/b.cl=2\/b.cl=3:=by omega
  obtain c|c|c|c:=this<;>cases s:b.ev<;>simp[c]<;>omega
end Go.Proofs.YthhibagcpjeihaaGreat.M
namespace Go.Proofs.YthhibagcpjeihaaGreat
open Go.RowKit
theorem bh(x:Int)(a: -4611686018427387904<=x)(b:x<=4611686018427387904):K.wrap x=x:=by
 simp[IntKind.wrap,IntKind.bits,oz];omega
theorem gp(x:Int)(a: -9223372036854775808<=x)(b:x<=9223372036854775807):K.wrap x=x:=by
 simp[IntKind.wrap,oz,IntKind.bits];omega
def kz(a b:Int):Int:=if a<0 then(-(a+1)) % b else a % b
theorem Bc(b a:Int)(c:0<a):0<=kz b a/\kz b a<a:=by
 unfold kz;split
 .exact⟨yi _ (by omega),yj _ c⟩
 .exact⟨yi _ (by omega),yj _ c⟩
variable {S o:Nat} {k:Array V} {I:TypeId} {w Q P p:Int} {v:U} {B:List V} {R:Type} {i:V} {n:Program}
theorem X.grown{w w':U}{row:Option Nat}(a:X w S k I)(b:w.grownBy w' row)(c:E S≠row):X w' S k I:=by
 unfold X;rw[b.block S a.lt c];exact a
theorem aR{size:Nat}(c:v.ownsRow S I size i o B):∃a b,i=C a o b:=by
 obtain⟨d,e⟩|⟨l,b,k,j,_⟩:=c.2
 .exact⟨J,0,by rw[d,e]⟩
 .exact⟨_,b,j⟩
open Go.RowKit Go.WideMaps
open Go.ChangeMaps (setBlock)
theorem laidOut:laidOutB h=true:=by kernel_rfl
theorem rO:KeyLaw h 36:=deep_law_laid laidOut (m:=2) (by omega) (rP (by kernel_rfl)) (by kernel_rfl) (by rw[underlying36])
def iB(b a:Int):V:=t #[F K b,F K a]
def dP(b p a c:Int):V:=t #[F K b,F K p,F K a,F K c]
theorem rQ(b a:Int)(p:0<=b/\b<=1000)(o:0<=a/\a<=1000):∃k,keyOf h 36 (iB b a)=E k:=by
 have l:(Lit.int K b).wf=true:=by simp[Lit.wf,IntKind.min,IntKind.max,oz,IntKind.bits];omega
 have n:(Lit.int K a).wf=true:=by simp[Lit.wf,IntKind.min,IntKind.max,oz,IntKind.bits];omega
 have i:h.keyType 36=true:=by kernel_rfl
 have e:h.cellsOf 36=2:=by kernel_rfl
 have d:h.cellsOf 3=1:=by kernel_rfl
 have ts:∃c,h.types.size+1=c+2:=⟨h.types.size - 1,by have:0<h.types.size:=rP (by kernel_rfl);omega⟩;obtain⟨c,j⟩:=ts;apply Option.isSome_iff_exists.1;unfold keyOf;rw[underlying36,j];simp[i,iB,Value.formed,underlying36,e,d,Program.keyLits,underlying3,l,n,Value.cells]
structure az where
 born:Nat
 r:Int
 c:Int
 s:Int
 p:Int
 k:Int
 u:Int
def az.obj(a:az):MapEntry:=⟨iB a.r a.c,dP a.s a.p a.k a.u,a.born⟩
def cX(b:List az)(a:Nat):Obj:=.map (b.map az.obj).toArray a
def az.is(c b:Int)(a:az):Bool:=a.r==c&&a.c==b
structure gq (l:List az) (dY:Nat):Prop where
 keys:∀e∈l,0<=e.r/\e.r<=1000/\0<=e.c/\e.c<=1000
 apart:l.Pairwise λa b=>¬(a.r=b.r/\a.c=b.c)
 rR:l.Pairwise λa b=>a.born≠b.born
 rS:∀e∈l,e.born<dY
theorem vw{c':Int}:iB w Q=iB P c'↔w=P/\Q=c':=by
 constructor
 .intro a;simp only[iB,t.injEq] at a;simp at a;exact a
 .rintro⟨rfl,rfl⟩;rfl
theorem ym{b:List az}(l:b.Pairwise λa d=>¬(a.r=d.r/\a.c=d.c)){j:Nat}(e:j<b.length)(c:b[j].r=w/\b[j].c=Q):b.findIdx? (az.is w Q)=E j:=by
 rw[jC];refine⟨e,by simp[az.is,c.1,c.2],λn hi=>?_⟩;have:=(mh.1 l) n j (by omega) e hi;simp only[az.is,mX,lD];rintro⟨i,k⟩;exact this ⟨by rw[i,c.1],by rw[k,c.2]⟩
theorem vx(n:U)(d:List az)(y:Nat)(s:gq d y)(b c:Int)(M:0<=b/\b<=1000)(B:0<=c/\c<=1000):(Instr.findKey 36 (iB b c) (d.map az.obj)).run h n=.ok ((d.findIdx? (az.is b c)).map λj=>(j,(d[j]?.map λa=>dP a.s a.p a.k a.u).getD undef)) n:=by
 obtain⟨O,N⟩:=rQ b c M B
 obtain⟨i,I⟩|⟨j,a,i,p,G⟩:=rO.find n N (d.map az.obj) (λa k=>by
  obtain⟨e,l,rfl⟩:=kA.1 k
  obtain⟨v,w,x,z⟩:=s.keys e l
  exact rQ e.r e.c ⟨v,w⟩ ⟨x,z⟩)
 .rw[i];have:d.findIdx? (az.is b c)=J:=by
   rw[nd];intro a k;have:=I _ (Ir k);simp only[az.is,vy,tM,ne_eq];by_cases o:a.r=b
   .right;intro A;exact this (vw.2 ⟨o,A⟩)
   .left;exact o
  rw[this];rfl
 .rw[i];rw[qC] at p;obtain⟨e,l,rfl⟩:=Option.map_eq_some_iff.1 p;obtain⟨r,rfl⟩:=List.getElem?_eq_some_iff.1 l;have H:=vw.1 G;rw[ym s.apart r H];simp[r,az.obj]
def eZ(c:List az)(d b:Int):Int×Int×Int×Int:=((c.find? (az.is d b)).map λa=>(a.s,a.p,a.k,a.u)).getD (0,0,0,0)
theorem tN(a:List az)(p:az->Bool):a.find? p=(a.findIdx? p).bind λj=>a[j]? :=by
 induction a with
 |nil=>rfl
 |cons b a c=>
  simp only[mi,Iu]
  cases p b
  .simp only[mg,jQ,c]
   cases a.findIdx? p<;>simp
  .simp
theorem vz(a:U):(zeroValue 199).run h a=.ok (dP 0 0 0 0) a:=by kernel_rfl
theorem Iv(a:List az)(j:Nat):(a.map az.obj).eraseIdx j=(a.eraseIdx j).map az.obj:=by
 induction a generalizing j with
 |nil=>simp
 |cons b a c=>cases j<;>simp_all
theorem Bd(b:MapEntry->MapEntry)(c:az->az):∀(a:List az) (j:Nat) (e:j<a.length),b a[j].obj=(c a[j]).obj->(a.map az.obj).modify j b=(a.modify j c).map az.obj
 |i::a,0,_,d=>by simpa using d
 |i::a,j+1,e,d=>by
  have:=Bd b c a j (by simpa using e) (by simpa using d);simp[this]
theorem vA(d:U)(i:Nat)(c:List az)(j:Nat)(l:d.heap[i]? =E (cX c j))(x:gq c j)(b a:Int)(v:0<=b/\b<=1000)(p:0<=a/\a<=1000):(ji 162 (.map (E i)) (iB b a) false).run h d=.ok (dP (eZ c b a).1 (eZ c b a).2.1 (eZ c b a).2.2.1 (eZ c b a).2.2.2) d:=by
 obtain⟨B,y⟩:=rQ b a v p;have o:=λw=>rO.check d w y;have e:=vx d c j x b a v p;unfold cX at l;have r:(getObj i).run h d=.ok (.map (c.map az.obj).toArray j) d:=by simp[getObj,Sem.run,l]
 have z:∀n,(setObj i n).run h d=.ok () (setBlock d i n):=λn=>by simp[setObj,Sem.run,l,setBlock]
 rw[eZ,tN]
 cases k:c.findIdx? (az.is b a) with
 |none=>
  rw[k] at e;simp[ji,jj oA,r,o,e,vz,dP]
 |some A=>
  have s:=(jC.1 k).1;rw[k] at e;simp[s] at e;simp[ji,jj oA,r,o,e,vz,s]
theorem Iw(a:U)(e:Nat)(b:List az)(i:Nat)(ty:TypeId)(n:a.heap[e]? =E (cX b i))(z:gq b i)(d c:Int)(w:0<=d/\d<=1000)(r:0<=c/\c<=1000):(Builtin.delete_ #[162,36] ty #[.map (E e),iB d c]).run h a=.ok (aq #[]) (setBlock a e (cX (match b.findIdx? (az.is d c) with|some j=>b.eraseIdx j|none=>b) i)):=by
 obtain⟨B,A⟩:=rQ d c w r;have p:=λy=>rO.check a y A;have k:=vx a b i z d c w r;unfold cX at n;have s:(getObj e).run h a=.ok (.map (b.map az.obj).toArray i) a:=by simp[getObj,Sem.run,n]
 have x:∀o,(setObj e o).run h a=.ok () (setBlock a e o):=λo=>by simp[setObj,Sem.run,n,setBlock]
 cases l:b.findIdx? (az.is d c) with
 |none=>
  rw[l] at k;simp[Builtin.delete_,jj oA,s,x,p,k,cX]
 |some j=>
  have v:=(jC.1 l).1;rw[l] at k;simp[v] at k;simp[Builtin.delete_,jj oA,s,x,p,k,cX,v];rw[Iv]
theorem Ix(a:U)(k:Nat)(b:List az)(e:Nat)(x:a.heap[k]? =E (cX b e))(P:gq b e)(d c r p o s:Int)(G:0<=d/\d<=1000)(A:0<=c/\c<=1000):
  (Instr.mapUpdate 162 (.map (E k)) (iB d c) (dP r p o s)).run h a=
   .ok () (match b.findIdx? (az.is d c) with
    |some j=>setBlock a k (cX (b.modify j λi=>⟨i.born,i.r,i.c,r,p,o,s⟩) e)
    |none=>setBlock a k (cX (b++[⟨e,d,c,r,p,o,s⟩]) (e+1))):=by
 obtain⟨Q,I⟩:=rQ d c G A;have z:=λM=>rO.check a M I;have l:=vx a b e P d c G A;have N:=rO.stays a I;unfold cX at x;have B:(getObj k).run h a=.ok (.map (b.map az.obj).toArray e) a:=by simp[getObj,Sem.run,x]
 have H:∀y,(setObj k y).run h a=.ok () (setBlock a k y):=λy=>by simp[setObj,Sem.run,x,setBlock]
 cases v:b.findIdx? (az.is d c) with
 |none=>
  rw[v] at l;simp[Instr.mapUpdate,jj oA,B,H,z,l,cX,az.obj]
 |some j=>
  have n:=(jC.1 v);obtain⟨n,w,_⟩:=n;simp[az.is] at w;rw[v] at l;simp[n] at l;have O:(b[j]).obj.key=iB d c:=by simp[az.obj,w]
  simp[Instr.mapUpdate,jj oA,B,H,z,l,cX,n,O,N];rw[Bd _ (λi=>⟨i.born,i.r,i.c,r,p,o,s⟩) b j n (by simp[az.obj,w])]
open M
theorem gq.erase{d:List az}(a:gq d S)(j:Nat):gq (d.eraseIdx j) S:=
 ⟨λb c=>a.keys b (Be c),a.apart.sublist (Bf _ _),a.rR.sublist (Bf _ _),λb c=>a.rS b (Be c)⟩
def mj(c:List az)(a:Nat)(i d j p e k:Int):List az×Nat:=
 match c.findIdx? (az.is i d) with
 |some l=>(c.modify l λb=>⟨b.born,b.r,b.c,j,p,e,k⟩,a)
 |none=>(c++[⟨a,i,d,j,p,e,k⟩],a+1)
def j4(a:List az)(d b:Int):List az:=
 match a.findIdx? (az.is d b) with
 |some c=>a.eraseIdx c
 |none=>a
theorem mem_modify{e:R->R}:∀ {b:List R} {j:Nat} {x:R},x∈b.modify j e->x∈b\/∃d∈b,x=e d
 |[],j,x,a=>by simp at a
 |c::b,0,x,a=>by
  simp at a;obtain a|a:=a
  .exact .inr ⟨c,by simp,a⟩
  .exact .inl (by simp[a])
 |c::b,j+1,x,a=>by
  simp at a;obtain a|a:=a
  .exact .inl (by simp[a])
  .obtain a|⟨d,hy,c⟩:=mem_modify a
   .exact .inl (by simp[a])
   .exact .inr ⟨d,by simp[hy],c⟩
theorem Bg{d:R->R}:∀ {b:List R} {j:Nat} {x:R},x∈b.modify j d->x∈b\/∃a:j<b.length,x=d b[j]
 |[],j,x,a=>by simp at a
 |c::b,0,x,a=>by
  simp at a;obtain a|a:=a
  .exact .inr ⟨by simp,a⟩
  .exact .inl (by simp[a])
 |c::b,j+1,x,a=>by
  simp at a;obtain a|a:=a
  .exact .inl (by simp[a])
  .obtain a|⟨e,c⟩:=Bg a
   .exact .inl (by simp[a])
   .exact .inr ⟨by simpa using e,by rw[vB];exact c⟩
theorem rT{e:Type}{R:e->e->Prop}{g:e->e}(k:∀a c,R a c->R (g a) c)(l:∀a c,R a c->R a (g c)):∀ {i:List e} {j:Nat},i.Pairwise R->(i.modify j g).Pairwise R
 |[],_,_=>by simp
 |n::i,0,b=>by
  simp only[List.modify_zero_cons,rU] at b ⊢;exact⟨λx d=>k _ _ (b.1 x d),b.2⟩
 |n::i,j+1,b=>by
  simp only[Bh,rU] at b ⊢;refine⟨λx d=>?_,rT k l b.2⟩;obtain d|⟨o,hy,rfl⟩:=mem_modify d
  .exact b.1 x d
  .exact l _ _ (b.1 o hy)
def az.with(c p b d:Int)(a:az):az:=⟨a.born,a.r,a.c,c,p,b,d⟩
theorem vC{a:List az}{p b c:Int}{j:Nat}(d:a.findIdx? (az.is w Q)=E j):mj a S w Q P p b c=(a.modify j (az.with P p b c),S):=by
 unfold mj;rw[d];rfl
variable {j:List az}
theorem vD{p a b:Int}(c:j.findIdx? (az.is w Q)=J):mj j S w Q P p a b=(j++[⟨S,w,Q,P,p,a,b⟩],S+1):=by
 unfold mj;rw[c]
theorem Bi{a:List az}{j:Nat}(b:a.findIdx? (az.is w Q)=E j):j4 a w Q=a.eraseIdx j:=by
 unfold j4;rw[b]
theorem Bj(a:j.findIdx? (az.is w Q)=J):j4 j w Q=j:=by
 unfold j4;rw[a]
variable {N:az}
theorem qD:az.is w Q N=false↔¬(N.r=w/\N.c=Q):=by
 simp only[az.is,vy,tM];by_cases a:N.r=w
 .simp[a]
 .simp[a]
theorem vE:az.is w Q N=true↔(N.r=w/\N.c=Q):=by
 simp[az.is]
theorem gq.put(b:gq j S)(n k s p r v:Int)(z:0<=n/\n<=1000)(y:0<=k/\k<=1000):gq (mj j S n k s p r v).1 (mj j S n k s p r v).2:=by
 cases o:j.findIdx? (az.is n k) with
 |some A=>
  rw[vC o];refine⟨λd a=>?_,rT (g:=az.with s p r v) (λc i e=>e) (λc i e=>e) b.apart,rT (g:=az.with s p r v) (λc i e=>e) (λc i e=>e) b.rR,λd a=>?_⟩
  .obtain a|⟨x,hy,rfl⟩:=mem_modify a
   .exact b.keys d a
   .exact b.keys x hy
  .obtain a|⟨x,hy,rfl⟩:=mem_modify a
   .exact b.rS d a
   .exact b.rS x hy
 |none=>
  rw[vD o];rw[nd] at o;refine⟨λd a=>?_,?_,?_,λd a=>?_⟩
  .obtain a|a:=jR.1 a
   .exact b.keys d a
   .simp at a;subst a;exact⟨z.1,z.2,y.1,y.2⟩
  .refine List.pairwise_append.2 ⟨b.apart,by simp,λc w i l=>?_⟩;simp at l;subst l;exact qD.1 (o c w)
  .refine List.pairwise_append.2 ⟨b.rR,by simp,λc w i l=>?_⟩;simp at l;subst l;have:=b.rS c w;simp only;omega
  .obtain a|a:=jR.1 a
   .have:=b.rS d a;simp only;omega
   .simp at a;subst a;simp
theorem Bk{p:az->Bool}:∀(a:List az) (j:Nat),(∀b:j<a.length,p a[j]=false)->(a.eraseIdx j).find? p=a.find? p
 |[],_,_=>by simp
 |c::a,0,b=>by
  have:=b (by simp);simp at this;simp[this]
 |c::a,j+1,b=>by
  simp only[List.eraseIdx_cons_succ,mi];rw[Bk a j (λd=>by have:=b (by simpa using d);rwa [vB] at this)]
theorem Bl(d:az->az)(b:az->Bool):∀(a:List az) (j:Nat),(∀c:j<a.length,b a[j]=false/\b (d a[j])=false)->(a.modify j d).find? b=a.find? b
 |[],_,_=>by simp
 |e::a,0,c=>by
  have:=c (by simp);simp at this;simp[this.1,this.2]
 |e::a,j+1,c=>by
  simp only[Bh,mi];rw[Bl d b a j (λi=>by have:=c (by simpa using i);rwa [vB] at this)]
theorem Bm(b:∀a∈j,¬(a.r=w/\a.c=Q)):eZ j w Q=(0,0,0,0):=by
 unfold eZ;rw[List.find?_eq_none.2 (λa c=>by rw[qD.2 (b a c)];simp)];rfl
theorem Bn(x:gq j S)(i c k c':Int):eZ (j4 j i c) k c'=if k=i/\c'=c then(0,0,0,0) else eZ j k c':=by
 cases e:j.findIdx? (az.is i c) with
 |none=>
  rw[Bj e];rw[nd] at e;by_cases a:k=i/\c'=c
  .rw[D a,a.1,a.2];exact Bm λd n=>qD.1 (e d n)
  .rw[f a]
 |some l=>
  rw[Bi e];obtain⟨v,b,_⟩:=jC.1 e;have b:=vE.1 b;by_cases a:k=i/\c'=c
  .rw[D a,a.1,a.2];refine Bm λd n o=>?_;obtain⟨p,hi,y,s⟩:=List.mem_eraseIdx_iff_getElem.1 n;have w:=mh.1 x.apart;obtain r|r:=Nat.lt_or_ge p l
   .exact w p l hi v r (by rw[s,b.1,b.2];exact o)
   .exact w l p v hi (by omega) (by rw[s,b.1,b.2];exact⟨o.1.symm,o.2.symm⟩)
  .rw[f a];unfold eZ;rw[Bk j l (λ_=>qD.2 (λd=>a ⟨by rw[<-d.1,b.1],by rw[<-d.2,b.2]⟩))]
theorem Bo(b:gq j S)(c:N∈j):eZ j N.r N.c=(N.s,N.p,N.k,N.u):=by
 obtain⟨d,a,rfl⟩:=kB c;unfold eZ;rw[tN,ym b.apart a ⟨rfl,rfl⟩];simp[a]
theorem Iy(y:gq j S)(e d n p l o i c':Int):eZ (mj j S e d n p l o).1 i c'=if i=e/\c'=d then(n,p,l,o) else eZ j i c':=by
 cases k:j.findIdx? (az.is e d) with
 |none=>
  rw[vD k];rw[nd] at k;unfold eZ;simp only[yn];by_cases a:i=e/\c'=d
  .rw[D a,a.1,a.2];rw[List.find?_eq_none.2 (λb z=>by rw[k b z];simp)];simp[az.is]
  .rw[f a];have:az.is i c' ⟨S,e,d,n,p,l,o⟩=false:=qD.2 (λb=>a ⟨b.1.symm,b.2.symm⟩);simp[this]
 |some v=>
  rw[vC k];obtain⟨x,c,_⟩:=jC.1 k;have c:=vE.1 c;have A:(j.modify v (az.with n p l o)).Pairwise λr s=>¬(r.r=s.r/\r.c=s.c):=rT (g:=az.with n p l o) (λr s w=>w) (λr s w=>w) y.apart;by_cases a:i=e/\c'=d
  .rw[D a,a.1,a.2];unfold eZ;rw[tN,ym A (j:=v) (by simpa using x) (by simpa [az.with] using c)];simp[x,az.with]
  .rw[f a];unfold eZ;rw[Bl _ _ j v (λ_=>⟨qD.2 (λb=>a ⟨by rw[<-b.1,c.1],by rw[<-b.2,c.2]⟩),qD.2 (λb=>a ⟨by rw[<-b.1];exact c.1,by rw[<-b.2];exact c.2⟩)⟩)]
theorem Bp(a:N∈j4 j w Q):N∈j:=by
 unfold j4 at a;split at a
 .exact Be a
 .exact a
theorem gq.drop(a:gq j S)(c b:Int):gq (j4 j c b) S:=by
 unfold j4;split
 .exact a.erase _
 .exact a
theorem Iz{p d e:Int}(a:N∈(mj j S w Q P p d e).1):N∈j\/(N.r=w/\N.c=Q/\N.s=P):=by
 cases c:j.findIdx? (az.is w Q) with
 |none=>
  rw[vD c] at a;obtain a|a:=jR.1 a
  .exact .inl a
  .simp at a;subst a;exact .inr ⟨rfl,rfl,rfl⟩
 |some k=>
  rw[vC c] at a;obtain⟨i,b,_⟩:=jC.1 c;have b:=vE.1 b;obtain a|⟨_,rfl⟩:=Bg a
  .exact .inl a
  .exact .inr ⟨b.1,b.2,rfl⟩
theorem yo(a:Nat)(l e n:Int)(d:U):Calls h 136 #[t #[F K a,F K l,F K e,F K n]] d λi w'=>i=q (L (decide (a=1\/a=2)))/\G No d w':=by
 by_cases b:a=1
 .subst b;go_enter func136,ntmps136;go_wp2;go_ret;exact⟨rfl,(G.refl _ _).alloc _⟩
 .have j:((a:Int)==1)=false:=by simp;omega
  by_cases c:a=2
  .subst c;go_enter func136,ntmps136;go_wp2;go_ret;exact⟨rfl,(G.refl _ _).alloc _⟩
  .have k:((a:Int)==2)=false:=by simp;omega
   go_enter func136,ntmps136;go_wp2;go_ret;exact⟨by simp[b,c,j,k],(G.refl _ _).alloc _⟩
theorem G.at{a:U}(e:G (λb=>b=S) a v)(c:Nat)(d:V):G (λb=>b=S) a (v.setCell (u S c J) d):=G.setCell (S:=λb=>b=S) e (p:=u S c J) (.inl rfl) d
def qE(d:Array V)(c a e:Nat)(x i b:Int):Array V:=
 if a=1\/a=2 then(d.setIfInBounds (c+a) (F K (x+b))).setIfInBounds (16+e) (F K (i+b)) else d.setIfInBounds (c+a) (F K (x+b))
theorem Bq(n a c A:Nat)(p:Array V)(row M s v Q x w k:Int)(e:U)(r:X e n p 164)(Y:p[2]? =E (F K Q))(ad:(row<=Q/\A=8)\/(¬row<=Q/\A=12))(ap:a<4)(ak:c<4)(Z:p[A+a]? =E (F K x))(hy:p[16+c]? =E (F K w))(ai: -100000<=x/\x<=100000)(aj: -100000<=w/\w<=100000)(ah: -1<=k/\k<=1):
  Calls h 134 #[g (E (u n 0 J)),t #[F K row,F K M],t #[F K a,F K s,F K c,F K v],F K k] e λP w'=>P=q (aq #[])/\G (· =n) e w'/\X w' n (qE p A a c x w k) 164:=by
 have ao:=r.lt;have I:=r.T 2;have N:=r.T (A+a);have O:=r.T (16+c);have aa:=r.aC;rw[Y] at I;rw[Z] at N;rw[hy] at O;have T:=l r;have ab:=bh (x+k) (by omega) (by omega);have W:=l hy;clear r Y Z hy;have ar:(a:Int)<4:=by omega
 have am:(c:Int)<4:=by omega
 obtain⟨ae,rfl⟩|⟨ae,rfl⟩:=ad
 .go_enter func134,ntmps134;go_wp2;go_quiet (fail);go_wp2;go_region;go_wp2_with fail;refine(yo a s c v _).mono ?_;rintro P w3 ⟨rfl,j⟩;have i:X w3 n (p.setIfInBounds (8+a) (F K (x+k))) 164:=j.e (((((b T).alloc _).alloc _).drewN (nq+1)).set (8+a) _) (λx=>x);have B:X w3 (e.heap.size+1) #[F K a,F K s,F K c,F K v] 199:=
   j.e (X.eJ (X.drewN (by have:=X.new (e.alloc (m #[F K row,F K M] 36)) #[F K a,F K s,F K c,F K v] 199;rwa [bW] at this) (nq+1)) (by simp;omega) _) (λx=>x)
  have H:G (· =n) e w3:=((((((G.refl _ e).alloc _).alloc _).drewN (nq+1)).at (8+a) _)).trans (j.mono (λ_ _ x=>x.elim));have S:=i.T (16+c);have ag:=i.aC;have R:=B.T 2;rw[tO,f (by omega),(b W)] at S;simp only[Br,Bs,Bt] at R;have y:=l i;have z:=l H;clear j i B H I N O aa ab;by_cases d:a=1\/a=2
  .have hd:decide (a=1\/a=2)=true:=decide_eq_true d;rw[hd];have o:=l d;clear d hd;have af:=bh (w+k) (by omega) (by omega);go_wp2_with fail;go_region;go_wp2;go_end0;refine⟨rfl,((b z).at (16+c) _).drew,?_⟩;unfold qE;rw[D (b o)];exact(b y).set (16+c) _
  .have hd:decide (a=1\/a=2)=false:=qF d;rw[hd];have o:=l d;clear d hd;go_wp2;go_end0;refine⟨rfl,b z,?_⟩;unfold qE;rw[f (b o)];exact b y
 .go_enter func134,ntmps134;go_wp2;go_quiet (fail);go_wp2;go_region;go_wp2_with fail;refine(yo a s c v _).mono ?_;rintro P w3 ⟨rfl,j⟩;have i:X w3 n (p.setIfInBounds (12+a) (F K (x+k))) 164:=j.e (((((b T).alloc _).alloc _).drewN (nq+1)).set (12+a) _) (λx=>x);have B:X w3 (e.heap.size+1) #[F K a,F K s,F K c,F K v] 199:=
   j.e (X.eJ (X.drewN (by have:=X.new (e.alloc (m #[F K row,F K M] 36)) #[F K a,F K s,F K c,F K v] 199;rwa [bW] at this) (nq+1)) (by simp;omega) _) (λx=>x)
  have H:G (· =n) e w3:=((((((G.refl _ e).alloc _).alloc _).drewN (nq+1)).at (12+a) _)).trans (j.mono (λ_ _ x=>x.elim));have S:=i.T (16+c);have ag:=i.aC;have R:=B.T 2;rw[tO,f (by omega),(b W)] at S;simp only[Br,Bs,Bt] at R;have y:=l i;have z:=l H;clear j i B H I N O aa ab;by_cases d:a=1\/a=2
  .have hd:decide (a=1\/a=2)=true:=decide_eq_true d;rw[hd];have o:=l d;clear d hd;have af:=bh (w+k) (by omega) (by omega);go_wp2_with fail;go_region;go_wp2;go_end0;refine⟨rfl,((b z).at (16+c) _).drew,?_⟩;unfold qE;rw[D (b o)];exact(b y).set (16+c) _
  .have hd:decide (a=1\/a=2)=false:=qF d;rw[hd];have o:=l d;clear d hd;go_wp2;go_end0;refine⟨rfl,b z,?_⟩;unfold qE;rw[f (b o)];exact b y
theorem rV(b c d e:V)(a:U):(iQ 37 (t #[b,c,d,e]) (F K 0)).run h a=.ok b a:=by simp[go_sem,iQ]
theorem rW(c b d e:V)(a:U):(iQ 37 (t #[c,b,d,e]) (F K 1)).run h a=.ok b a:=by simp[go_sem,iQ]
theorem rX(c d b e:V)(a:U):(iQ 37 (t #[c,d,b,e]) (F K 2)).run h a=.ok b a:=by simp[go_sem,iQ]
theorem rY(c d e b:V)(a:U):(iQ 37 (t #[c,d,e,b]) (F K 3)).run h a=.ok b a:=by simp[go_sem,iQ]
theorem vF(ty:TypeId)(x a:Int)(b:U):(Builtin.min_ #[3,3] ty #[F K x,F K a]).run h b=.ok (F K (min x a)) b:=by
 have:(if a<x then a else x)=min x a:=by split<;>omega
 simp[Builtin.min_,Builtin.min2,this]
theorem vG(ty:TypeId)(x a:Int)(b:U):(Builtin.max_ #[3,3] ty #[F K x,F K a]).run h b=.ok (F K (max x a)) b:=by
 have:(if x<a then a else x)=max x a:=by split<;>omega
 simp[Builtin.max_,Builtin.max2,this]
attribute [local go_sem] rV rW rX rY
attribute [local go_sem ↓] vF vG
def dZ(B l v w x y z:Int)(A:V)(a b c d e i j k G H I M n o p r s:Int):Array V:=
 #[F K B,F K l,F K v,F K w,F K x,F K y,F K z,A,F K a,F K b,F K c,F K d,
  F K e,F K i,F K j,F K k,F K G,F K H,F K I,F K M,F K n,F K o,F K p,F K r,F K s]
theorem Bu(R:Nat)(av ai ak e o v B:Int)(au:V)(y ab ad ae z af ag ah c d j k ax ay az aA aj:Int)(aa:U)(am:X aa R (dZ av ai ak e o v B au y ab ad ae z af ag ah c d j k ax ay az aA aj) 164)(aG:0<=y/\y<=1000/\0<=z/\z<=1000)(aI:0<=c/\c<=1000/\0<=d/\d<=1000/\0<=j/\j<=1000/\0<=k/\k<=1000)
  (aH:0<=e/\e<=1000/\0<=o/\o<=1000/\0<=v/\v<=1000/\0<=B/\B<=1000):Calls h 135 #[g (E (u R 0 J))] aa λaE w'=>aE=q (aq #[])/\G (λar=>ar=R) aa w'/\X w' R (dZ av ai ak e o v B au y ab ad ae z af ag ah c d j k (max (min (y+z) (e - (c+d+j+k))) 0) (max (min (min (y+z) (e - (c+d+j+k))) (o - (d+j+k))) 0)
    (max (min (min (min (y+z) (e - (c+d+j+k))) (o - (d+j+k))) (v - (j+k))) 0) (max (min (min (min (min (y+z) (e - (c+d+j+k))) (o - (d+j+k))) (v - (j+k))) (B - k)) 0) aj) 164:=by
 have Z:=am.T;unfold dZ at Z;have aC:=l am;clear am;go_enter func135,ntmps135;go_wp2;go_loopw [2,13] (λO r wr=>((r=F K 0/\O=F K 0)\/(r=F K 1/\O=F K c)\/(r=F K 2/\O=F K (c+d))\/(r=F K 3/\O=F K (c+d+j))\/(r=F K 4/\O=F K (c+d+j+k)))/\wr=aa) (λ_ r _=>4 - (intOf r).toNat)
 case atStart=>exact⟨.inl ⟨rfl,rfl⟩,rfl⟩
 case round=>
  obtain⟨w,M⟩:=hrel;subst M;obtain⟨rfl,rfl⟩|⟨rfl,rfl⟩|⟨rfl,rfl⟩|⟨rfl,rfl⟩|⟨rfl,rfl⟩:=w
  .go_wp2;go_roundw
   .exact⟨.inr (.inl ⟨rfl,rfl⟩),trivial⟩
   .simp[intOf]
  .go_wp2;go_roundw
   .exact⟨.inr (.inr (.inl ⟨rfl,rfl⟩)),trivial⟩
   .simp[intOf]
  .go_wp2;go_roundw
   .exact⟨.inr (.inr (.inr (.inl ⟨rfl,rfl⟩))),trivial⟩
   .simp[intOf]
  .go_wp2;go_roundw
   .exact⟨.inr (.inr (.inr (.inr ⟨rfl,rfl⟩))),trivial⟩
   .simp[intOf]
  .go_wp2;go_quiet (fail);go_wp2;have aP:=l aG;have W:=l aI;have aQ:=l aH;clear Z;generalize Y:c+d+j+k=a at *;generalize hA:y+z=p at *;have T:=l Y;have aD:=l hA;have aR:0<=a/\a<=4000/\0<=p/\p<=2000:=by omega
   clear Y hA
   go_loopw [2,5,38] (λO aF r aB=>∃i n H I Q S:Int,O=F K i/\aF=F K n/\0<=i/\i<=4000/\ -5000<=n/\n<=5000/\Hid (X aB R (dZ av ai ak e o v B au y ab ad ae z af ag ah c d j k H I Q S aj) 164)/\Hid (G (λar=>ar=R) wr aB)/\
     ((r=F K 0/\Hid (i=a/\n=p))\/(r=F K 1/\Hid (i=a - c/\n=min p (e - a)/\H=max (min p (e - a)) 0))\/
      (r=F K 2/\Hid (i=a - c - d/\n=min (min p (e - a)) (o - (a - c))/\H=max (min p (e - a)) 0/\I=max (min (min p (e - a)) (o - (a - c))) 0))\/
      (r=F K 3/\Hid (i=a - c - d - j/\n=min (min (min p (e - a)) (o - (a - c))) (v - (a - c - d))/\H=max (min p (e - a)) 0/\I=max (min (min p (e - a)) (o - (a - c))) 0/\Q=max (min (min (min p (e - a)) (o - (a - c))) (v - (a - c - d))) 0))\/
      (r=F K 4/\Hid (H=max (min p (e - a)) 0/\I=max (min (min p (e - a)) (o - (a - c))) 0/\Q=max (min (min (min p (e - a)) (o - (a - c))) (v - (a - c - d))) 0/\
       S=max (min (min (min (min p (e - a)) (o - (a - c))) (v - (a - c - d))) (B - (a - c - d - j))) 0)))) (λ_ _ r _=>4 - (intOf r).toNat)
   case atStart=>exact⟨a,p,ax,ay,az,aA,rfl,rfl,by omega,by omega,by omega,by omega,aC,(G.refl _ _).drewN _,.inl ⟨rfl,rfl,rfl⟩⟩
   case round=>
    obtain⟨i,n,H,I,Q,S,rfl,rfl,t0,t1,aT,aU,A,M,w⟩:=hrel;have Z:=(b A).T;have aS:=(b A).aC;unfold dZ at Z;obtain⟨rfl,w⟩|⟨rfl,w⟩|⟨rfl,w⟩|⟨rfl,w⟩|⟨rfl,w⟩:=w
    .go_wp2;go_roundw
     .obtain⟨s,x⟩:=b w;have ap:=b W;have ao:=b T;have N:=(b A).set 20 (F K (max (min n (e - i)) 0));refine⟨i - c,min n (e - i),max (min n (e - i)) 0,I,Q,S,rfl,rfl,by omega,by omega,by omega,by omega,N,(b M).at 20 _,.inr (.inl ⟨rfl,?_,?_,?_⟩)⟩
      .rw[s]
      .rw[s,x]
      .rw[s,x]
     .simp[intOf]
    .go_wp2;go_roundw
     .obtain⟨s,x,P⟩:=b w;have ap:=b W;have ao:=b T;have N:=(b A).set 21 (F K (max (min n (o - i)) 0));refine⟨i - d,min n (o - i),H,max (min n (o - i)) 0,Q,S,rfl,rfl,by omega,by omega,by omega,by omega,N,(b M).at 21 _,.inr (.inr (.inl ⟨rfl,?_,?_,P,?_⟩))⟩
      .rw[s]
      .rw[s,x]
      .rw[s,x]
     .simp[intOf]
    .go_wp2;go_roundw
     .obtain⟨s,x,P,aw⟩:=b w;have ap:=b W;have ao:=b T;have N:=(b A).set 22 (F K (max (min n (v - i)) 0));refine⟨i - j,min n (v - i),H,I,max (min n (v - i)) 0,S,rfl,rfl,by omega,by omega,by omega,by omega,N,(b M).at 22 _,.inr (.inr (.inr (.inl ⟨rfl,?_,?_,P,aw,?_⟩)))⟩
      .rw[s]
      .rw[s,x]
      .rw[s,x]
     .simp[intOf]
    .go_wp2;go_roundw
     .obtain⟨s,x,P,aw,aO⟩:=b w;have ap:=b W;have ao:=b T;have N:=(b A).set 23 (F K (max (min n (B - i)) 0));refine⟨i - k,min n (B - i),H,I,Q,max (min n (B - i)) 0,rfl,rfl,by omega,by omega,by omega,by omega,N,(b M).at 23 _,.inr (.inr (.inr (.inr ⟨rfl,P,aw,aO,?_⟩)))⟩;rw[s,x]
     .simp[intOf]
    .go_wp2;go_end0;obtain⟨aN,s,x,P⟩:=b w;have Y:=b T;have hA:=b aD;have aJ:d+j+k=a - c:=by omega
     have aK:j+k=a - c - d:=by omega
     have aL:k=a - c - d - j:=by omega
     refine⟨rfl,b M,?_⟩;rw[Y,hA,aJ,aK];have A:=b A;rw[aN,s,x,P,<-aL] at A;exact A
structure gZ (w0:U) where
 W:U
 h:G No w0 W
theorem qG{id:Nat}{c:Exit->Act->U->Prop}{a:Act}{w0:U}{b:List Oper}(j:n.follows .mixedOrders=true)(i:Region.lexB .any b.toArray=true)(e:G No w0 v)(d:wpQuiet n b.toArray (λw'=>∃x:gZ w0,w'=x.W) (λa'=>∀w',(∃x:gZ w0,w'=x.W)->c .normal a' w') b a):(Code.region id b.toArray true).wp n c a v:=
 wp_region_quiet (C:=λw'=>∃x:gZ w0,w'=x.W) j i ⟨⟨_,e.drew⟩,rfl⟩ (by simpa using d)
theorem vH(a:U):Nonempty (gZ a):=⟨⟨a,G.refl _ _⟩⟩
theorem Calls.wd{c:FuncId}{args:Array V}(x:gZ v)(d:Calls n c args x.W λa w'=>a=q i/\G No x.W w'):Calls n c args x.W λa b=>a=q i/\∃k:gZ v,b=k.W:=
 d.mono λ_ b ⟨e,j⟩=>⟨e,⟨b,x.h.trans j⟩,rfl⟩
theorem X.wd(b:X v S k I)(x:gZ v)(a:Nat):x.W.cell? (u S a J)=k[a]? :=(x.h.e b (λc=>c)).T a
end Go.Proofs.YthhibagcpjeihaaGreat
