import Derived.Test.YthhibagcpjeihaaGreatMWr1ToRd3
import Derived.Test.YthhibagcpjeihaaGreatMRef10ToOpArgs
import Derived.Test.YthhibagcpjeihaaGreatMCellsToEnc
import Derived.ChangeSlices
import Derived.Test.YthhibagcpjeihaaGreatMFMapToBook4S
import Derived.Handy
import Derived.Test.YthhibagcpjeihaaGreatRows
open Go.Proofs.Tryz
open Go.Value renaming int->y,pointer->b,slice->C,tuple->h,ownBlock->az
open Go.IntKind renaming i64->K
open Option renaming none->F,some->E
open Go renaming World->U,Value->V
open Go.Proofs.Tryz renaming prog->T
open Go.Ending renaming returned->g
open Nat renaming lt_of_lt_of_le->aG,not_lt_zero->dZ
open List renaming getElem?_eq_getElem->cK,length_take->dj,length_cons->dP,length_set->iU,getD_eq_getElem?_getD->nT,getElem?_take->lj,getElem_append_right->qI,getElem_append_left->qK,getElem_set->mi,getElem_take->oy
open Go.Addr renaming add_mid->dx
open Go.Proofs.YthhibagcpjeihaaGreat.Rows renaming uptoBulk->kM
namespace Go.Proofs.YthhibagcpjeihaaGreat
open Go.RowKit
open M
set_option linter.unusedVariables false
set_option linter.unusedSimpArgs false
set_option maxRecDepth 100000
def fY(c:List Int) (a:Nat) (e d:Nat):Nat:=if a<c.length then(min (max (c.getD a 0) 0) ((e:Int) - d)).toNat else 0
def fZ(e:List Int) (d:Nat) (f:Int) (a:List Int) (c:Nat):List Int:=
 if fY e d a.length c=0 then a.take c else a.take (c+fY e d a.length c - 1)++[bits BinOp.xor .u8 (a.getD (c+fY e d a.length c - 1) 0) f]
def iA(c:u) (d:List Int) (e:Int):u:=⟨λa=>if a<4 then fZ d a e (c.b a) (c.last a) else c.b a,λa=>if a<4 then(fZ d a e (c.b a) (c.last a)).length else c.last a,c.room, -1⟩
def qJ(a:u) (c:Int):u:=⟨a.b,a.last,a.room,c⟩
theorem vp(e:List Int) (d c a:Nat) (f:a<=c):a+fY e d c a<=c:=by
 unfold fY;split<;>omega
theorem Ik{f:Type} (c:List f) (a:Nat) (m:a+1<=c.length) (e:f):(c.take (a+1)).set a e=c.take a++[e]:=by
 apply List.ext_getElem
 ·simp;omega
 ·intro j i k;simp only[iU,dj] at i;rw[mi];by_cases d:a=j
  ·subst d;rw[if_pos rfl,qI (by rw[dj];omega)];simp
  ·rw[if_neg d,oy,qK (by simp;omega),oy]
theorem Il{keep:List Int} {i:Nat} {s:Int} {f:bU} {c:List Int} {a:Nat} (j:f.xs=cg c) (hl:f.last=a) (m:a<=c.length):gG keep i s f=cg (fZ keep i s c a):=by
 have o:gq keep i f=fY keep i c.length a:=by
  unfold gq fY;rw[j,hl,jE]
 have q:=vp keep i c.length a m;unfold gG fZ;rw[o,hl,j];by_cases e:fY keep i c.length a=0
 ·rw[if_pos e,if_pos e,e,Nat.add_zero];unfold cg;rw[List.map_take]
 ·rw[if_neg e,if_neg e];obtain⟨d,p⟩:∃d,fY keep i c.length a=d+1:=⟨_,(Nat.succ_pred e).symm⟩;rw[p] at q ⊢;have k:a+(d+1) - 1=a+d:=by omega
  rw[k,show a+(d+1)=(a+d)+1 by omega,Ik _ _ (by rw[jE];omega)];have n:(cg c).getD (a+d) undef=.int .u8 (c.getD (a+d) 0):=by
   unfold cg;simp only[nT,List.getElem?_map];rw[cK (by omega)];rfl
  rw[n];unfold cg;rw[List.map_append,List.map_take];rfl
theorem Im{w:U} {S:Nat->Prop} {tb:Nat} {d:u} (k:ae w S tb d) (c:List Int) (i:Nat) (j:Option Addr) (e:Int) (x:c.length<=9223372036854775807) (r:Reads w (C j c.length i) c.length (c.map (y K))) (s:0<c.length->∀n,(C j c.length i).ownBlock=E n->¬S n):Calls T 23 #[b (E ⟨tb,0,F⟩),C j c.length i,.int .u8 e] w λf w'=>f=g (h #[])/\ae w' S tb (iA d c e)/\G S w w':=by
 have t:=λa hi=>(k.last a hi).1;obtain⟨⟨I,p,m,q,L⟩,M⟩:=k;refine(G9 tb c I i j e S w p x r s).mono ?_;rintro f w' ⟨rfl,J,z,A,o,B,D⟩;refine⟨rfl,⟨⟨J,z,λa hi=>?_,by rw[B,q];rfl,by rw[D];rfl⟩,by show(-9223372036854775808:Int)<= -1/\(-1:Int)<=9223372036854775807;decide⟩,A⟩;have f:=Il (keep:=c) (i:=a) (s:=e) (m a hi).1 (m a hi).2 (t a hi);refine⟨?_,?_⟩
 ·rw[(o a hi).1,f];show _=cg (if a<4 then fZ c a e (d.b a) (d.last a) else d.b a);rw[if_pos hi]
 ·rw[(o a hi).2,f,jE];show _=(if a<4 then(fZ c a e (d.b a) (d.last a)).length else d.last a);rw[if_pos hi]
theorem Io{w:U} {S:Nat->Prop} {tb:Nat} {d:u} (j:ae w S tb d):Calls T 47 #[b (E ⟨tb,0,F⟩)] w λe w'=>∃a:Nat,e=g (b (E ⟨a,0,F⟩))/\w.heap.size<=a/\ae w' (λq=>w.heap.size<=q) a d/\G No w w':=by
 obtain⟨⟨z,k,f,m,n⟩,o⟩:=j;refine(CZ tb z S w k).mono ?_;rintro e w' ⟨a,rfl,p,A,r,s,i,t,x⟩;exact⟨a,rfl,p,⟨⟨A,r,λc hi=>⟨(i c hi).1.trans (f c hi).1,(i c hi).2.trans (f c hi).2⟩,t.trans m,x.trans n⟩,o⟩,s⟩
theorem vq{w:U} {S:Nat->Prop} {tb:Nat} {c:u} (f:ae w S tb c) (a:Int) (k: -9223372036854775808<=a/\a<=9223372036854775807):Calls T 19 #[b (E ⟨tb,0,F⟩),y K a] w λd w'=>d=g (h #[])/\ae w' S tb (qJ c a)/\G (· =tb) w w':=by
 obtain⟨⟨q,e,i,j,o⟩,p⟩:=f;refine(CL tb a w _ e.has (by unfold D.cells;simp)).mono ?_;rintro d w' ⟨rfl,rfl⟩;exact⟨rfl,⟨⟨_,e.fuse a,λm hi=>by rw[lr];exact i m hi,j,rfl⟩,k⟩,(G.refl (λn=>n=tb) w).setCell (p:=⟨tb,9,F⟩) (.inl rfl) _⟩
open Go.ChangeShapes Go.WideShapes Go.ChangeAt
structure oz (w:U) (S:Array V):Prop where
 ex:∃(sp:Int) (keep:List Int) (ka:Option Addr) (kc:Nat),S[23]? =E (C ka keep.length kc)/\S[24]? =E (.int .u8 sp)/\keep.length<=9223372036854775807/\
  Reads w (C ka keep.length kc) keep.length (keep.map (y K))/\(0<keep.length->∀k,(C ka keep.length kc).ownBlock=E k->k<w.heap.size)
section
variable {H:Type} {enc:TypeId×V->H} {w:U} {base:Nat} {spare:Nat->Bool} {held:Bool}
theorem vr{cs:List V} {a:Nat} {c:V} (d:(cs.drop a).take 1=[c]):cs[a]? =E c:=by
 have:((cs.drop a).take 1)[0]? =E c:=by rw[d];rfl
 rw[lj,if_pos (by omega),List.getElem?_drop] at this;simpa using this
theorem zN{w:U} {a:Addr} {e:V} (c:w.cell? a=E e):a.block<w.heap.size:=by
 unfold World.cell? at c
 cases d:w.heap[a.block]? with
 |none=>
  exfalso;simp only[d] at c
  cases c
 |some f=>exact(Array.getElem?_eq_some_iff.1 d).1
theorem Ip{fuel:Nat} {cs:List V} {u:DataW H×List MemPlace} (a:DataW.trod enc T w base spare held fuel 45 cs=E u):oz w cs.toArray:=by
 obtain⟨xs,m,_,_,hl,s,hf⟩:=DataW.trod_struct underlying45 a;have B:xs.length=8:=s;have n:T.cellsOf 3=1:=by kernel_rfl
 have i:T.cellsOf 25=1:=by kernel_rfl
 have o:T.cellsOf 5=1:=by kernel_rfl
 have f3:DataW.trod enc T w base spare held m 25 ((cs.drop 23).take (T.cellsOf 25))=xs[6]? :=hf 6 _ rfl;have f4:DataW.trod enc T w base spare held m 5 ((cs.drop 24).take (T.cellsOf 5))=xs[7]? :=hf 7 _ rfl;rw[cK (by omega)] at f3 f4;obtain⟨sp,d,_,G⟩:=DataW.trod_int underlying5 f4;rw[o] at d;have d:=vr d
 obtain⟨hv,_⟩|⟨e,len,cap,f,hv,hb,x,r,t,_,hc,A⟩:=open_ints Tryz.underlying25 Tryz.underlying3 n f3
 ·rw[i] at hv;exact⟨sp,[],F,0,by simpa using vr hv,by simpa using d,by simp,.inl ⟨rfl,rfl⟩,λa=>by simp at a⟩
 ·rw[i] at hv;have z:len<=f.length:=by rw[t];split<;>omega
  have hlen:(f.take len).length=len:=by rw[dj];omega
  refine⟨sp,f.take len,E e,cap,?_,by simpa using d,?_,?_,?_⟩
  ·rw[hlen];simpa using vr hv
  ·rw[hlen];unfold maxLen at r;omega
  ·refine .inr ⟨e,cap,rfl,λk I hu=>?_⟩;rw[List.getElem?_map] at hu
   cases c:(f.take len)[k]? with
   |none=>rw[c] at hu;cases hu
   |some J=>
    rw[c] at hu;have j:=(List.getElem?_eq_some_iff.1 c).1;rw[hlen] at j;rw[lj,if_pos j] at c;rw[hc k (by omega),nT,c];exact hu
  ·intro a D q;rw[hlen] at a;have:=zN (hc 0 (by omega));have p:(e.add 0).block=e.block:=by unfold Addr.add;split<;>rfl
   rw[p] at this;simp[az] at q;omega
end
theorem oz.mod{w w':U} {S:Array V} (c:oz w S) (d:G No w w'):oz w' S:=by
 obtain⟨sp,t,r,s,j,m,n,a,k⟩:=c;refine⟨sp,t,r,s,j,m,n,?_,λc q o=>aG (k c q o) d.size⟩;obtain a|⟨e,f,i,a⟩:=a
 ·exact .inl a
 ·exact .inr ⟨e,f,i,λp u hu=>fF d (a p u hu)⟩
def qL(w:U) (a:Option Addr) (f:Nat):Prop:=∀e,e<f->∃(d off:Nat) (c:Array V),a=E ⟨d,off,F⟩/\j3 c/\w.rangeAt d (off+e* 25) c.toList/\oz w c/\d<w.heap.size
theorem qL.mod{w w':U} {a:Option Addr} {d:Nat} (i:qL w a d) (c:G No w w'):qL w' a d:=λp hi=>by
 obtain⟨f,off,e,j,k,m,n,o⟩:=i p hi;exact⟨f,off,e,j,k,qG c m,n.mod c,aG o c.size⟩
section
variable {H:Type} {enc:TypeId×V->H} {w:U} {spare:Nat->Bool} {held:Bool}
theorem Iq{c:V} {j:DataW H} {ps:List MemPlace} (hs:∃a len cap,c=C a len cap) (k:DataW.Trod enc T w 0 spare held 22 c j ps):∃a e cap,c=C a e cap/\qL w a e/\(j=.nil/\e=0\/∃es sp,j=.slice es sp/\es.length=e):=by
 obtain⟨fuel,k⟩:=k;obtain⟨hv,o⟩|⟨a,len,cap,elems,rest,e,_,hv,o,hb,hl,P,hlen,p,R,Q⟩:=DataW.trod_slice Tryz.underlying22 k
 ·refine⟨F,0,0,?_,λr hi=>absurd hi (dZ _),.inl ⟨congrArg Prod.fst o,rfl⟩⟩;exact zr hv hs
 ·refine⟨E a,len,cap,zr hv hs,λr hi=>?_,.inr ⟨_,_,congrArg Prod.fst o,by simpa using hlen⟩⟩;have s:=p r hi;rw[cK (by omega),uZ] at s;obtain⟨cs,z,m⟩:=Option.bind_eq_some_iff.1 s;obtain⟨_,O,hc⟩:=World.cells?_some z;obtain⟨A,B⟩:=Hf m;obtain⟨D,G⟩:=Hg m;have I:=Ip m;obtain⟨i,off,sp⟩:=a;have J:sp=F:=by
   have t:=p 0 (by omega);rw[cK (by omega),uZ] at t;obtain⟨M,L,S⟩:=Option.bind_eq_some_iff.1 t;obtain⟨_,X,u⟩:=World.cells?_some L;have d:=u 0 (by omega);rw[cK (by omega)] at d;have x:((⟨i,off,sp⟩:Addr).add (0* 25)).add 0=⟨i,off,sp⟩:=by simp[Addr.add]
   rw[x] at d;unfold World.cell? at d
   cases sp with
   |none=>rfl
   |some Y=>
    exfalso;simp at d;split at d<;>simp at d
  subst J;refine⟨i,off,cs.toArray,rfl,⟨by simpa using A,λf n c hv=>B f n c (by simpa using hv),λc hv=>D c (by simpa using hv),λc hv=>G c (by simpa using hv)⟩,λf c n=>?_,I,?_⟩
  case refine_2=>
   have d:=hc 0 (by omega);rw[cK (by omega)] at d;have:=zN d;rw[dx,dx] at this;exact this
  have q:cs[f]? =E c:=by simpa using n
  have N:=(List.getElem?_eq_some_iff.1 q).1;have:=hc f (by omega);rw[dx,dx,q] at this;exact this
end
set_option maxHeartbeats 8000000
def pz(I:Int):Array V:=#[y K (-9),y K 0,y K I]
theorem Ir{H:Type} (a:DataW H):1<=kM a:=by
 cases a with
 |lit c=>cases c<;>simp[kM]
 |nil=>simp[kM]
 |ptr a=>simp[kM]
 |slice elems spare=>simp[kM]
 |agg parts=>simp[kM]
 |iface e a=>simp[kM]
 |map entries=>simp[kM]
 |held d=>simp[kM]
theorem Iu{H:Type} {d:DataW H} {c:List (DataW H)} (e:d∈c):kM d<=Rows.uptoBulkAll c:=by
 induction c with
 |nil=>cases e
 |cons j i f=>
  simp only[Rows.uptoBulkAll]
  cases List.mem_cons.1 e with
  |inl a=>subst a;omega
  |inr a=>have:=f a;omega
theorem Iv{H:Type} (a:List (DataW H)):a.length<=Rows.uptoBulkAll a:=by
 induction a with
 |nil=>simp[Rows.uptoBulkAll]
 |cons c e d=>have:=Ir c;simp only[Rows.uptoBulkAll,dP];omega
theorem Iw{H:Type} {es sp:List (DataW H)} {a:List (DataW H)} (c:(DataW.slice es sp:DataW H)∈a) (e:Rows.uptoSmall H a=true):es.length<=1048576:=by
 have f:Rows.uptoBulkAll a<=1048576:=of_decide_eq_true e;have d:=Iu c;have i:=Iv es;simp only[kM] at d;omega
end Go.Proofs.YthhibagcpjeihaaGreat
