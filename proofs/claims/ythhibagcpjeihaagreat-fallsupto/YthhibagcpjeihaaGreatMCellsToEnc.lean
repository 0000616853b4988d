import Derived.Test.YthhibagcpjeihaaGreatMBaseToPut2
import Derived.Deep.MidRow
import Derived.Handy
import Derived.BigQuiet
import Derived.Deep.QuietTactic
import Derived.Laws.BitsLemmas
open Go.Proofs.Tryz
open Go.Value renaming int->y,pointer->b,slice->C,bool->W,agg->l,tuple->h,ownBlock->az
open Go.IntKind renaming i64->K,wrap_i64->jB
open Option renaming none->F,some->E
open Go renaming World->U,Value->V
open Go.Proofs.Tryz renaming prog->T
open Go.Ending renaming returned->g
open Go.Obj renaming cells->v
open List renaming length_append->aJ,getElem?_eq_getElem->cK,eq_nil_of_length_eq_zero->fS,length_take->dj,length_cons->dP,take_length->eA,length_nil->im,countP_le_length->mg,getElem?_take->lj,flatMap_cons->lh,take_add_one->lq,countP_append->nL,getElem?_append_right->rz
open Array renaming getElem?_eq_getElem->bX,getElem?_toList->dE,getElem?_setIfInBounds_ne->jS,getElem?_setIfInBounds_self_of_lt->ry,getElem?_setIfInBounds->pQ
open Go.Act renaming eval->Z,put->aP
open Go.World renaming ownsRow_nil->cJ,block_lt_of_cell?->jA
open Nat renaming zero_add->bg,le_trans->bF,le_refl->bK,not_lt_zero->dZ,zero_le->fJ,mul_le_mul_right->mq
open Go.Region renaming wanted->gM
open Go.Instr renaming index->gz
open Go.Oper renaming wp->eT
namespace Go.Proofs.YthhibagcpjeihaaGreat
open Go.RowKit
set_option linter.unusedVariables false
theorem G.setCells{S:Nat->Prop} {a:U} {b:Nat} (hb:S b\/a.heap.size<=b):∀(vs:List V) (c:Nat) (w:U),G S a w->G S a (w.setCells b c vs)
 |[],_,_,d=>d
 |f::e,c,w,d=>G.setCells hb e (c+1) _ (d.setCell (p:=⟨b,c,F⟩) hb f)
def mj:Array V->Nat->List V->Array V
 |cs,_,[]=>cs
 |cs,a,d::c=>mj (cs.setIfInBounds a d) (a+1) c
theorem X.setCells{b:Nat} {d:TypeId}:∀(vs:List V) (a:Nat) (w:U) (cs:Array V),X w b cs d->X (w.setCells b a vs) b (mj cs a vs) d
 |[],_,_,_,c=>c
 |f::e,a,_,_,c=>X.setCells e (a+1) _ _ (c.set a f)
theorem xc:∀(vs:List V) (c:Nat) (cs:Array V) (a:Nat),(mj cs c vs)[a]? =if c<=a/\a<c+vs.length/\a<cs.size then vs[a - c]? else cs[a]?
 |[],c,cs,a=>by
  simp only[mj,im,Nat.add_zero];rw[if_neg (by omega)]
 |j::i,c,cs,a=>by
  simp only[mj];rw[xc i (c+1) _ a];simp only[Array.size_setIfInBounds,dP];by_cases e:c+1<=a/\a<c+1+i.length/\a<cs.size
  ·rw[if_pos e,if_pos ⟨by omega,by omega,e.2.2⟩];obtain⟨d,rfl⟩:∃d,a=c+1+d:=⟨a - (c+1),by omega⟩;rw[show c+1+d - (c+1)=d by omega,show c+1+d - c=d+1 by omega];rfl
  ·rw[if_neg e];by_cases f:c<=a/\a<c+(i.length+1)/\a<cs.size
   ·have:a=c:=by omega
    subst this;rw[if_pos f,ry f.2.2,Nat.sub_self];rfl
   ·rw[if_neg f];by_cases hi:c=a
    ·subst hi;rw[pQ,if_pos rfl,if_neg (by omega),Array.getElem?_eq_none (by omega)]
    ·rw[jS hi]
theorem tT:∀(vs:List V) (a:Nat) (cs:Array V),(mj cs a vs).size=cs.size
 |[],_,_=>rfl
 |d::c,a,cs=>by simp only[mj];rw[tT c (a+1) _];simp
theorem tU(cs vs:Array V) (c:vs.size=cs.size):mj cs 0 vs.toList=vs:=by
 apply Array.ext
 ·rw[tT,c]
 ·intro e d a;have:=xc vs.toList 0 cs e;rw[if_pos ⟨by omega,by simpa using a,by omega⟩] at this;rw[bX d] at this;simpa [bX a] using this
theorem X.range{w:U} {c:Nat} {cs:Array V} {f:TypeId} (i:X w c cs f) (e:Nat) (d:List V) (hl:∀j a,d[j]? =E a->cs[e+j]? =E a):w.rangeAt c e d:=
 λj a hv=>by rw[i.cell];exact hl j a hv
theorem oT{P:Program} {ops:Array Oper} {rest:List Oper} {op:Oper} {a:Act} {w:U} {i:Exit->Act->U->Prop} (p:op.guard=F) (ty:TypeId) (f:Operand) (q:op.op=.load ty f) (e d:Nat) (r:a.eval f=b (E ⟨e,d,F⟩)) (cs:Array V) (m:TypeId) (hb:X w e cs m) (c:Array V) (hl:∀j k,c.toList[j]? =E k->cs[d+j]? =E k)
  (hu:(P.underlying ty).map (·.isRow)=E true) (hi:(P.info? ty).map (·.size)=E c.size) (o:wpList P ops i rest (a.put op.dst (l c)) w):wpList P ops i (op::rest) a w:=by
 cases hd:P.underlying ty with
 |none=>rw[hd] at hu;simp at hu
 |some n=>
  rw[hd] at hu;exact wpList_load_mid p ty f q e d r c.toList n (hb.range d _ hl) hd (by simpa using hu) (by simpa using hi) o
theorem tV{P:Program} {ops:Array Oper} {rest:List Oper} {op:Oper} {a:Act} {w:U} {i:Exit->Act->U->Prop} (n:op.guard=F) (ty:TypeId) (e f:Operand) (o:op.op=.store ty e f) (c:Nat) (cells:Array V) (p:a.eval e=b (E ⟨c,0,F⟩)) (hy:a.eval f=l cells) (cs:Array V) (j:TypeId) (hb:X w c cs j) (hs:cells.size=cs.size)
  (hi:(P.info? ty).map (·.size)=E cells.size) (m:cells.all (·.oneCell')=true) (k:∀w',X w' c cells j->G (λd=>d=c) w w'->wpList P ops i rest (a.put op.dst undef) w'):wpList P ops i (op::rest) a w:=by
 refine wpList_store_mid n ty e f o c 0 cells p hy (λr q=>⟨?_,hb.frozen _⟩) hi m (k _ ?_ ?_)
 ·rw[hb.cell,bg,bX (by omega)];rfl
 ·have:=hb.setCells cells.toList 0;rw[tU cs cells hs] at this;exact this
 ·exact G.setCells (S:=λd=>d=c) (.inl rfl) _ _ _ (G.refl _ _)
set_option linter.unusedSimpArgs false
def Reads(w:U) (f:V) (d:Nat) (j:List V):Prop:=
 (f=C F 0 0/\d=0)\/∃a i,f=C (E a) d i/\∀c e,j[c]? =E e->w.cell? (a.add c)=E e
theorem mn{w:U} {base:Nat} {e:TypeId} {size:Nat} {d:V} {c:Nat} {xs:List V} (a:w.ownsRow base e size d c xs):Reads w d c xs:=by
 obtain⟨i,j⟩|⟨f,cap,n,hv,_,_⟩:=a.2
 ·exact .inl ⟨i,j⟩
 ·refine .inr ⟨⟨f,0,F⟩,cap,hv,λk m hu=>?_⟩;exact a.cells (by rw[hv];rfl) k m hu
theorem Reads.mod{S:Nat->Prop} {w w':U} {d:V} {j:Nat} {k:List V} (c:Reads w d j k) (o:G S w w') (hs:∀i,d.ownBlock=E i->¬S i):Reads w' d j k:=by
 obtain c|⟨a,m,rfl,hc⟩:=c
 ·exact .inl c
 ·refine .inr ⟨a,m,rfl,λf p hu=>?_⟩;have e:=hc f p hu;have hb:(a.add f).block=a.block:=by unfold Addr.add;split<;>rfl
  have n:=jA w _ e;rw[World.cell?_of_block (w:=w) (o.block _ n (by rw[hb];exact hs _ rfl))];exact e
def dY(w:U) (c v':V):Prop:=∀a,v'.ownBlock=E a->c.ownBlock=E a\/w.heap.size<=a
theorem Cz{P:Program} (w:U) (q ty k:TypeId) (a:TypeInfo) (u:V) (size bytes:Nat) (s:P.underlying q=E (.slice k)) (hi:P.info? k=E a) (L:a.zero=E u) (I:a.size=size) (G:a.bytes=bytes) (M:u.cells.size=size) (J:0<size) (t:V) (j:Nat) (xs:List V) (m:w.ownsRow 0 k size t j xs)
  (S:V) (c:Nat) (d:List V) (ae:Reads w S c d) (hl:d.length=c* size) (B:∀af∈d,af.oneCell'=true) (D:j+c<=maxLen) (H:(j+c)* bytes<=140737488355328):∃v' w',(Builtin.append_ #[q,q] ty #[t,S]).run P w=.ok v' w'/\w'.ownsRow 0 k size v' (j+c) (xs++d)/\w.grownBy w' t.ownBlock/\dY w t v':=by
 have ad:w.grownBy w t.ownBlock:=⟨rfl,rfl,rfl,bK _,λ_ _ _=>rfl⟩;obtain⟨rfl,rfl⟩|⟨x,z,rfl,hc⟩:=ae
 ·obtain rfl:d=[]:=fS (by simpa using hl);refine⟨t,w,?_,by simpa using m,ad,λp i=>.inl i⟩;obtain⟨rfl,rfl⟩|⟨o,cap,n,rfl,_,_,O,_⟩:=m.2
  ·simp[Builtin.append_,run_underlying s,sizeOf,typeInfo,hi,Builtin.lenOf,Builtin.firstCells,loadCells,loadCellsFrom]
  ·simp[Builtin.append_,run_underlying s,sizeOf,typeInfo,hi,Builtin.lenOf,Builtin.firstCells,loadCells,loadCellsFrom,O,storeCells]
 ·have ai:=m;obtain⟨rfl,rfl⟩|⟨o,cap,n,rfl,_,ab,O,ah,hcs,aj⟩:=m.2
  ·obtain rfl:xs=[]:=fS (by simpa using m.1);obtain⟨v',w',r,e,f,ag⟩:=run_append_own (P:=P) w w.heap.size q ty k a u size bytes s hi L I G M J (C F 0 0) 0 [] (cJ _ _ _ _) x c z d hl hc B D H (bK _);refine⟨v',w',r,⟨e.1,?_⟩,f,λp i=>.inr (e.lt p i).1⟩;obtain A|⟨o,cap,n,hv,_,N⟩:=e.2
   ·exact .inl A
   ·exact .inr ⟨o,cap,n,hv,fJ _,N⟩
  ·by_cases R:j+c<=cap
   ·subst I;have aa:j* a.size+d.length<=n.size:=by rw[hl,hcs,<-Nat.add_mul];exact mq _ R
    have r:=run_append_room (P:=P) w q ty k a s hi o j cap n ab x c z d hl hc B R aa;obtain⟨v',w',Q,e,f,_⟩:=run_append_own (P:=P) w 0 q ty k a u a.size bytes s hi L rfl G M J _ j xs m x c z d hl hc B D H (fJ _);rw[r] at Q;injection Q with X Y;subst X;subst Y;exact⟨_,_,r,e,f,λp i=>.inl i⟩
   ·obtain⟨v',w',r,e,f⟩:=run_append_arg_grows (P:=P) w q ty k a u size bytes s hi L I G M J ⟨o,0,F⟩ j cap xs m.1 (m.cells rfl) x c z d hl hc (by omega) D H;refine⟨v',w',r,⟨e.1,?_⟩,⟨f.os,f.tape,f.output,f.size,λp i _=>f.block p i (by simp)⟩,λp i=>.inr (e.lt p i).1⟩;obtain A|⟨o,cap,n,hv,_,N⟩:=e.2
    ·exact .inl A
    ·exact .inr ⟨o,cap,n,hv,fJ _,N⟩
section
variable {P:Program} {w:U}
theorem xd{k:Oper} {a:Act} {q:Act->U->Prop} {t:Exit->Act->U->Prop} (r s:Operand) (m:TypeId) (I:k.op=.call { callee:=.builtin .append,args:=#[r,s],argTypes:=#[m,m] }) (d:TypeId) (e:TypeInfo) (p:V) (size bytes:Nat) (N:P.underlying m=E (.slice d)) (hi:P.info? d=E e) (Q:e.zero=E p)
  (L:e.size=size) (G:e.bytes=bytes) (R:p.cells.size=size) (M:0<size) (j:V) (f:Nat) (xs:List V) (hs:a.eval r=j) (J:w.ownsRow 0 d size j f xs) (o:V) (c:Nat) (i:List V) (O:a.eval s=o) (n:Reads w o c i) (hl:i.length=c* size) (x:∀S∈i,S.oneCell'=true) (D:f+c<=maxLen) (H:(f+c)* bytes<=140737488355328)
  (u:∀v' w',w'.ownsRow 0 d size v' (f+c) (xs++i)->w.grownBy w' j.ownBlock->dY w j v'->q (a.put k.dst v') w'):k.wp P a w q t:=by
 obtain⟨v',w',n,z,A,B⟩:=Cz (P:=P) w m k.type d e p size bytes N hi Q L G R M j f xs J o c i n hl x D H;unfold eT execOp;simp only[I,resolve,invoke,builtin,Sem.run_bind,Sem.run_pure,Result.andThen_ok,List.map_toArray,List.map_cons,List.map_nil,hs,O,n];exact u v' w' z A B
theorem eI{ops:Array Oper} {rest:List Oper} {k:Oper} {a:Act} {r:Exit->Act->U->Prop} (H:k.guard=F) (n p:Operand) (m:TypeId) (I:k.op=.call { callee:=.builtin .append,args:=#[n,p],argTypes:=#[m,m] }) (d:TypeId) (e:TypeInfo) (q:V) (size bytes:Nat) (O:P.underlying m=E (.slice d)) (hi:P.info? d=E e) (R:e.zero=E q)
  (M:e.size=size) (D:e.bytes=bytes) (S:q.cells.size=size) (N:0<size) (j:V) (f:Nat) (xs:List V) (hs:a.eval n=j) (J:w.ownsRow 0 d size j f xs) (o:V) (c:Nat) (i:List V) (Q:a.eval p=o) (L:Reads w o c i) (hl:i.length=c* size) (t:∀X∈i,X.oneCell'=true) (A:f+c<=maxLen) (G:(f+c)* bytes<=140737488355328)
  (s:∀v' w',w'.ownsRow 0 d size v' (f+c) (xs++i)->w.grownBy w' j.ownBlock->dY w j v'->wpList P ops r rest (a.put k.dst v') w'):wpList P ops r (k::rest) a w:=
 wpList_plain H λ_ B=>xd n p m I d e q size bytes O hi R M D S N j f xs hs J o c i Q L hl t A G λv' w' u x z=>B _ _ (s v' w' u x z)
theorem pW{ops:Array Oper} {d:Oper} {a:Act} {r:Act->U->Prop} {t:Exit->Act->U->Prop} {s:Prop} (D:d.guard=F) (n p:Operand) (m:TypeId) (G:d.op=.call { callee:=.builtin .append,args:=#[n,p],argTypes:=#[m,m] }) (e:TypeId) (f:TypeInfo) (q:V) (size bytes:Nat) (M:P.underlying m=E (.slice e)) (hi:P.info? e=E f) (Q:f.zero=E q)
  (J:f.size=size) (A:f.bytes=bytes) (R:q.cells.size=size) (L:0<size) (k:V) (i:Nat) (xs:List V) (hs:a.eval n=k) (H:w.ownsRow 0 e size k i xs) (o:V) (c:Nat) (j:List V) (O:a.eval p=o) (I:Reads w o c j) (hl:j.length=c* size) (x:∀S∈j,S.oneCell'=true) (z:i+c<=maxLen) (B:(i+c)* bytes<=140737488355328)
  (u:∀v' w',w'.ownsRow 0 e size v' (i+c) (xs++j)->w.grownBy w' k.ownBlock->dY w k v'->r (a.put d.dst v') w'):if gM d (yielded ops a.tmps)=true then eT P d a w r t else s:=by
 have N:gM d (yielded ops a.tmps)=true:=by simp[gM,D]
 rw[if_pos N];exact xd n p m G e f q size bytes M hi Q J A R L k i xs hs H o c j O I hl x z B u
end
open M
set_option maxRecDepth 100000
set_option maxHeartbeats 2000000
def dc(a:B):Array V:=#[y K a.row,y K a.P,y K a.st,y K a.pa,y K a.cl,y K a.un]
structure aE (w:U) (g cap:Nat) (l:List B):Prop where
 cur:∃cur,X w g cur 63/\cur.size=cap* 6/\∀i (h:i<l.length) j,j<6->cur[i* 6+j]? =(dc l[i])[j]?
 le:l.length<=cap
 max:cap<=maxLen
theorem aE.cell{w:U} {d cap:Nat} {c:List B} (e:aE w d cap c) (a:Nat) (hi:a<c.length) (j:Nat) (k:j<6):w.cell? ⟨d,a* 6+j,F⟩=(dc c[a])[j]? :=by
 obtain⟨m,f,n,i⟩:=e.cur;rw[f.cell];exact i a hi j k
theorem aE.row{w:U} {d cap:Nat} {c:List B} (e:aE w d cap c) (a:Nat) (hi:a<c.length):w.cell? ⟨d,a* 6,F⟩=E (y K c[a].row):=e.cell a hi 0 (by omega)
theorem aE.P{w:U} {d cap:Nat} {c:List B} (e:aE w d cap c) (a:Nat) (hi:a<c.length):w.cell? ⟨d,a* 6+1,F⟩=E (y K c[a].P):=e.cell a hi 1 (by omega)
theorem aE.st{w:U} {c cap:Nat} {a:List B} (d:aE w c cap a) (i:Nat) (hi:i<a.length):w.cell? ⟨c,i* 6+2,F⟩=E (y K a[i].st):=d.cell i hi 2 (by omega)
theorem aE.pa{w:U} {d cap:Nat} {c:List B} (e:aE w d cap c) (a:Nat) (hi:a<c.length):w.cell? ⟨d,a* 6+3,F⟩=E (y K c[a].pa):=e.cell a hi 3 (by omega)
theorem aE.cl{w:U} {d cap:Nat} {c:List B} (e:aE w d cap c) (a:Nat) (hi:a<c.length):w.cell? ⟨d,a* 6+4,F⟩=E (y K c[a].cl):=e.cell a hi 4 (by omega)
theorem aE.un{w:U} {d cap:Nat} {c:List B} (e:aE w d cap c) (a:Nat) (hi:a<c.length):w.cell? ⟨d,a* 6+5,F⟩=E (y K c[a].un):=e.cell a hi 5 (by omega)
theorem aE.lt{w:U} {a cap:Nat} {e:List B} (c:aE w a cap e):a<w.heap.size:=by
 obtain⟨f,d,_⟩:=c.cur;exact d.lt
theorem aE.mod{w w':U} {a cap:Nat} {d:List B} {S:Nat->Prop} (c:aE w a cap d) (m:G S w w') (k:¬S a):aE w' a cap d:=by
 obtain⟨e,f,i,j⟩:=c.cur;exact⟨⟨e,m.has f k,i,j⟩,c.le,c.max⟩
theorem nK{m:Type} (c:Nat) (n:0<c) (f:m->List V) (hf:∀k,(f k).length=c):∀(d:List m) (a:Nat) (e:a<d.length) (j:Nat),j<c->(d.flatMap f)[a* c+j]? =(f d[a])[j]?
 |[],a,e,_,_=>absurd e (dZ _)
 |k::d,0,e,j,i=>by
  rw[lh,Nat.zero_mul,bg,List.getElem?_append_left (by rw[hf];exact i)];rfl
 |k::d,a+1,e,j,i=>by
  rw[lh,rz (by rw[hf,Nat.add_mul];omega),hf];rw[show(a+1)* c+j - c=a* c+j by rw[Nat.add_mul,Nat.one_mul];omega];exact nK c n f hf d a (by simpa using e) j i
theorem kj{f:Type} (d:Nat) (c:f->List V) (hf:∀e,(c e).length=d):∀(a:List f),(a.flatMap c).length=a.length* d
 |[]=>by simp
 |e::a=>by rw[lh,aJ,kj d c hf a,hf,dP,Nat.add_mul];omega
def aX(a:B):List V:=(dc a).toList
theorem pX(a:B):(aX a).length=6:=rfl
theorem tW{w:U} {d e cap:Nat} {c:List B} (k:w.ownsRow 0 63 6 (C (E ⟨d,0,F⟩) e cap) c.length (c.flatMap aX)):e=c.length/\aE w d cap c:=by
 obtain⟨A,m|⟨z,x,f,hv,hb,n,q,p,r,s⟩⟩:=k
 ·exact absurd m.1 (by simp)
 ·injection hv with a i j;injection a with a;injection a with a;subst a i j;refine⟨rfl,⟨f,n,r,λt hi u o=>?_⟩,q,p⟩;have:=nK 6 (by omega) aX pX c t hi u o;rw[<-s,lj,if_pos (by omega)] at this;rw[<-dE,this];simp[aX]
theorem CA{w:U} {d cap:Nat} {a:List B} (e:aE w d cap a):w.ownsRow 0 63 6 (C (E ⟨d,0,F⟩) a.length cap) a.length (a.flatMap aX):=by
 obtain⟨i,k,m,n⟩:=e.cur;refine⟨kj 6 aX pX a,.inr ⟨d,cap,i,rfl,fJ _,k,e.le,e.max,m,?_⟩⟩;apply List.ext_getElem?;intro c;rw[lj];by_cases f:c<a.length* 6
 ·rw[if_pos f];have hi:c / 6<a.length:=by omega
  have j:c=c / 6* 6+c % 6:=by omega
  rw[j,nK 6 (by omega) aX pX a (c / 6) hi (c % 6) (by omega),dE,n _ hi _ (by omega)];simp[aX]
 ·rw[if_neg f,List.getElem?_eq_none (by rw[kj 6 aX pX];omega)]
theorem pY:(T.info? 63).map (λa=>(a.zero,a.size,a.bytes))=E (E (l #[y K 0,y K 0,y K 0,y K 0,y K 0,y K 0]),6,48):=by kernel_rfl
theorem CC(c:List B) (a:Nat) (hi:a<c.length):cY (c.take (a+1))=cY (c.take a)+if c[a].st=0 then 1 else 0:=by
 unfold cY;rw[lq,cK hi];simp only[Option.toList_some,nL,List.countP_singleton,beq_iff_eq]
theorem pZ(a:List B):cY a<=a.length:=mg
theorem xe(c:Int) (a:List B):dN c a<=a.length:=mg
theorem CD(d:Int) (c:List B) (a:Nat) (hi:a<c.length):dN d (c.take (a+1))=dN d (c.take a)+if (c[a].cX&&decide (d<=c[a].cl))=true then 1 else 0:=by
 unfold dN;rw[lq,cK hi];simp only[Option.toList_some,nL,List.countP_singleton]
theorem rA(gf f j cap:Nat) (c:List B) (w:U) (m:aE w j cap c) (hl:c.length<=1000) (hf:w.cell? ⟨gf,f+8,F⟩=E (C (E ⟨j,0,F⟩) c.length cap)):Calls T 58 #[b (E ⟨gf,f,F⟩)] w λd w'=>d=g (y K (cY c:Nat))/\w'=w:=by
 have r:=i m;clear m;go_enter func58,ntmps58;go_wp2_with fail;go_loopw [3,4] (λt e wr=>∃a:Nat,t=y K (cY (c.take a):Nat)/\e=y K a/\a<=c.length/\wr=w) (λ_ e _=>c.length - (intOf e).toNat)
 case atStart=>exact⟨0,rfl,rfl,by omega,rfl⟩
 case round=>
  obtain⟨a,rfl,rfl,hi,rfl⟩:=hrel;by_cases n:a<c.length
  ·have s:(a:Int)<(c.length:Int):=by omega
   have x:(0:Int)<=a:=by omega
   have u:=(k r).st a n;have z:K.wrap ((a:Int)+1)=((a+1:Nat):Int):=by rw[aB _ (by omega) (by omega)];rfl
   have A:cY (c.take a)<=a:=by have:=pZ (c.take a);rw[dj] at this;omega
   have q:=i (CC c a n);by_cases o:c[a].st=0
   ·have p:K.wrap ((cY (c.take a):Nat)+1:Int)=((cY (c.take (a+1)):Nat):Int):=by
     rw[k q,if_pos o,aB _ (by omega) (by omega)];rfl
    go_wp2;exact⟨⟨a+1,rfl,rfl,by omega,trivial⟩,by simp[intOf];omega⟩
   ·have p:cY (c.take a)=cY (c.take (a+1)):=by rw[k q,if_neg o];rfl
    go_wp2;exact⟨⟨a+1,by rw[p],rfl,by omega,trivial⟩,by simp[intOf];omega⟩
  ·have s:¬(a:Int)<(c.length:Int):=by omega
   have d:a=c.length:=by omega
   subst d;rw[eA];go_wp2;go_ret;exact⟨rfl,rfl⟩
theorem CG(gf x z cap:Nat) (c:List B) (d:Int) (w:U) (o:aE w z cap c) (hl:c.length<=1000) (hf:w.cell? ⟨gf,x+8,F⟩=E (C (E ⟨z,0,F⟩) c.length cap)):Calls T 91 #[b (E ⟨gf,x,F⟩),y K d] w λm w'=>m=g (y K (dN d c:Nat))/\G No w w':=by
 have p:=i o;have q:=i hf;have L:=jA w _ hf;clear o hf;go_enter func91,ntmps91;go_wp2_with fail;go_loopw [5,6] (λM A wr=>∃a:Nat,M=y K (dN d (c.take a):Nat)/\A=y K a/\a<=c.length/\Hid (G No w wr)) (λ_ A _=>c.length - (intOf A).toNat)
 case atStart=>exact⟨0,rfl,rfl,by omega,G.refl _ _⟩
 case round=>
  obtain⟨a,rfl,rfl,hi,f⟩:=hrel;have ad:wr.cell? ⟨gf,x+8,F⟩=E (C (E ⟨z,0,F⟩) c.length cap):=by
   have I:=k q;unfold World.cell? at I ⊢;rw[(k f).block gf L (λD=>D)];exact I
  by_cases n:a<c.length
  ·have J:(a:Int)<(c.length:Int):=by omega
   have Y:(0:Int)<=a:=by omega
   have j:=(k p).mod (k f) (λD=>D);have N:=j.row a n;have O:=j.P a n;have Q:=j.st a n;have R:=j.pa a n;have S:=j.cl a n;have X:=j.un a n;clear j;have ae:K.wrap ((a:Int)+1)=((a+1:Nat):Int):=by rw[aB _ (by omega) (by omega)];rfl
   have af:dN d (c.take a)<=a:=by have:=xe d (c.take a);rw[dj] at this;omega
   have t:=i (CD d c a n);have s:(c[a].cX&&decide (d<=c[a].cl))=false->dN d (c.take a)=dN d (c.take (a+1)):=λo=>by rw[k t,o];rfl
   have u:(c[a].cX&&decide (d<=c[a].cl))=true->K.wrap ((dN d (c.take a):Nat)+1:Int)=((dN d (c.take (a+1)):Nat):Int):=λo=>by
    rw[k t,if_pos o,aB _ (by omega) (by omega)];rfl
   by_cases e:c[a].st=1\/c[a].st=2
   ·have hs:c[a].cX=true:=by unfold B.cX;simpa using e
    by_cases H:c[a].cl>=d
    ·have r:=u (by rw[hs];simpa using H);clear u s t p q hs;obtain e|e:=e
     ·go_wp2;exact⟨⟨a+1,rfl,rfl,by omega,(k f).alloc _⟩,by simp[intOf];omega⟩
     ·go_wp2;exact⟨⟨a+1,rfl,rfl,by omega,(k f).alloc _⟩,by simp[intOf];omega⟩
    ·have r:=s (by rw[hs];simpa using H);clear u s t p q hs;obtain e|e:=e
     ·go_wp2;exact⟨⟨a+1,by first|rfl|rw[r],rfl,by omega,(k f).alloc _⟩,by simp[intOf];omega⟩
     ·go_wp2;exact⟨⟨a+1,by first|rfl|rw[r],rfl,by omega,(k f).alloc _⟩,by simp[intOf];omega⟩
   ·have hs:c[a].cX=false:=by unfold B.cX;simpa using e
    have r:=s (by rw[hs];rfl);have aa:¬c[a].st=1:=λm=>e (.inl m);have ab:¬c[a].st=2:=λm=>e (.inr m);clear u s t p q hs e;go_wp2;exact⟨⟨a+1,by first|rfl|rw[r],rfl,by omega,(k f).alloc _⟩,by simp[intOf];omega⟩
  ·have J:¬(a:Int)<(c.length:Int):=by omega
   have m:a=c.length:=by omega
   subst m;rw[eA];clear p q;go_wp2;go_ret;exact⟨rfl,k f⟩
theorem xg(gf H I cap:Nat) (c:List B) (f e:Int) (w:U) (j:aE w I cap c) (hl:c.length<=1000) (hf:w.cell? ⟨gf,H+8,F⟩=E (C (E ⟨I,0,F⟩) c.length cap)):Calls T 85 #[b (E ⟨gf,H,F⟩),l #[y K f,y K e]] w λt w'=>G No w w'/\((∃a,∃hi:a<c.length,c[a].row=f/\c[a].P=e/\t=g (y K (a:Nat)))\/((∀a,∀hi:a<c.length,¬(c[a].row=f/\c[a].P=e))/\t=g (y K (-1)))):=by
 have n:=i j;have p:=i hf;have R:=jA w _ hf;have N:=i (X.new w #[y K f,y K e] 36);have O:=i ((G.refl No w).alloc (v #[y K f,y K e] 36));clear j hf;go_enter func85,ntmps85;go_wp2_with fail;go_loopw [5] (λL wr=>∃a:Nat,L=y K a/\a<=c.length/\Hid (∀d,∀r:d<c.length,d<a->¬(c[d].row=f/\c[d].P=e))/\Hid (G No w wr)/\Hid (X wr w.heap.size #[y K f,y K e] 36)) (λL _=>c.length - (intOf L).toNat)
 case atStart=>exact⟨0,rfl,by omega,λd r j=>absurd j (dZ _),O,N⟩
 case round=>
  obtain⟨a,rfl,hi,o,m,s⟩:=hrel;have ae:wr.cell? ⟨gf,H+8,F⟩=E (C (E ⟨I,0,F⟩) c.length cap):=by
   have z:=k p;unfold World.cell? at z ⊢;rw[(k m).block gf R (λM=>M)];exact z
  clear N O;by_cases J:a<c.length
  ·have Q:(a:Int)<(c.length:Int):=by omega
   have ad:(0:Int)<=a:=by omega
   have A:=(k n).mod (k m) (λM=>M);have aa:=A.row a J;have ab:=A.P a J;have b0:wr.cell? ⟨w.heap.size,0,F⟩=E (y K f):=(k s).cell 0;have Y:wr.cell? ⟨w.heap.size,1,F⟩=E (y K e):=(k s).cell 1;clear A;have af:K.wrap ((a:Int)+1)=((a+1:Nat):Int):=by rw[aB _ (by omega) (by omega)];rfl
   have q:=i (λ(z:¬(c[a].row=f/\c[a].P=e)) (d:Nat) (r:d<c.length) (ag:d<a+1)=>(show ¬(c[d].row=f/\c[d].P=e) from by
    by_cases t:d=a
    ·subst t;exact z
    ·exact(k o) d r (by omega)))
   by_cases u:c[a].row=f
   ·have d2:(c[a].row==f)=true:=by simp[u]
    by_cases x:c[a].P=e
    ·have d3:(c[a].P==e)=true:=by simp[x]
     clear n p o q;go_wp2_with fail;go_quiet (fail);go_wp2;go_ret;exact⟨(k m).drewN _,.inl ⟨a,J,u,x,rfl⟩⟩
    ·have d3:(c[a].P==e)=false:=by simp[x]
     have D:=i ((k q) (λj=>x j.2));clear n p o q;go_wp2_with fail;go_quiet (fail);go_wp2;exact⟨⟨a+1,rfl,by omega,D,(k m).drewN _,(k s).drewN _⟩,by simp[intOf];omega⟩
   ·have d2:(c[a].row==f)=false:=by simp[u]
    have D:=i ((k q) (λj=>u j.1));clear n p o q;go_wp2_with fail;go_quiet (fail);go_wp2;exact⟨⟨a+1,rfl,by omega,D,(k m).drewN _,(k s).drewN _⟩,by simp[intOf];omega⟩
  ·have Q:¬(a:Int)<(c.length:Int):=by omega
   clear n p;go_wp2;go_ret;exact⟨k m,.inr ⟨λd r S hc=>(k o) d r (by omega) ⟨S,hc⟩,rfl⟩⟩
structure bU where
 v:V
 xs:List V
 last:Nat
structure D where
 f0:bU
 f1:bU
 f2:bU
 f3:bU
 room:Int
 fuse:Int
def D.cells(a:D):Array V:=
 #[a.f0.v,y K a.f0.last,a.f1.v,y K a.f1.last,a.f2.v,y K a.f2.last,a.f3.v,y K a.f3.last,y K a.room,y K a.fuse]
structure bU.ok (S:Nat->Prop) (w:U) (f:bU):Prop where
 owns:w.ownsRow 0 5 1 f.v f.xs.length f.xs
 last:f.last<=f.xs.length
 len:f.xs.length<=17592186044416
 bytes:∀x∈f.xs,∃n:Int,x=.int .u8 n/\0<=n/\n<256
 cd:∀k,f.v.ownBlock=E k->S k
def bU.apart(c d:bU):Prop:=∀a,c.v.ownBlock=E a->d.v.ownBlock≠E a
theorem bU.apart.symm{a c:bU} (d:a.apart c):c.apart a:=λf e hf=>d f hf e
structure D.ok (S:Nat->Prop) (w:U) (b:Nat) (t:D):Prop where
 has:X w b t.cells 108
 cd:S b
 eJ:t.f0.ok S w
 k1:t.f1.ok S w
 k2:t.f2.ok S w
 iR:t.f3.ok S w
 km:t.f0.apart t.f1
 kn:t.f0.apart t.f2
 kp:t.f0.apart t.f3
 ks:t.f1.apart t.f2
 kt:t.f1.apart t.f3
 ku:t.f2.apart t.f3
theorem nM{S:Nat->Prop} {w:U} {d:bU} (c:d.ok S w):∃a cap,d.v=C a d.xs.length cap/\(d.xs.length:Int)<=17592186044416:=by
 obtain⟨⟨hl,c⟩,_,j,_⟩:=c;obtain⟨c,e⟩|⟨i,cap,f,c,_⟩:=c
 ·exact⟨F,0,by rw[c,e],by omega⟩
 ·exact⟨_,cap,c,by omega⟩
def D.used(a:D):Nat:=a.f0.xs.length+a.f1.xs.length+a.f2.xs.length+a.f3.xs.length
theorem bU.ok.mod{S S':Nat->Prop} {w w':U} {c:bU} (a:c.ok S w) (e:G S' w w') (hs:∀d,c.v.ownBlock=E d->¬S' d):c.ok S w':=
 ⟨e.owns a.owns hs,a.last,a.len,a.bytes,a.cd⟩
theorem D.ok.mod{S S':Nat->Prop} {w w':U} {f:Nat} {i:D} (a:i.ok S w f) (e:G S' w w') (hs:∀c,S c->¬S' c):i.ok S w' f:=
 ⟨e.has a.has (hs f a.cd),a.cd,a.eJ.mod e (λc d=>hs c (a.eJ.cd c d)),a.k1.mod e (λc d=>hs c (a.k1.cd c d)),
  a.k2.mod e (λc d=>hs c (a.k2.cd c d)),a.iR.mod e (λc d=>hs c (a.iR.cd c d)),a.km,a.kn,a.kp,a.ks,a.kt,a.ku⟩
theorem D.ok.aD{S:Nat->Prop} {w w':U} {a:Nat} {c:D} (d:c.ok S w a) (e:G No w w'):c.ok S w' a:=d.mod e (λ_ _ f=>f)
theorem bU.ok.wide{S S':Nat->Prop} {w:U} {d:bU} (a:d.ok S w) (hs:∀c,S c->S' c):d.ok S' w:=⟨a.owns,a.last,a.len,a.bytes,λc e=>hs c (a.cd c e)⟩
theorem D.ok.wide{S S':Nat->Prop} {w:U} {c:Nat} {e:D} (a:e.ok S w c) (hs:∀d,S d->S' d):e.ok S' w c:=
 ⟨a.has,hs _ a.cd,a.eJ.wide hs,a.k1.wide hs,a.k2.wide hs,a.iR.wide hs,a.km,a.kn,a.kp,a.ks,a.kt,a.ku⟩
def eK(a:Int):Int:=if 0<a then a - 1 else a
theorem CH(c:D) (a:Int):c.cells.setIfInBounds 9 (y K a)=({ c with fuse:=a }:D).cells:=rfl
theorem D.ok.fuse{S:Nat->Prop} {w:U} {d:Nat} {j:D} (a:j.ok S w d) (i:Int):({ j with fuse:=i }:D).ok S (w.setCell ⟨d,9,F⟩ (y K i)) d:=by
 have m:∀(c:bU),c.ok S w->c.v.ownBlock≠E d:=λc hf e=>by
  obtain⟨hv,_⟩|⟨o,cap,n,hv,_,k,_⟩:=hf.owns.2
  ·rw[hv] at e;simp[az] at e
  ·rw[hv] at e;simp[az] at e;subst e;exact a.has.ne (T':=5) k (by decide) rfl
 have f:∀(c:bU),c.ok S w->c.ok S (w.setCell ⟨d,9,F⟩ (y K i)):=λc hf=>
  ⟨gT hf.owns (by simpa using m c hf) _,hf.last,hf.len,hf.bytes,hf.cd⟩
 exact⟨by have:=a.has.set 9 (y K i);rwa [CH] at this,a.cd,f _ a.eJ,f _ a.k1,f _ a.k2,f _ a.iR,a.km,a.kn,a.kp,a.ks,a.kt,a.ku⟩
theorem oU{S:Nat->Prop} (c:Nat) (a:D) (w:U) (e:a.ok S w c) (hf: -9223372036854775808<=a.fuse/\a.fuse<=9223372036854775807):Calls T 73 #[b (E ⟨c,0,F⟩)] w λn w'=>n=g (W (decide (a.fuse≠0)))/\({ a with fuse:=eK a.fuse }:D).ok S w' c/\G (· =c) w w':=by
 have hc:=e.has.cell;have t:=e.has.frozen;have f:=i e;have j:a.cells[9]? =E (y K a.fuse):=rfl;have m:=hc 9;rw[j] at m;clear hc e j;obtain⟨f0,f1,f2,f3,u,d⟩:=a;simp only at m hf;simp only;obtain q|o|p:=Int.lt_trichotomy d 0
 ·go_enter func73,ntmps73;go_wp2
  all_goals go_ret
  all_goals exact⟨by simp;omega,by simpa [eK,Int.not_lt.2 (Int.le_of_lt q)] using k f,G.refl _ _⟩
 ·subst o;go_enter func73,ntmps73;go_wp2
  all_goals go_ret
  all_goals exact⟨by simp,by simpa [eK] using k f,G.refl _ _⟩
 ·have s:K.wrap (d - 1)=d - 1:=by rw[jB];omega
  go_enter func73,ntmps73;go_wp2
  all_goals go_ret
  all_goals exact⟨by simp;omega,by simpa [eK,p] using (k f).fuse (d - 1),G.setCell (S:=λr=>r=c) (G.refl _ w) (p:=⟨c,9,F⟩) (.inl rfl) _⟩
def D.get(a:D):Nat->bU
 |0=>a.f0
 |1=>a.f1
 |2=>a.f2
 |_=>a.f3
def D.put(c:D) (a:bU):Nat->D
 |0=>{ c with f0:=a }
 |1=>{ c with f1:=a }
 |2=>{ c with f2:=a }
 |_=>{ c with f3:=a }
def Touch(c:Nat) (d:bU):Nat->Prop:=λa=>a=c\/d.v.ownBlock=E a
theorem bU.ok.ne{S:Nat->Prop} {w:U} {d:bU} (hf:d.ok S w) {c:Nat} {cs:Array V} (e:X w c cs 108):d.v.ownBlock≠E c:=λa=>by
 obtain⟨hv,_⟩|⟨j,cap,i,hv,_,f,_⟩:=hf.owns.2
 ·rw[hv] at a;simp[az] at a
 ·rw[hv] at a;simp[az] at a;subst a;exact e.ne (T':=5) f (by decide) rfl
theorem bU.ok.other{S:Nat->Prop} {w w':U} {c:Nat} {a d:bU} {cs:Array V} (hf:a.ok S w) (hb:X w c cs 108) (i:a.apart d) (j:G (Touch c d) w w'):a.ok S w':=
 hf.mod j (λk e=>by
  rintro(rfl|f)
  ·exact hf.ne hb e
  ·exact i k e f)
theorem D.ok.put{S S':Nat->Prop} {w w':U} {m:Nat} {j:D} (a:j.ok S w m) (i:Nat) (hi:i<4) (k:bU) (e:G (Touch m (j.get i)) w w') (n:X w' m (j.put k i).cells 108) (hf:k.ok S' w') (hS:∀c,S c->S' c) (t:∀c,k.v.ownBlock=E c->(j.get i).v.ownBlock=E c\/w.heap.size<=c):(j.put k i).ok S' w' m:=by
 have lt:∀(f:bU),f.ok S w->∀c,f.v.ownBlock=E c->c<w.heap.size:=λf o c p=>(o.owns.lt c p).2;have d:∀(f:bU),f.ok S w->(j.get i).apart f->k.apart f:=λf o s c p r=>by
  obtain q|q:=t c p
  ·exact s c q r
  ·have:=lt f o c r;omega
 match i,hi with
 |0,_=>
  exact⟨n,hS _ a.cd,hf,(a.k1.other a.has a.km.symm e).wide hS,(a.k2.other a.has a.kn.symm e).wide hS,(a.iR.other a.has a.kp.symm e).wide hS,
   d _ a.k1 a.km,d _ a.k2 a.kn,d _ a.iR a.kp,a.ks,a.kt,a.ku⟩
 |1,_=>
  exact⟨n,hS _ a.cd,(a.eJ.other a.has a.km e).wide hS,hf,(a.k2.other a.has a.ks.symm e).wide hS,(a.iR.other a.has a.kt.symm e).wide hS,
   (d _ a.eJ a.km.symm).symm,a.kn,a.kp,d _ a.k2 a.ks,d _ a.iR a.kt,a.ku⟩
 |2,_=>
  exact⟨n,hS _ a.cd,(a.eJ.other a.has a.kn e).wide hS,(a.k1.other a.has a.ks e).wide hS,hf,(a.iR.other a.has a.ku.symm e).wide hS,
   a.km,(d _ a.eJ a.kn.symm).symm,a.kp,(d _ a.k1 a.ks.symm).symm,a.kt,d _ a.iR a.ku⟩
 |3,_=>
  exact⟨n,hS _ a.cd,(a.eJ.other a.has a.kp e).wide hS,(a.k1.other a.has a.kt e).wide hS,(a.k2.other a.has a.ku e).wide hS,hf,
   a.km,a.kn,(d _ a.eJ a.kp.symm).symm,a.ks,(d _ a.k1 a.kt.symm).symm,(d _ a.k2 a.ku.symm).symm⟩
theorem D.ok.get{S:Nat->Prop} {w:U} {e:Nat} {d:D} (a:d.ok S w e) (c:Nat) (hi:c<4):(d.get c).ok S w:=by
 match c,hi with
 |0,_=>exact a.eJ
 |1,_=>exact a.k1
 |2,_=>exact a.k2
 |3,_=>exact a.iR
theorem jT(c:D) (a:Nat) (hi:a<4):c.cells[a* 2]? =E (c.get a).v/\c.cells[a* 2+1]? =E (y K (c.get a).last):=by
 match a,hi with
 |0,_=>exact⟨rfl,rfl⟩
 |1,_=>exact⟨rfl,rfl⟩
 |2,_=>exact⟨rfl,rfl⟩
 |3,_=>exact⟨rfl,rfl⟩
theorem rB(d:D) (e:V) (xs:List V) (c:Nat) (a:Nat) (hi:a<4):(d.cells.setIfInBounds (a* 2) e).setIfInBounds (a* 2+1) (y K c)=(d.put ⟨e,xs,c⟩ a).cells:=by
 match a,hi with
 |0,_=>rfl
 |1,_=>rfl
 |2,_=>rfl
 |3,_=>rfl
theorem CI(c:D) (d:V) (xs:List V) (a:Nat) (hi:a<4):c.cells.setIfInBounds (a* 2) d=(c.put ⟨d,xs,(c.get a).last⟩ a).cells:=by
 match a,hi with
 |0,_=>rfl
 |1,_=>rfl
 |2,_=>rfl
 |3,_=>rfl
theorem CJ(c:D) (xs:List V) (d:Nat) (a:Nat) (hi:a<4):c.cells.setIfInBounds (a* 2+1) (y K d)=(c.put ⟨(c.get a).v,xs,d⟩ a).cells:=by
 match a,hi with
 |0,_=>rfl
 |1,_=>rfl
 |2,_=>rfl
 |3,_=>rfl
theorem CK(a:Int) (w:U):Calls T 18 #[y K a] w λc w'=>c=g (b (E ⟨w.heap.size,0,F⟩))/\w'=w.alloc (v (⟨⟨C F 0 0,[],0⟩,⟨C F 0 0,[],0⟩,⟨C F 0 0,[],0⟩,⟨C F 0 0,[],0⟩,a, -1⟩:D).cells 108):=by
 go_enter func18,ntmps18;go_wp2;go_ret;exact⟨rfl,rfl⟩
theorem CL(a:Nat) (d:Int) (w:U) (cs:Array V) (c:X w a cs 108) (f:9<cs.size):Calls T 19 #[b (E ⟨a,0,F⟩),y K d] w λe w'=>e=g (h #[])/\w'=w.setCell ⟨a,9,F⟩ (y K d):=by
 have hc:=c.cell 9;have i:=c.frozen 9;rw[bX f] at hc;clear c;generalize cs[9]=j at hc;go_enter func19,ntmps19;go_wp2;go_end0;exact⟨rfl,rfl⟩
theorem rC(a:Nat) (d:Int) (w:U) (cs:Array V) (c:X w a cs 108) (f:cs[8]? =E (y K d)):Calls T 28 #[b (E ⟨a,0,F⟩)] w λe w'=>e=g (y K d)/\w'=w:=by
 have hc:=c.cell 8;rw[f] at hc;clear c;go_enter func28,ntmps28;go_wp2;go_ret;exact⟨rfl,rfl⟩
theorem xh(a c d e f i j k:V) (w:U):(gz 106 (l #[a,c,d,e,f,i,j,k]) (y K 0)).run T w=.ok (l #[a,c]) w:=by
 simp[go_sem,gz]
theorem xi(d e a c f i j k:V) (w:U):(gz 106 (l #[d,e,a,c,f,i,j,k]) (y K 1)).run T w=.ok (l #[a,c]) w:=by
 simp[go_sem,gz]
theorem xj(d e f i a c j k:V) (w:U):(gz 106 (l #[d,e,f,i,a,c,j,k]) (y K 2)).run T w=.ok (l #[a,c]) w:=by
 simp[go_sem,gz]
theorem xk(d e f i j k a c:V) (w:U):(gz 106 (l #[d,e,f,i,j,k,a,c]) (y K 3)).run T w=.ok (l #[a,c]) w:=by
 simp[go_sem,gz]
attribute [local go_sem] xh xi xj xk
set_option maxRecDepth 100000 in theorem CM(k:Nat) (n o p q:Option Addr) (c d i j r s t u:Nat) (B D H I J z:Int) (w:U) (L:c<=17592186044416) (M:d<=17592186044416) (N:i<=17592186044416) (O:j<=17592186044416) (hc:∀m,w.cell? ⟨k,m,F⟩=(#[C n c r,y K B,C o d s,y K D,C p i t,y K H,C q j u,y K I,y K J,y K z]:Array V)[m]?):
  Calls T 137 #[b (E ⟨k,0,F⟩)] w λx w'=>x=g (y K (c+d+i+j:Nat))/\G No w w':=by
 go_enter func137,ntmps137;go_wp2;go_loopw [3,10] (λf a wr=>((a=y K 0/\f=y K 0)\/(a=y K 1/\f=y K c)\/(a=y K 2/\f=y K (c+d))\/(a=y K 3/\f=y K (c+d+i))\/(a=y K 4/\f=y K (c+d+i+j)))/\G No w wr) (λ_ a _=>4 - (intOf a).toNat)
 case atStart=>exact⟨.inl ⟨rfl,rfl⟩,G.refl _ _⟩
 case round=>
  obtain⟨A,e⟩:=hrel;clear hc;obtain⟨rfl,rfl⟩|⟨rfl,rfl⟩|⟨rfl,rfl⟩|⟨rfl,rfl⟩|⟨rfl,rfl⟩:=A
  ·go_wp2;go_roundw
   ·exact⟨.inr (.inl ⟨rfl,rfl⟩),e.alloc _⟩
   ·simp[intOf]
  ·go_wp2;go_roundw
   ·exact⟨.inr (.inr (.inl ⟨rfl,rfl⟩)),e.alloc _⟩
   ·simp[intOf]
  ·go_wp2;go_roundw
   ·exact⟨.inr (.inr (.inr (.inl ⟨rfl,rfl⟩))),e.alloc _⟩
   ·simp[intOf]
  ·go_wp2;go_roundw
   ·exact⟨.inr (.inr (.inr (.inr ⟨rfl,rfl⟩))),e.alloc _⟩
   ·simp[intOf]
  ·go_wp2;go_ret;exact⟨rfl,e⟩
theorem CN{S:Nat->Prop} (c:Nat) (d:D) (w:U) (a:d.ok S w c):Calls T 137 #[b (E ⟨c,0,F⟩)] w λp w'=>p=g (y K d.used)/\G No w w':=by
 have hc:=a.has.cell;obtain⟨e,k,q,u⟩:=nM a.eJ;obtain⟨f,m,r,x⟩:=nM a.k1;obtain⟨i,n,s,z⟩:=nM a.k2;obtain⟨j,o,t,A⟩:=nM a.iR;unfold D.cells at hc;rw[q,r,s,t] at hc;exact CM c e f i j _ _ _ _ k m n o _ _ _ _ _ _ w (by omega) (by omega) (by omega) (by omega) hc
theorem CO(f:Nat) (cs:Array V) (c a k:Int) (w:U) (hu:0<=c) (s:c<=140737488355328) (p:0<=a) (q:a<=140737488355328) (i:X w f cs 108) (m:∀e,G No w e->Calls T 137 #[b (E ⟨f,0,F⟩)] e λd w'=>d=g (y K c)/\G No e w') (r:cs[8]? =E (y K k)):Calls T 122 #[b (E ⟨f,0,F⟩),y K a] w λd w'=>d=g (W (decide (c+a<=k)))/\G No w w':=by
 have hc:=i.cell;have t:=aB (c+a) (by omega) (by omega);go_enter func122,ntmps122;go_wp2_with fail;go_region_with (go_at_call 137;refine(m _ ?_).mono ?_;exact(G.refl No w).drew;rintro d w' ⟨rfl,j⟩;have o:=(j.has i.drew (λn=>n)).cell)
 all_goals
  go_wp2;go_ret;exact⟨by simp[aP],(G.refl No w).drew.trans j⟩
theorem rD{S:Nat->Prop} (e:Nat) (a:D) (d:Int) (w:U) (c:a.ok S w e) (k:0<=d) (m:d<=140737488355328):Calls T 122 #[b (E ⟨e,0,F⟩),y K d] w λi w'=>i=g (W (decide (a.used+d<=a.room)))/\G No w w':=
 CO e a.cells a.used d a.room w (by omega)
  (by have n:=c.eJ.len;have o:=c.k1.len;have p:=c.k2.len;have q:=c.iR.len;unfold D.used;omega) k m c.has
  (λf j=>CN e a f (c.aD j)) rfl
theorem tX(d:D) (a:bU) (e:Int) (c:Nat):({ d.put a c with fuse:=e }:D)=({ d with fuse:=e }:D).put a c:=by
 unfold D.put;split<;>rfl
theorem lr(c:D) (d:Int) (a:Nat):({ c with fuse:=d }:D).get a=c.get a:=by
 unfold D.get;split<;>rfl
theorem D.ok.last{S:Nat->Prop} {w:U} {f:Nat} {c:D} (i:c.ok S w f) (a:Nat) (hi:a<4) (e:Nat) (k:e<=(c.get a).xs.length):(c.put ⟨(c.get a).v,(c.get a).xs,e⟩ a).ok S (w.setCell ⟨f,a* 2+1,F⟩ (y K e)) f:=by
 have d:=i.get a hi;refine i.put a hi _ (G.setCell (G.refl _ w) (p:=⟨f,a* 2+1,F⟩) (.inl (.inl rfl)) _) ?_ ?_ (λ_ m=>m) (λn j=>.inl j)
 ·have:=i.has.set (a* 2+1) (y K e)
  rwa [CJ c (c.get a).xs e a hi] at this
 ·exact⟨gT d.owns (by simpa using d.ne i.has) _,k,d.len,d.bytes,d.cd⟩
theorem CP(d:Nat) (c:D) (a:Nat) (hi:a<4) (S:Nat->Prop) (w:U) (q:c.ok S w d) (hf: -9223372036854775808<=c.fuse/\c.fuse<=9223372036854775807) (z:c.fuse≠0):Calls T 45 #[b (E ⟨d,0,F⟩),y K a] w λp w'=>p=g (W true)/\({ c.put ⟨(c.get a).v,(c.get a).xs,(c.get a).xs.length⟩ a with fuse:=eK c.fuse }:D).ok S w' d/\G (· =d) w w':=by
 have m:=λo (A:c.ok S o d)=>oU d c o A hf;simp only[ne_eq,z,not_false_eq_true,decide_true] at m;have s:=i q;have u:=i m;clear m q;have O:(a:Int)<4:=by omega
 go_enter func45,ntmps45;go_wp2_with fail;refine((k u) _ (k s)).mono ?_;rintro p J ⟨rfl,e,r⟩;have hc:=e.has.cell (a* 2);have B:=e.has.cell (a* 2+1);have Q:=e.has.frozen;rw[(jT _ a hi).1] at hc;rw[(jT _ a hi).2] at B;obtain⟨M,N,j,R⟩:=nM (e.get a hi);rw[j] at hc;have t:=i e;have x:=i r;have L:=i j;clear e r j;generalize f:((({ c with fuse:=eK c.fuse }:D).get a).xs.length)=I at *;have n:=i f;clear f
 go_wp2_with fail;go_region
 all_goals
  go_wp2;go_ret;refine⟨rfl,?_,G.trans (k x) (G.setCell (S:=λH=>H=d) (G.refl _ J) (p:=⟨d,a* 2+1,F⟩) (.inl rfl) _).drew⟩;rw[tX];have hl:=D.ok.last (k t) a hi I (by rw[k n];exact bK _);have f:=k n;rw[lr] at f hl;rw[f];exact hl.aD (G.refl No _).drew
theorem CQ(c:Nat) (a:D) (m:Nat) (hi:m<4) (S:Nat->Prop) (w:U) (o:a.ok S w c) (e:a.fuse=0):Calls T 45 #[b (E ⟨c,0,F⟩),y K m] w λd w'=>d=g (W false)/\a.ok S w' c/\G (· =c) w w':=by
 have j:=λn (z:a.ok S n c)=>oU c a n z (by omega);simp only[ne_eq,e,not_true_eq_false,decide_false] at j;have s:=i o;have u:=i j;have p:=i e;clear j o e;have A:(m:Int)<4:=by omega
 go_enter func45,ntmps45;go_wp2_with fail;refine((k u) _ (k s)).mono ?_;rintro d B ⟨rfl,q,r⟩;have t:=i q;have x:=i r;clear q r;go_wp2;go_ret;have f:=k t;rw[show eK 0=0 from rfl] at f;refine⟨rfl,?_,k x⟩;have d:({ a with fuse:=0 }:D)=a:=by cases a;simp only at p;rw[k p]
 rw[d] at f;exact f
theorem oV:(T.info? 5).map (λa=>(a.zero,a.size,a.bytes))=E (E (.int .u8 0),1,1):=by kernel_rfl
theorem D.ok.row{S:Nat->Prop} {w i:U} {c:Nat} {d:D} (f:d.ok S w c) (a:Nat) (hi:a<4) (v':V) (j:List V) (s:w.grownBy i (d.get a).v.ownBlock) (A:i.ownsRow 0 5 1 v' j.length j) (q:dY w (d.get a).v v') (hl:(d.get a).last<=j.length) (hlen:j.length<=17592186044416) (hb:∀B∈j,∃r:Int,B=.int .u8 r/\0<=r/\r<256):
  (d.put ⟨v',j,(d.get a).last⟩ a).ok (λe=>S e\/w.heap.size<=e) (i.setCell ⟨c,a* 2,F⟩ v') c/\G S w (i.setCell ⟨c,a* 2,F⟩ v'):=by
 have n:=f.get a hi;have x:G (Touch c (d.get a)) w i:=(G.refl _ w).grown s (λe m=>.inl (.inr m));have t:G (Touch c (d.get a)) w (i.setCell ⟨c,a* 2,F⟩ v'):=x.setCell (p:=⟨c,a* 2,F⟩) (.inl (.inl rfl)) _;have u:X i c d.cells 108:=by
  unfold X;rw[s.block c f.has.lt (λo=>n.ne f.has o.symm)];exact f.has
 have z:v'.ownBlock≠E c:=λo=>by
  obtain k|k:=q c o
  ·exact n.ne f.has k
  ·have:=f.has.lt;omega
 refine⟨f.put a hi _ t ?_ ?_ (λe m=>.inl m) q,t.mono (λe m p=>?_)⟩
 ·have:=u.set (a* 2) v'
  rwa [CI d v' j a hi] at this
 ·refine⟨gT A (by simpa using z) _,hl,hlen,hb,λe m=>?_⟩;obtain k|k:=q e m
  ·exact .inl (n.cd e k)
  ·exact .inr k
 ·obtain rfl|p:=p
  ·exact f.cd
  ·exact n.cd e p
theorem CS(d:Nat) (a:D) (f:Nat) (hi:f<4) (S:Nat->Prop) (w:U) (m:a.ok S w d) (s:Option Addr) (c q:Nat) (u:c<=17592186044416) (r:a.room<a.used+c):Calls T 123 #[b (E ⟨d,0,F⟩),y K f,C s c q] w λj w'=>j=g (W false)/\G No w w':=by
 have e:=rD d a c w m (by omega) (by omega);have hd:decide ((a.used:Int)+c<=a.room)=false:=by simp;omega
 rw[hd] at e;have o:=i e;clear e m hd r;have t:(f:Int)<4:=by omega
 go_enter func123,ntmps123;go_wp2_with fail;refine(k o).mono ?_;rintro j x ⟨rfl,n⟩;have p:=i n;clear n;go_wp2;go_ret;exact⟨rfl,k p⟩
set_option maxRecDepth 100000 in theorem CT(e:Nat) (a:D) (c:Nat) (hi:c<4) (S:Nat->Prop) (w:U) (n:a.ok S w e) (z:Option Addr) (d s:Nat) (j:List V) (t:Reads w (C z d s) d j) (ao:(C z d s).ownBlock≠E e) (ag:j.length=d) (hu:∀m∈j,∃x:Int,m=.int .u8 x/\0<=x/\x<256)
  (aN:(a.get c).xs.length+d<=17592186044416) (a1:a.used+d<=a.room) (hf: -9223372036854775808<=a.fuse/\a.fuse<=9223372036854775807) (aK:a.fuse≠0):Calls T 123 #[b (E ⟨e,0,F⟩),y K c,C z d s] w λf w'=>f=g (W true)/\(∃v',({ a.put ⟨v',(a.get c).xs++j,(a.get c).last⟩ c with fuse:=eK a.fuse }:D).ok (λr=>S r\/w.heap.size<=r) w' e)/\G S w w':=by
 have B:=rD e a d w n (by omega) (by omega);have hd:decide ((a.used:Int)+d<=a.room)=true:=by simp;omega
 rw[hd] at B;have aw:=i B;have A:=λaa (aL:a.ok S aa e)=>oU e a aa aL hf;simp only[ne_eq,aK,not_false_eq_true,decide_true] at A;have M:=i n;have av:=i A;have aB:=i t;have aF:=i ao;have O:=i ag;have Q:=i hu;clear B n hd A t ao ag hu;have a0:(c:Int)<4:=by omega
 obtain⟨aQ,aT,aU,aV,aW⟩:=info_parts oV;go_enter func123,ntmps123;go_wp2_with fail;refine(k aw).mono ?_;rintro f ap ⟨rfl,u⟩;have ar:=i ((k M).aD u);have aD:=i ((k aB).mod u (λ_ _ m=>m));have R:=i u;clear u;go_wp2_with fail;refine((k av) _ (k ar)).mono ?_;rintro f aq ⟨rfl,p,J⟩;have am:=(k aD).mod J (λr o f=>(k aF) (by rw[o,f]));have Y:=i J;have hc:=p.has.cell (c* 2);have a2:=p.has.frozen
 rw[(jT _ c hi).1] at hc;have H:=p.has;have q:=p.get c hi;rw[lr] at hc q;have ak:=q.owns;have ah:=q.ne H;have au:=i p;have aZ:=i q;have aE:=i am;have N:=i H;have ay:=i ak;have ax:=i ah;clear p J am H q ak ah;have aj:∀L∈j,L.oneCell'=true:=λL hu=>by obtain⟨x,rfl,_⟩:=(k Q) L hu;rfl
 have aA:=i aj;clear aj;go_wp2_with fail
 go_region_law (refine pW rfl (.tmp 33) (.tmp 34) 103 rfl 5 aQ (.int .u8 0) 1 1 underlying103 aT aU aV aW rfl (by decide) (a.get c).v (a.get c).xs.length (a.get c).xs (by simp[Z,aP]) (by exact k ay) (C z d s) d j (by simp[Z,aP]) (by exact k aE) (by rw[k O];omega) (k aA) (by unfold maxLen;omega) (by omega) ?_;intro v' w3 ai ab aO;obtain⟨aH,aI,rfl⟩:=aC ai;have af:X w3 e _ 108:=(by unfold X;rw[ab.block e (k N).lt (λf=>(k ax) f.symm)];exact k N);have aM:=af.cell (c* 2);have a3:=af.frozen;rw[(jT _ c hi).1] at aM)
 all_goals
  go_wp2;go_ret
 have hlen:(a.get c).xs.length+d=((a.get c).xs++j).length:=by rw[aJ,k O]
 have ae:=k M;have ad:=ae.get c hi;have I:=@D.ok.row S aq.drew w3 e { a with fuse:=eK a.fuse } ((k au).aD (G.refl No _).drew) c hi _ ((a.get c).xs++j) (by rw[lr];exact ab)
  (by rw[<-hlen];exact ai) (by rw[lr];exact aO) (by rw[lr];have:=ad.last;rw[aJ];omega) (by rw[<-hlen];exact aN)
  (λm t=>by
   obtain n|n:=List.mem_append.1 t
   ·exact ad.bytes m n
   ·exact(k Q) m n)
 simp only[lr] at I;have aX:=(k R).size;have aY:=(k Y).size;have aR:G S w ap:=(k R).mono (λ_ _ m=>m.elim);have aS:G S ap aq:=(k Y).mono (λr _ f=>by rw[f];exact ae.cd);refine⟨rfl,⟨C aH ((a.get c).xs.length+d) aI,?_⟩,(aR.trans aS).drew.trans I.2⟩;rw[tX];refine I.1.wide (λr o=>?_);obtain o|o:=o
 ·exact .inl o
 ·refine .inr (bF (bF aX aY) ?_);simpa using o
theorem CU(d:Nat) (a:D) (p:Nat) (hi:p<4) (S:Nat->Prop) (w:U) (j:a.ok S w d) (N:Option Addr) (f J:Nat) (Q:f<=17592186044416) (R:a.used+f<=a.room) (m:a.fuse=0):Calls T 123 #[b (E ⟨d,0,F⟩),y K p,C N f J] w λc w'=>c=g (W false)/\a.ok S w' d/\G S w w':=by
 have o:=rD d a f w j (by omega) (by omega);have hd:decide ((a.used:Int)+f<=a.room)=true:=by simp;omega
 rw[hd] at o;have B:=i o;have n:=λs (L:a.ok S s d)=>oU d a s L (by omega);simp only[ne_eq,m,not_true_eq_false,decide_false] at n;have r:=i j;have A:=i n;have t:=i m;clear o j hd n m;have O:(p:Int)<4:=by omega
 go_enter func123,ntmps123;go_wp2_with fail;refine(k B).mono ?_;rintro c Y ⟨rfl,q⟩;have x:=i ((k r).aD q);have H:=i q;clear q;go_wp2_with fail;refine((k A) _ (k x)).mono ?_;rintro c aa ⟨rfl,e,u⟩;have z:=i e;have I:=i u;clear e u;go_wp2;go_ret;have e:=k z;rw[show eK 0=0 from rfl] at e;have c:({ a with fuse:=0 }:D)=a:=by cases a;simp only at t;rw[k t]
 rw[c] at e;exact⟨rfl,e,((k H).mono (λ_ _ M=>M.elim)).trans ((k I).mono (λX _ c=>by rw[c];exact(k r).cd))⟩
theorem D.ok.narrow{S:Nat->Prop} {w:U} {i:Nat} {k:D} (a:k.ok S w i):k.ok (λc=>S c/\c<w.heap.size) w i:=by
 have e:∀f:bU,f.ok S w->f.ok (λc=>S c/\c<w.heap.size) w:=λf d=>⟨d.owns,d.last,d.len,d.bytes,λc j=>⟨d.cd c j,(d.owns.lt c j).2⟩⟩;exact⟨a.has,⟨a.cd,a.has.lt⟩,e _ a.eJ,e _ a.k1,e _ a.k2,e _ a.iR,a.km,a.kn,a.kp,a.ks,a.kt,a.ku⟩
theorem CV(c:Nat) (e:D) (a:Nat) (hi:a<4) (S:Nat->Prop) (w:U) (o:e.ok S w c) (hf: -9223372036854775808<=e.fuse/\e.fuse<=9223372036854775807) (x:e.fuse≠0):Calls T 71 #[b (E ⟨c,0,F⟩),y K a] w λn w'=>n=g (W true)/\({ e.put ⟨C F 0 0,[],0⟩ a with fuse:=eK e.fuse }:D).ok S w' c/\G (· =c) w w':=by
 have f:=λm (z:e.ok S m c)=>oU c e m z hf;simp only[ne_eq,x,not_false_eq_true,decide_true] at f;have r:=i o;have t:=i f;clear f o;have J:(a:Int)<4:=by omega
 go_enter func71,ntmps71;go_wp2_with fail;refine((k t) _ (k r)).mono ?_;rintro n I ⟨rfl,d,p⟩;have hc:=d.has.cell (a* 2);have A:=d.has.cell (a* 2+1);have L:=d.has.frozen;rw[(jT _ a hi).1] at hc;rw[(jT _ a hi).2] at A;have s:=i d;have u:=i p;clear d p;go_wp2;go_ret;have d:=k s;refine⟨rfl,?_,((k u).setCell (p:=⟨c,a* 2,F⟩) (.inl rfl) _).setCell (p:=⟨c,a* 2+1,F⟩) (.inl rfl) _⟩;rw[tX]
 refine d.put a hi _ (((G.refl _ I).setCell (p:=⟨c,a* 2,F⟩) (.inl (.inl rfl)) _).setCell (p:=⟨c,a* 2+1,F⟩) (.inl (.inl rfl)) _) ?_ ?_ (λ_ q=>q) (λH j=>by simp[az] at j)
 ·have:=(d.has.set (a* 2) (C F 0 0)).set (a* 2+1) (y K 0)
  rwa [show(y K 0)=y K ((0:Nat):Int) from rfl,rB _ (C F 0 0) [] 0 a hi] at this
 ·exact⟨cJ _ _ _ _,by simp,by simp,λq B=>by simp at B,λH j=>by simp[az] at j⟩
theorem CW(n:Nat) (c:D) (a:Nat) (hi:a<4) (S:Nat->Prop) (w:U) (e:c.ok S w n):Calls T 89 #[b (E ⟨n,0,F⟩),y K a] w λt w'=>∃m,t=g m/\w'.ownsRow 0 5 1 m (c.get a).xs.length (c.get a).xs/\dY w (C F 0 0) m/\G No w w':=by
 have L:(a:Int)<4:=by omega
 have hc:=e.has.cell (a* 2);rw[(jT _ a hi).1] at hc;have d:=e.get a hi;have p:=mn d.owns;have s:=i p;have o:∀j∈(c.get a).xs,j.oneCell'=true:=λj hu=>by obtain⟨M,rfl,_⟩:=d.bytes j hu;rfl
 have r:=i o;have hlen:=d.len;clear o p d e;obtain⟨x,z,A,B,H⟩:=info_parts oV;go_enter func89,ntmps89
 go_wp2_with (first|(at_builtin;refine eI rfl (.const (C F 0 0)) (.tmp 17) 103 rfl 5 x (.int .u8 0) 1 1 underlying103 z A B H rfl (by decide) (C F 0 0) 0 [] (by simp[Z]) (by exact cJ _ _ _ _) (c.get a).v (c.get a).xs.length (c.get a).xs (by simp[Z]) (by exact k s) (by omega) (k r) (by unfold maxLen;omega) (by omega) ?_;intro v' w3 f u q;obtain⟨I,J,rfl⟩:=aC f));go_ret;rw[bg,List.nil_append] at f
 simp only[bg] at q;exact⟨_,rfl,f,q,(G.refl _ _).grown u (by simp[az])⟩
theorem CX(a:D) (c:Nat) (hi:(c:Int)<4) (w:U):(gz 106 (l #[a.f0.v,y K a.f0.last,a.f1.v,y K a.f1.last,a.f2.v,y K a.f2.last,a.f3.v,y K a.f3.last]) (y K c)).run T w=.ok (l #[(a.get c).v,y K (a.get c).last]) w:=by
 have d:c<4:=by omega
 match c,d with
 |0,_=>exact xh _ _ _ _ _ _ _ _ _
 |1,_=>exact xi _ _ _ _ _ _ _ _ _
 |2,_=>exact xj _ _ _ _ _ _ _ _ _
 |3,_=>exact xk _ _ _ _ _ _ _ _ _
attribute [local go_sem] CX
theorem bU.ok.aD{S:Nat->Prop} {w w':U} {a:bU} (c:a.ok S w) (d:G No w w'):a.ok S w':=c.mod d (λ_ _ e=>e)
theorem p8(e:D) (d:bU) (c j:Nat) (hi:c<4) (a:j<4):(e.put d c).get j=if j=c then d else e.get j:=by
 match c,hi with
 |0,_=>match j,a with|0,_=>rfl|1,_=>rfl|2,_=>rfl|3,_=>rfl
 |1,_=>match j,a with|0,_=>rfl|1,_=>rfl|2,_=>rfl|3,_=>rfl
 |2,_=>match j,a with|0,_=>rfl|1,_=>rfl|2,_=>rfl|3,_=>rfl
 |3,_=>match j,a with|0,_=>rfl|1,_=>rfl|2,_=>rfl|3,_=>rfl
theorem qa(a:D) (c:bU) (d:Nat):(a.put c d).room=a.room/\(a.put c d).fuse=a.fuse:=by
 unfold D.put;split<;>exact⟨rfl,rfl⟩
theorem CY{w wr w3:U} {t:Obj} {e a:Nat} {c m:D} {i:Option Addr} {j:Nat} (hs3:dY (wr.alloc t).drew (C F 0 0) (C i (0+(c.get a).xs.length) j)) (hg3:(wr.alloc t).drew.grownBy w3 (C F 0 0).ownBlock) (ho3:w3.ownsRow 0 5 1 (C i (0+(c.get a).xs.length) j) (0+(c.get a).xs.length) ([]++(c.get a).xs))
  (x:m.ok (λa=>e<=a) wr e) (A:G No w wr) (I:w.heap.size=e) (J:e<wr.heap.size) (p:a<4) (hA:∀d,d<a->(m.get d).xs=(c.get d).xs/\(m.get d).last=(c.get d).last) (z:∀d,a<=d->d<4->m.get d=⟨C F 0 0,[],0⟩) (H:m.room=c.room) (hf:m.fuse=c.fuse) (hl:(c.get a).last<=(c.get a).xs.length) (hlen:(c.get a).xs.length<=17592186044416) (hb:∀f∈(c.get a).xs,∃s:Int,f=.int .u8 s/\0<=s/\s<256):
  ∃t2:D,t2.ok (λa=>e<=a) ((w3.setCell ⟨e,a* 2,F⟩ (C i (c.get a).xs.length j)).setCell ⟨e,a* 2+1,F⟩ (y K (c.get a).last)) e/\G No w ((w3.setCell ⟨e,a* 2,F⟩ (C i (c.get a).xs.length j)).setCell ⟨e,a* 2+1,F⟩ (y K (c.get a).last))/\e<((w3.setCell ⟨e,a* 2,F⟩ (C i (c.get a).xs.length j)).setCell ⟨e,a* 2+1,F⟩ (y K (c.get a).last)).heap.size/\
   (∀d,d<a+1->(t2.get d).xs=(c.get d).xs/\(t2.get d).last=(c.get d).last)/\(∀d,a+1<=d->d<4->t2.get d=⟨C F 0 0,[],0⟩)/\t2.room=c.room/\t2.fuse=c.fuse:=by
 rw[bg,List.nil_append] at ho3;simp only[bg] at hs3;have q:G No wr w3:=((G.refl No wr).alloc t).drew.grown hg3 (by simp[az]);have B:=x.aD q;have r:∀f,(C i (c.get a).xs.length j).ownBlock=E f->e<f:=λf o=>by
  obtain k|k:=hs3 f o
  ·simp[az] at k
  ·simp at k;omega
 refine⟨m.put ⟨C i (c.get a).xs.length j,(c.get a).xs,(c.get a).last⟩ a,?_,?_,?_,λd hi=>?_,λd hi u=>?_,?_,?_⟩
 ·refine x.put a p _ ((q.mono (λ_ _ f=>f.elim)).setCell (p:=⟨e,a* 2,F⟩) (.inl (.inl rfl)) _|>.setCell (p:=⟨e,a* 2+1,F⟩) (.inl (.inl rfl)) _) ?_ ?_ (λ_ f=>f) ?_
  ·have:=(B.has.set (a* 2) (C i (c.get a).xs.length j)).set (a* 2+1) (y K (c.get a).last)
   rwa [rB _ _ (c.get a).xs _ a p] at this
  ·refine⟨gT (gT ho3 ?_ _) ?_ _,hl,hlen,hb,λf o=>Nat.le_of_lt (r f o)⟩
   ·intro n;exact Nat.lt_irrefl _ (r e n)
   ·intro n;exact Nat.lt_irrefl _ (r e n)
  ·intro f o;obtain k|k:=hs3 f o
   ·simp[az] at k
   ·simp at k;exact .inr (by omega)
 ·exact((A.trans q).setCell (p:=⟨e,a* 2,F⟩) (.inr (by simp;omega)) _).setCell (p:=⟨e,a* 2+1,F⟩) (.inr (by simp;omega)) _
 ·have:=q.size;simp;omega
 ·rw[p8 _ _ _ _ p (by omega)];split
  ·rename_i n;subst n;exact⟨rfl,rfl⟩
  ·exact hA d (by omega)
 ·rw[p8 _ _ _ _ p u,if_neg (by omega)];exact z d (by omega) u
 ·rw[(qa _ _ _).1,H]
 ·rw[(qa _ _ _).2,hf]
theorem CZ(R:Nat) (c:D) (S:Nat->Prop) (w:U) (t:c.ok S w R):Calls T 47 #[b (E ⟨R,0,F⟩)] w λr w'=>∃f:Nat,r=g (b (E ⟨f,0,F⟩))/\w.heap.size<=f/\∃e:D,e.ok (λa=>w.heap.size<=a) w' f/\G No w w'/\(∀d,d<4->(e.get d).xs=(c.get d).xs/\(e.get d).last=(c.get d).last)/\e.room=c.room/\e.fuse=c.fuse:=by
 have aa:=t.has.cell 8;have ab:=t.has.cell 9;have hc:=t.has.cell;rw[show c.cells[8]? =E (y K c.room) from rfl] at aa;rw[show c.cells[9]? =E (y K c.fuse) from rfl] at ab;have s:=i t;have aY:=i hc;clear t hc;go_enter func47,ntmps47;go_wp2;go_region;have o:G No w (w.alloc (v (⟨⟨C F 0 0,[],0⟩,⟨C F 0 0,[],0⟩,⟨C F 0 0,[],0⟩,⟨C F 0 0,[],0⟩,c.room,c.fuse⟩:D).cells 108)).drew:=((G.refl _ _).alloc _).drew
 have p:X (w.alloc (v (⟨⟨C F 0 0,[],0⟩,⟨C F 0 0,[],0⟩,⟨C F 0 0,[],0⟩,⟨C F 0 0,[],0⟩,c.room,c.fuse⟩:D).cells 108)).drew w.heap.size (⟨⟨C F 0 0,[],0⟩,⟨C F 0 0,[],0⟩,⟨C F 0 0,[],0⟩,⟨C F 0 0,[],0⟩,c.room,c.fuse⟩:D).cells 108:=X.new _ _ _;have x:w.heap.size<(w.alloc (v (⟨⟨C F 0 0,[],0⟩,⟨C F 0 0,[],0⟩,⟨C F 0 0,[],0⟩,⟨C F 0 0,[],0⟩,c.room,c.fuse⟩:D).cells 108)).drew.heap.size:=p.lt
 unfold D.cells at o p x;simp only at o p x;rw[show(((0:Nat):Int))=0 from rfl] at o p x;generalize (w.alloc _).drew=H at o p x ⊢;have u:=(k s).aD o;have hc:=u.has.cell;unfold D.cells at hc;clear aa ab;have aq:=i p;have ap:=i o;clear p o;generalize ad:w.heap.size=f at *;have B:=i ad;clear ad;go_wp2;clear hc
 go_loopw [20] (λd wr=>∃(a:Nat) (e:D),a<=4/\d=y K a/\e.ok (λa=>f<=a) wr f/\G No w wr/\f<wr.heap.size/\
   (∀d,d<a->(e.get d).xs=(c.get d).xs/\(e.get d).last=(c.get d).last)/\(∀d,a<=d->d<4->e.get d=⟨C F 0 0,[],0⟩)/\e.room=c.room/\e.fuse=c.fuse) (λd _=>4 - (intOf d).toNat)
 case atStart=>
  refine⟨0,⟨⟨C F 0 0,[],0⟩,⟨C F 0 0,[],0⟩,⟨C F 0 0,[],0⟩,⟨C F 0 0,[],0⟩,c.room,c.fuse⟩,by omega,rfl,?_,k ap,x,λd hi=>by omega,λd _ hi=>?_,rfl,rfl⟩
  ·have r:∀H:U,(⟨C F 0 0,[],0⟩:bU).ok (λa=>f<=a) H:=λH=>
    ⟨cJ _ _ _ _,by simp,by simp,λa4 aI=>by simp at aI,λa z=>by simp[az] at z⟩
   have q:(⟨C F 0 0,[],0⟩:bU).apart ⟨C F 0 0,[],0⟩:=λa z=>by simp[az] at z
   exact⟨k aq,bK _,r _,r _,r _,r _,q,q,q,q,q,q⟩
  ·match d,hi with
   |0,_=>rfl
   |1,_=>rfl
   |2,_=>rfl
   |3,_=>rfl
 case round=>
  obtain⟨a,e,z,rfl,L,A,aD,hA,Y,M,hf⟩:=hrel;by_cases j:a<4
  ·have aE:(a:Int)<4:=by omega
   obtain⟨m,n,aH,a1⟩:=nM (((k s).get a j).aD A);have Q:=i L;have O:=i A;have aj:=i hA;have ak:=i Y;have av:=i M;have am:=i hf;clear L A hA Y M hf;have ai:Reads (wr.alloc (v #[C m (c.get a).xs.length n,y K (c.get a).last] 105)) (C m (c.get a).xs.length n) (c.get a).xs.length (c.get a).xs:=by
    have:=(mn ((((k s).get a j).aD (k O)).aD ((G.refl No wr).alloc (v #[C m (c.get a).xs.length n,y K (c.get a).last] 105))).owns)
    rwa [aH] at this
   have ae:X (wr.alloc (v #[C m (c.get a).xs.length n,y K (c.get a).last] 105)) f e.cells 108:=(k Q).has.alloc _;have ah:∀N∈(c.get a).xs,N.oneCell'=true:=λN hu=>by obtain⟨a3,rfl,_⟩:=(u.get a j).bytes N hu;rfl
   have hlen:=(u.get a j).len;have af:X (wr.alloc (v #[C m (c.get a).xs.length n,y K (c.get a).last] 105)) wr.heap.size #[C m (c.get a).xs.length n,y K (c.get a).last] 105:=X.new _ _ _;have ar:=i af;clear af;have aw:=i ai;have ao:=i ae;have au:=i ah;have aX:=i u;clear ai ae ah u;obtain⟨aK,aL,aM,aN,aO⟩:=info_parts oV;go_wp2_with fail
   go_region_law (refine pW rfl (.const (C F 0 0)) (.tmp 27) 103 rfl 5 aK (.int .u8 0) 1 1 underlying103 aL aM aN aO rfl (by decide) (C F 0 0) 0 [] (by simp[Z,aP]) (by exact cJ _ _ _ _) (C m (c.get a).xs.length n) (c.get a).xs.length (c.get a).xs (by simp[Z,aP]) (by exact k aw) (by omega) (k au) (by unfold maxLen;omega) (by omega) ?_;intro v' w3 ag I aF;obtain⟨aZ,a0,rfl⟩:=aC ag;have J:X w3 f _ 108:=X.grown (w:=(wr.alloc _).drew) (by exact k ao) I (by simp[az]);have aB:=(X.grown (w:=(wr.alloc _).drew) (by exact k ar) I (by simp[az])).cell 1;simp only[List.getElem?_toArray,List.getElem?_cons_succ,List.getElem?_cons_zero] at aB;have ax:=J.cell (a* 2);have ay:=J.cell (a* 2+1);have a2:=J.frozen;rw[(jT _ a j).1] at ax;rw[(jT _ a j).2] at ay)
   all_goals go_wp2
   all_goals
    have aA:=CY (hs3:=aF) (hg3:=I) (ho3:=ag) (k Q) (k O) (k B) aD j (k aj) (k ak) (k av) (k am) ((k s).get a j).last hlen ((k s).get a j).bytes;obtain⟨t2,aQ,aR,aS,aT,aU,aV,aW⟩:=aA;refine⟨⟨a+1,t2,by omega,by go_num,aQ,aR,aS,aT,aU,aV,aW⟩,?_⟩;simp[intOf];omega
  ·have aE:¬(a:Int)<4:=by omega
   obtain rfl:a=4:=by omega
   go_wp2;go_ret;refine⟨f,rfl,by rw[k B];exact bK _,e,?_,A,hA,M,hf⟩;rw[k B];exact L
def eU:Nat->Nat->List Int
 |0,a=>[(a:Int)]
 |c+1,a=>if a<128 then[(a:Int)] else((a % 128+128:Nat):Int)::eU c (a / 128)
def aN(a:Int):List Int:=eU 8 a.toNat
structure o where
 fl:Int
 kind:Int
 p:O
 bV:B
 bN:Int
 bO:Int
 now:Int
 S:List B
def eV(c a:Int):List Int:=aN ((c - 1)* 6+a - 1)
def jC(p:O):List Int:=aN p.rows++aN p.w++aN p.front
def gA(p:O):List Int:=jC p++aN p.I++aN p.R++aN p.n++aN p.f
def gi(now:Int) (a:B):List Int:=eV a.row a.P++aN (a.st* 4+a.cl)++(if a.st=3 then[] else aN a.pa)++(if a.st=1 then aN (a.un - now) else[])
def fK(now:Int):List B->List Int
 |[]=>[]
 |c::a=>gi now c++fK now a
def jD(now:Int) (p:O) (a:List B):List Int:=gA p++aN p.ep++aN a.length++fK now a
def fk(now:Int) (a:o):List Int:=
 if a.kind=1 then(32+a.fl)::gA a.p
 else if a.kind=2 then(64+a.fl)::gi now a.bV
 else if a.kind=3 then(96+a.fl)::eV a.bV.row a.bV.P
 else if a.kind=4 then(128+a.fl)::(eV a.bV.row a.bV.P++eV a.bN a.bO)
 else if a.kind=5 then(160+a.fl)::jC a.p
 else if a.kind=6 then 192::aN (a.now - now)
 else(224+a.fl)::jD now a.p a.S
def fm(now:Int) (a:o):Int:=if a.kind=6 then a.now else now
def fq:Int->List o->List Int
 |_,[]=>[]
 |now,a::c=>fk now a++fq (fm now a) c
def ag(now:Int) (es:List o):List Int:=aN es.length++fq now es++[229]
theorem tY(a c:Nat):1<=(eU a c).length/\(eU a c).length<=a+1:=by
 induction a generalizing c with
 |zero=>simp[eU]
 |succ a d=>
  unfold eU;split
  ·simp
  ·have:=d (c / 128);simp only[dP];omega
theorem tZ(a c:Nat) (d:c<128):eU a c=[(c:Int)]:=by
 cases a with
 |zero=>rfl
 |succ a=>unfold eU;rw[if_pos d]
theorem C6(a c:Nat) (d:c<16384):(eU a c).length<=2:=by
 cases a with
 |zero=>simp[eU]
 |succ a=>
  unfold eU;split
  ·simp
  ·rw[tZ a (c / 128) (by omega)];simp
theorem C7(c d:Nat) (e:d<128 ^ (c+1)):∀a∈eU c d,0<=a/\a<256:=by
 induction c generalizing d with
 |zero=>
  simp only[eU,List.mem_singleton];rintro a rfl;simp at e;omega
 |succ c f=>
  unfold eU;split
  ·simp only[List.mem_singleton];rintro a rfl;omega
  ·intro a hb;obtain rfl|hb:=List.mem_cons.1 hb
   ·omega
   ·refine f (d / 128) ?_ a hb;rw[Nat.pow_succ] at e;omega
theorem dk(a:Int):1<=(aN a).length/\(aN a).length<=9:=tY 8 _
theorem xm{a:Int} (d:0<=a) (c:a<128):aN a=[a]:=by
 unfold aN;rw[tZ 8 _ (by omega)];simp;omega
theorem gW{x:Int} (a:x<16384):(aN x).length<=2:=C6 8 _ (by omega)
theorem C8{c:Int} (e:c<9223372036854775808):∀a∈aN c,0<=a/\a<256:=C7 8 _ (by
 have d:(128:Nat) ^ (8+1)=9223372036854775808:=by decide
 rw[d]
 omega)
end Go.Proofs.YthhibagcpjeihaaGreat
