import Derived.Test.YthhibagcpjeihaaGreatMBaseToPut2
import Derived.Test.YthhibagcpjeihaaGreatMChangeToPass2
import Derived.Handy
import Derived.Test.YthhibagcpjeihaaGreatMCellsToEnc
import Derived.Orders
open Go.Proofs.Tryz
open Go.Value renaming int->y,pointer->b,slice->C,agg->l,ownBlock->az
open Go.IntKind renaming i64->K
open Option renaming none->F,some->E
open Go renaming World->U,Value->V
open Go.Proofs.Tryz renaming prog->T,underlying61->nW
open Go.Ending renaming returned->g
open Go.Obj renaming cells->v
open Array renaming getElem?_eq_getElem->bX,getElem?_toList->dE,getElem?_setIfInBounds_ne->jS
open Option.some renaming inj->br
open List renaming eq_nil_of_length_eq_zero->fS,length_take->dj,countP_le_length->mg,countP_cons->kh,foldl_cons->kE,mem_cons_self->nG,range->iq,setIfInBounds_toArray->sD
open Go.World renaming ownsRow_nil->cJ
open Nat renaming zero_add->bg,le_trans->bF,le_refl->bK,not_lt_zero->dZ,zero_le->fJ,mul_le_mul_right->mq
open Go.Addr renaming add_mid->dx
open Go.Act renaming put->aP
open Go.Region renaming binds->fP,wanted->gM
open Bool renaming false_eq_true->kg,and_eq_true->kY
open Go.Oper renaming wp->eT
namespace Go.Proofs.YthhibagcpjeihaaGreat
open Go.RowKit Go.WideMaps
open Go.ChangeMaps (setBlock)
set_option linter.unusedVariables false
set_option linter.unusedSimpArgs false
set_option maxRecDepth 100000
structure ia where
 born:Nat
 r:Int
 c:Int
 n:Int
def ia.obj(a:ia):MapEntry:=⟨iN a.r a.c,y K a.n,a.born⟩
def uR(c:List ia) (a:Nat):Obj:=.map (c.map ia.obj).toArray a
def ia.is(d c:Int) (a:ia):Bool:=a.r==d&&a.c==c
structure GC (l:List ia):Prop where
 keys:∀e∈l,0<=e.r/\e.r<=1000/\0<=e.c/\e.c<=1000
 apart:l.Pairwise λa b=>¬(a.r=b.r/\a.c=b.c)
def GD(c:List ia) (d a:Int):Option Int:=(c.find? (ia.is d a)).map ia.n
open Go.RowKit
open M
set_option maxHeartbeats 2000000
attribute [local go_sem] pR pS pT pU
theorem uS{S:Nat->Prop} {e w':U} (f:G S e w') {a:Nat} {es:List ia} {c:Nat} (d:e.heap[a]? =E (uR es c)) (hs:¬S a):w'.heap[a]? =E (uR es c):=by
 rw[f.block a (Array.getElem?_eq_some_iff.1 d).1 hs];exact d
def tb(es:List ia) (c a:Int):Int:=(GD es c a).getD (-1)
structure sq where
 n:Int
 c:Int
 l:Int
def GG(a:sq):List V:=[y K a.n,y K a.c,y K a.l]
section
variable {P:Program} {ops:Array Oper} {Q:Exit->Act->U->Prop} {md:Region.Mode}
end
def dI(ops:Array Oper) (d:Nat) (a:Act):V:=match (ops[d]?).bind (·.dst) with|some c=>a.tmps.getD c undef|none=>undef
structure fV (ops:Array Oper) (a0 a:Act):Prop where
 defers:a.defers=a0.defers
 size:a.tmps.size=a0.tmps.size
 rest:∀s,ops.all (λo=>o.dst !=E s)=true->a.tmps.getD s undef=a0.tmps.getD s undef
section
variable {P:Program} {ops:Array Oper} {Q:Exit->Act->U->Prop}
theorem fV.lit{f a:Act} (A:fV ops f a):a=⟨(ops.toList.filterMap (·.dst)).foldl (λi c=>i.setIfInBounds c (a.tmps.getD c undef)) f.tmps,f.defers⟩:=by
 cases a with
 |mk i N=>
  obtain⟨r,s,t⟩:=A;simp only at r s t;subst r;congr 1;have M:∀(e:List Nat) (t0:Array V),(e.foldl (λp c=>p.setIfInBounds c (i.getD c undef)) t0).size=t0.size/\∀c,c<t0.size->(e.foldl (λp c=>p.setIfInBounds c (i.getD c undef)) t0).getD c undef=if c∈e then i.getD c undef else t0.getD c undef:=by
   intro e
   induction e with
   |nil=>intro t0;exact⟨rfl,λc _=>by simp⟩
   |cons q e I=>
    intro t0;obtain⟨G,H⟩:=I (t0.setIfInBounds q (i.getD q undef));refine⟨by rw[kE,G];simp,λc hs=>?_⟩;rw[kE,H c (by simpa using hs)];by_cases n:c∈e
    ·simp[n]
    ·rw[if_neg n];by_cases o:q=c
     ·subst o;rw[if_pos (nG ..)];simp[hs]
     ·rw[if_neg (by simp[n,Ne.symm o])];simp[jS o]
  obtain⟨J,L⟩:=M (ops.toList.filterMap (·.dst)) f.tmps;apply Array.ext
  ·rw[J,s]
  ·intro d hi B;have w:=L d (by omega);have j:∀(k:Array V) (hu:d<k.size),k.getD d undef=k[d]:=λk hu=>by simp[hu]
   rw[j _ B,j _ hi,j f.tmps (by omega)] at w;rw[w];by_cases m:d∈ops.toList.filterMap (·.dst)
   ·rw[if_pos m]
   ·rw[if_neg m]
    have u:=t d (by
     rw[Array.all_eq_true_iff_forall_mem]
     intro x D
     have:x.dst≠E d:=λz=>m (List.mem_filterMap.2 ⟨x,by simpa using D,z⟩)
     simpa using this)
    rw[j _ hi,j f.tmps (by omega)] at u;exact u
end
section
variable {P:Program} {ops:Array Oper} {Q:Exit->Act->U->Prop}
end
theorem ib{P:Program} {c:Oper} {a:Act} {e:U} {d:Act->U->Prop} {Q:Exit->Act->U->Prop} (f:Operand) (j:c.op=.move f) (i:d (a.put c.dst (a.eval f)) e):c.wp P a e d Q:=by
 unfold eT execOp;simp only[j];exact i
theorem uT{P:Program} {c:Oper} {a:Act} {e:U} {d:Act->U->Prop} {Q:Exit->Act->U->Prop} (f:Operand) (j:c.op=.assign f) (i:d (a.put c.dst (a.eval f)) e):c.wp P a e d Q:=by
 unfold eT execOp;simp only[j];exact i
def mU:Code->List Code
 | .region f i e=>[.region f i e]
 | .loop c=>mU c
 | .seq a d=>mU a++mU d
 | .block _ c=>mU c
 | .scope c=>mU c
 | .cond _ a d=>mU a++mU d
 |_=>[]
def zg(a:Code) (d:Nat):Code:=((mU a).find? λ| .region c _ _=>c==d|_=>false).getD .skip
def oi(ops:Array Oper) (i:Nat):Bool:=
 ((iq ops.size).all λc=>match ops[c]? with
  |some a=>a.after.all (λd=> !fP .any d||decide (d.on<c))&&a.guard.isNone&&(match a.dst with|some f=>decide (f<i)|none=>true)&&((iq ops.size).all λe=>e==c||(match ops[e]? with|some j=>a.dst.isNone||j.dst !=a.dst|none=>true))
  |none=>false)
theorem mV{ops:Array Oper} {p:Nat} (d:oi ops p=true) (e:Nat) (f:Oper) (n:ops[e]? =E f):(∀c∈f.after,fP .any c=true->c.on<e)/\f.guard=F/\(∀a,f.dst=E a->a<p)/\∀(j:Nat) (k:Oper) (a:Nat),j≠e->ops[j]? =E k->f.dst=E a->k.dst≠E a:=by
 have hi:e<ops.size:=(Array.getElem?_eq_some_iff.1 n).1;unfold oi at d;have d:=List.all_eq_true.1 d e (List.mem_range.2 hi);rw[n] at d;simp only[kY] at d;obtain⟨⟨⟨q,r⟩,m⟩,i⟩:=d;refine⟨λc s hb=>?_,by simpa using r,λa hd=>?_,λj k a t o hd c=>?_⟩
 ·have:=Array.all_eq_true_iff_forall_mem.1 q c s;rw[hb] at this;simpa using this
 ·rw[hd] at m;simpa using m
 ·have i:=List.all_eq_true.1 i j (List.mem_range.2 (Array.getElem?_eq_some_iff.1 o).1);rw[o] at i;simp[t,hd,c] at i
theorem uU{ops:Array Oper} {c:Array Bool} (r:c.size=ops.size) (n:∀(a:Nat) (i:Oper),ops[a]? =E i->∀d∈i.after,fP .any d=true->d.on<a) (p:Region.ready .any ops c=[]):∀a,a<ops.size->c.getD a true=true:=by
 intro a
 induction a using Nat.strongRecOn with
 |ind a q=>
  intro hi;by_cases e:c.getD a true=true
  ·exact e
  ·exfalso;have f:a∈Region.ready .any ops c:=by
    rw[mem_ready];refine⟨by simpa using e,ops[a],bX hi,λd o hb=>?_⟩;have j:=n a _ (bX hi) d o hb;have k:=q d.on j (by omega);have m:d.on<c.size:=by omega
    simpa [m] using k
   rw[p] at f
   cases f
section
variable {P:Program} {ops:Array Oper} {Q:Exit->Act->U->Prop}
def ic(ops:Array Oper) (j:Nat) (a:Act) (d:Nat):V:=match ops[j]? with
 |some e=>if e.after.any (λc=>c.on==d&&fP .any c) then dI ops d a else undef
 |none=>undef
theorem GI{ah:Nat} {z:Act} (r:Nat) (B:Bool->U->Prop) (S:U->U->Prop) (u:Nat->V->(Nat->V)->U->Prop) (af:z.tmps.size=ah) (R:oi ops ah=true) (hF:∀(c:Nat) (k:V) (O:Nat->V) (i w':U),S i w'->u c k O i->u c k O w') (aO:∀(c:Nat) (d:Oper) (a:Act) (i:U) (ai:Bool),c≠r->ops[c]? =E d->fV ops z a->B ai i->(∀e∈d.after,fP .any e=true->u e.on (dI ops e.on a) (ic ops e.on a) i)->eT P d a i (λa' w'=>∃k,a'=a.put d.dst k/\B ai w'/\S i w'/\u c (if d.dst.isSome then k else undef) (ic ops c a) w') Q)
  (ay:∀(d:Oper) (a:Act) (i:U),ops[r]? =E d->fV ops z a->B false i->(∀e∈d.after,fP .any e=true->u e.on (dI ops e.on a) (ic ops e.on a) i)->eT P d a i (λa' w'=>∃k,a'=a.put d.dst k/\B true w'/\S i w'/\u r (if d.dst.isSome then k else undef) (ic ops r a) w') Q) (aD:∀(a:Act) (i:U),fV ops z a->B true i->(∀c,c<ops.size->u c (dI ops c a) (ic ops c a) i)->Q .normal a i):
  ∀(fuel:Nat) (f:Array Bool) (a:Act) (i:U),f.size=ops.size->(iq ops.size).countP (λc=> !f.getD c true)<=fuel->fV ops z a->B (f.getD r true) i->(∀c,c<ops.size->f.getD c true=true->u c (dI ops c a) (ic ops c a) i)->(∀(c:Nat) (d:Oper),ops[c]? =E d->f.getD c true=true->∀e∈d.after,fP .any e=true->f.getD e.on true=true)->wpAny P .any ops Q fuel f a i:=by
 have aV:∀(c:Nat) (d:Oper) (a:Act) (k:V),ops[c]? =E d->a.tmps.size=ah->dI ops c (a.put d.dst k)=if d.dst.isSome then k else undef:=λc d a k m hs=>by
  unfold dI;rw[m]
  cases hd:d.dst with
  |none=>simp[hd]
  |some I=>
   have:=(mV R c d m).2.2.1 I hd;simp[hd,aP,hs,this]
 have J:∀(c:Nat) (d:Oper),ops[c]? =E d->∀e∈d.after,fP .any e=true->e.on<c:=λc d m=>(mV R c d m).1;have ar:∀(c j:Nat) (d:Oper) (k:V) (a:Act),c≠j->ops[c]? =E d->dI ops j (a.put d.dst k)=dI ops j a:=λc j d k a s m=>by
  unfold dI
  cases w:ops[j]? with
  |none=>rfl
  |some o=>
   simp only[Option.bind_some]
   cases aC:o.dst with
   |none=>rfl
   |some I=>
    cases aB:d.dst with
    |none=>rfl
    |some d'=>
     have H:d'≠I:=λe=>(mV R c d m).2.2.2 j _ d' (Ne.symm s) w aB (by rw[aC,e]);simp[aP,jS H]
 have ap:∀(c j:Nat) (d:Oper) (k:V) (a:Act),ops[c]? =E d->(∀o,ops[j]? =E o->∀e∈o.after,fP .any e=true->e.on≠c)->ic ops j (a.put d.dst k)=ic ops j a:=λc j d k a m aI=>by
  funext ao;unfold ic
  cases w:ops[j]? with
  |none=>rfl
  |some o=>
   simp only;by_cases M:o.after.any (λe=>e.on==ao&&fP .any e)=true
   ·rw[if_pos M,if_pos M];obtain⟨e,n,hb⟩:=Array.any_eq_true'.1 M;simp only[kY,beq_iff_eq] at hb;have:=aI o w e n hb.2;rw[hb.1] at this;exact ar c ao d k a (Ne.symm this) m
   ·rw[if_neg M,if_neg M]
 have aL:∀(c:Nat) (d:Oper) (k:V) (a:Act),ops[c]? =E d->fV ops z a->fV ops z (a.put d.dst k):=λc d k a m p=>by
  refine⟨?_,?_,λO hs=>?_⟩
  ·cases hd:d.dst<;>simp[aP,p.defers]
  ·cases hd:d.dst<;>simp[aP,p.size]
  ·have H:=Array.all_eq_true_iff_forall_mem.1 hs d (Array.mem_of_getElem? m);rw[<-p.rest O hs]
   cases hd:d.dst with
   |none=>rfl
   |some I=>
    have:I≠O:=by
     rw[hd] at H;simpa using H
    simp[aP,jS this]
 intro fuel;have aq:∀(f:Array Bool) (a:Act) (i:U),f.size=ops.size->fV ops z a->B (f.getD r true) i->(∀c,c<ops.size->f.getD c true=true->u c (dI ops c a) (ic ops c a) i)->Region.ready .any ops f=[]->Q .normal a i:=λf a i D p x hf G=>by
  have aA:f.getD r true=true:=by
   by_cases hc:r<ops.size
   ·exact uU D J G r hc
   ·simp[show f.size<=r by omega]
  rw[aA] at x;exact aD a i p x (λc hi=>hf c hi (uU D J G c hi))
 induction fuel with
 |zero=>
  intro f a i D hc p x hf ab;have G:Region.ready .any ops f=[]:=by
   cases G:Region.ready .any ops f with
   |nil=>rfl
   |cons c aX=>
    exfalso;have ae:c∈Region.ready .any ops f:=by rw[G];exact nG ..
    obtain⟨A,d,m,_⟩:=mem_ready.1 ae;have aa:c<ops.size:=(Array.getElem?_eq_some_iff.1 m).1;have:0<(iq ops.size).countP (λc=> !f.getD c true):=List.countP_pos_iff.2 ⟨c,List.mem_range.2 aa,by rw[A];rfl⟩;omega
  exact⟨G,aq f a i D p x hf G⟩
 |succ fuel aR=>
  intro f a i D hc p x hf ab;refine⟨aq f a i D p x hf,λc hi=>?_⟩;obtain⟨A,d,m,ax⟩:=mem_ready.1 hi;have aa:c<ops.size:=(Array.getElem?_eq_some_iff.1 m).1;have N:∀e∈d.after,fP .any e=true->e.on<ops.size/\f.getD e.on true=true:=λe n hb=>by
   have t:=ax e n hb;have aW:=J c d m e n hb;have aU:e.on<f.size:=by omega
   exact⟨by omega,by simpa [aU] using t⟩
  unfold wpOp;rw[m];simp only;rw[if_pos (by simp[gM,(mV R c d m).2.1])];have aQ:eT P d a i (λa' w'=>∃k,a'=a.put d.dst k/\B ((f.setIfInBounds c true).getD r true) w'/\S i w'/\u c (if d.dst.isSome then k else undef) (ic ops c a) w') Q:=by
   by_cases ad:c=r
   ·subst ad;rw[A] at x;have hs:=ay d a i m p x (λe n hb=>hf e.on (N e n hb).1 (N e n hb).2);have aM:(f.setIfInBounds c true).getD c true=true:=by simp[show c<f.size by omega]
    rw[aM];exact hs
   ·rw[getD_set_ne true ad];exact aO c d a i _ ad m p x (λe n hb=>hf e.on (N e n hb).1 (N e n hb).2)
  refine .inl (Oper.wp_mono (λa' w' Y=>?_) aQ);obtain⟨k,rfl,aw,aN,aE⟩:=Y;refine aR _ _ _ (by simp[D]) ?_ (aL c d k a m p) aw (λj L hl=>?_) (λj o w hl e n hb=>?_)
  ·have ak:c<f.size:=by omega
   have aT:∀(q:List Nat),c∈q->q.Nodup->q.countP (λj=> !(f.setIfInBounds c true).getD j true)+1<=q.countP (λj=> !f.getD j true):=by
    intro q
    induction q with
    |nil=>intro Y;cases Y
    |cons X q aS=>
     intro ae af
     have aF:∀(q:List Nat),q.countP (λj=> !(f.setIfInBounds c true).getD j true)<=q.countP (λj=> !f.getD j true):=λq=>List.countP_mono_left (λj _ L=>by
      by_cases s:c=j
      ·subst s;simp[ak] at L
      ·rw[getD_set_ne true s] at L;exact L)
     rw[kh,kh];by_cases ag:X=c
     ·subst ag;have au:(!(f.setIfInBounds X true).getD X true)=false:=by simp[ak]
      have av:(!f.getD X true)=true:=by rw[A];rfl
      rw[au,av];have:=aF q;simp only[kg,if_false,if_true];omega
     ·have aH:c∈q:=by obtain t|t:=List.mem_cons.1 ae;exact absurd t.symm ag;exact t
      have:=aS aH (List.nodup_cons.1 af).2;rw[getD_set_ne true (Ne.symm ag)];omega
   have:=aT _ (List.mem_range.2 aa) List.nodup_range;omega
  ·by_cases s:c=j
   ·subst s;rw[aV c d a k m (p.size.trans af),ap c c d k a m (λo w e n hb=>Nat.ne_of_lt (J c o w e n hb))];exact aE
   ·rw[getD_set_ne true s] at hl
    rw[ar c j d k a s m,ap c j d k a m (λo w e n hb aj=>by
     have:=ab j o w hl e n hb
     rw[aj] at this
     rw[this] at A
     cases A)]
    exact hF _ _ _ _ _ aN (hf j L hl)
  ·by_cases s:c=j
   ·subst s;have aK:o=d:=br (w.symm.trans m);subst aK;have t:=N e n hb;have H:c≠e.on:=λaj=>by have:=J c o m e n hb;omega
    rw[getD_set_ne true H];exact t.2
   ·rw[getD_set_ne true s] at hl;have t:=ab j o w hl e n hb;by_cases am:c=e.on
    ·rw[<-am] at t;rw[t] at A
     cases A
    ·rw[getD_set_ne true am];exact t
theorem uV{id n:Nat} {m:Act} {c:U} (j:U->Prop) (p:U->U->Prop) (f:Nat->V->(Nat->V)->U->Prop) (t:P.follows .mixedOrders=true) (u:m.tmps.size=n) (x:oi ops n=true) (hF:∀(d:Nat) (k:V) (q:Nat->V) (c w':U),p c w'->f d k q c->f d k q w') (z:∀(d:Nat) (e:Oper) (a:Act) (c:U),ops[d]? =E e->fV ops m a->j c->(∀o∈e.after,fP .any o=true->f o.on (dI ops o.on a) (ic ops o.on a) c)->eT P e a c (λa' w'=>∃k,a'=a.put e.dst k/\j w'/\p c w'/\f d (if e.dst.isSome then k else undef) (ic ops d a) w') Q)
  (s:∀(a:Act) (c:U),fV ops m a->j c->(∀d,d<ops.size->f d (dI ops d a) (ic ops d a) c)->Q .normal a c) (r:j c.drew):(Code.region id ops true).wp P Q m c:=by
 refine wp_region_any t (GI ops.size (λ_=>j) p f u x hF (λd e a c _ _=>z d e a c) (λe a c i=>absurd i (by simp)) s _ _ _ _ (by simp) (bF mg (by simp)) ⟨rfl,rfl,λ_ _=>rfl⟩ r (λd hi i=>?_) (λd e w i=>?_))
 ·simp[hi] at i
 ·have hi:d<ops.size:=(Array.getElem?_eq_some_iff.1 w).1;simp[hi] at i
theorem zh{id n:Nat} {k:Act} {c:U} (i:U->Prop) (o:U->U->Prop) (f:Nat->V->U->Prop) (s:P.follows .mixedOrders=true) (t:k.tmps.size=n) (u:oi ops n=true) (hF:∀(d:Nat) (e:V) (c w':U),o c w'->f d e c->f d e w') (w:∀(d:Nat) (j:Oper) (a:Act) (c:U),ops[d]? =E j->fV ops k a->i c->(∀m∈j.after,fP .any m=true->f m.on (dI ops m.on a) c)->eT P j a c (λa' w'=>∃e,a'=a.put j.dst e/\i w'/\o c w'/\f d (if j.dst.isSome then e else undef) w') Q)
  (r:∀(a:Act) (c:U),fV ops k a->i c->(∀d,d<ops.size->f d (dI ops d a) c)->Q .normal a c) (q:i c.drew):(Code.region id ops true).wp P Q k c:=
 uV i o (λd e _ c=>f d e c) s t u (λd e _ c w' p=>hF d e c w' p) w r q
end
theorem zi{P:Program} {e:Oper} {a:Act} {k:U} {i:Act->U->Prop} {Q:Exit->Act->U->Prop} (d:FuncId) (args:Array Operand) (s:Array TypeId) (q:e.op=Op.call { callee:=Callee.value (Operand.func d),args:=args,argTypes:=s }) (vs:Array V) (r:args.map a.eval=vs) (o:∀j,(callFunc d vs).run P j=.ok (.enter d vs) j) {C:Ending->U->Prop} (hc:Calls P d vs k C)
  (n:∀c w',C c w'->∃f,c=g f/\i (a.put e.dst f) w'):e.wp P a k i Q:=by
 unfold eT execOp;simp[go_sem,q,r];rw[o];simp[go_sem];refine hc.mono ?_;intro c w' m;obtain⟨f,rfl,p⟩:=n c w' m;exact p
section
variable {P:Program} {ops:Array Oper} {Q:Exit->Act->U->Prop}
def pn(ops:Array Oper):Nat->Nat->Nat->Bool
 |0,_,_=>false
 |c+1,e,j=>match ops[e]? with
  |some d=>d.after.any (λa=>fP .any a&&(a.on==j||pn ops c a.on j))
  |none=>false
def su(ops:Array Oper) (c:Nat):Bool:=(iq ops.size).all λa=>a==c||pn ops 5 c a
theorem GJ{ah:Nat} {B:Act} (last:Nat) (O:U->Prop) (aj:U->U->Prop) (z:Nat->V->U->Prop) (ae:B.tmps.size=ah) (M:oi ops ah=true) (ar:su ops last=true) (hF:∀(c:Nat) (m:V) (j w':U),aj j w'->z c m j->z c m w') (aR:∀(c:Nat) (d:Oper) (a:Act) (j:U),c≠last->ops[c]? =E d->fV ops B a->O j->(∀e∈d.after,fP .any e=true->z e.on (dI ops e.on a) j)->eT P d a j (λa' w'=>∃m,a'=a.put d.dst m/\O w'/\aj j w'/\z c (if d.dst.isSome then m else undef) w') Q)
  (aK:∀(d:Oper) (a:Act) (j:U),ops[last]? =E d->fV ops B a->O j->(∀c,c<ops.size->c≠last->z c (dI ops c a) j)->eT P d a j (λa' w'=>Q .normal a' w') Q):∀(fuel:Nat) (i:Array Bool) (a:Act) (j:U),i.size=ops.size->(iq ops.size).countP (λc=> !i.getD c true)<=fuel->fV ops B a->i.getD last true=false->O j->(∀c,c<ops.size->i.getD c true=true->z c (dI ops c a) j)->
   (∀(c:Nat) (d:Oper),ops[c]? =E d->i.getD c true=true->∀e∈d.after,fP .any e=true->i.getD e.on true=true)->wpAny P .any ops Q fuel i a j:=by
 have aW:∀(c:Nat) (d:Oper) (a:Act) (m:V),ops[c]? =E d->a.tmps.size=ah->dI ops c (a.put d.dst m)=if d.dst.isSome then m else undef:=λc d a m k hs=>by
  unfold dI;rw[k]
  cases hd:d.dst with
  |none=>simp[hd]
  |some D=>
   have:=(mV M c d k).2.2.1 D hd;simp[hd,aP,hs,this]
 have aa:∀(c:Nat) (d:Oper),ops[c]? =E d->∀e∈d.after,fP .any e=true->e.on<c:=λc d k=>(mV M c d k).1;have aI:∀(c f:Nat) (d:Oper) (m:V) (a:Act) (j w':U),c≠f->c<ops.size->f<ops.size->ops[c]? =E d->z f (dI ops f a) j->aj j w'->z f (dI ops f (a.put d.dst m)) w':=λc f d m a j w' r hi n k hf hs=>by
  have e:dI ops f (a.put d.dst m)=dI ops f a:=by
   unfold dI;rw[bX n];simp only[Option.bind_some]
   cases aF:(ops[f]).dst with
   |none=>rfl
   |some D=>
    cases aE:d.dst with
    |none=>rfl
    |some d'=>
     have u:d'≠D:=λe=>(mV M c d k).2.2.2 f _ d' (Ne.symm r) (bX n) aE (by rw[aF,e]);simp[aP,jS u]
  rw[e];exact hF _ _ _ _ hs hf
 have aO:∀(c:Nat) (d:Oper) (m:V) (a:Act),ops[c]? =E d->fV ops B a->fV ops B (a.put d.dst m):=λc d m a k w=>by
  refine⟨?_,?_,λax hs=>?_⟩
  ·cases hd:d.dst<;>simp[aP,w.defers]
  ·cases hd:d.dst<;>simp[aP,w.size]
  ·have u:=Array.all_eq_true_iff_forall_mem.1 hs d (Array.mem_of_getElem? k);rw[<-w.rest ax hs]
   cases hd:d.dst with
   |none=>rfl
   |some D=>
    have:D≠ax:=by
     rw[hd] at u;simpa using u
    simp[aP,jS this]
 intro fuel
 induction fuel with
 |zero=>
  intro i a j I hc w hl Y hf J;exfalso;have X:last<ops.size:=by
   by_cases p:last<i.size
   ·omega
   ·simp[show i.size<=last by omega] at hl
  have:0<(iq ops.size).countP (λc=> !i.getD c true):=List.countP_pos_iff.2 ⟨last,List.mem_range.2 X,by rw[hl];rfl⟩;omega
 |succ fuel aS=>
  intro i a j I hc w hl Y hf J;have X:last<ops.size:=by
   by_cases p:last<i.size
   ·omega
   ·simp[show i.size<=last by omega] at hl
  refine⟨λaf=>?_,λc hi=>?_⟩
  ·have:=uU I aa af last X;rw[hl] at this;cases this
  obtain⟨S,d,k,aD⟩:=mem_ready.1 hi;have am:c<ops.size:=(Array.getElem?_eq_some_iff.1 k).1;have G:∀e∈d.after,fP .any e=true->e.on<ops.size/\i.getD e.on true=true:=λe q hb=>by
   have s:=aD e q hb;have aY:=aa c d k e q hb;have aV:e.on<i.size:=by omega
   exact⟨by omega,by simpa [aV] using s⟩
  unfold wpOp;rw[k];simp only;rw[if_pos (by simp[gM,(mV M c d k).2.1])];by_cases ab:c=last
  ·subst ab;have step:∀(o A:Nat) (H:Oper),ops[o]? =E H->i.getD o true=true->H.after.any (λe=>e.on==A&&fP .any e)=true->i.getD A true=true:=λo A H x aC hy=>by
    obtain⟨e,q,hb⟩:=Array.any_eq_true'.1 hy;simp only[kY,beq_iff_eq] at hb;have:=J o H x aC e q hb.2;rw[hb.1] at this;exact this
   have first:∀A,d.after.any (λe=>e.on==A&&fP .any e)=true->i.getD A true=true:=λA hy=>by
    obtain⟨e,q,hb⟩:=Array.any_eq_true'.1 hy;simp only[kY,beq_iff_eq] at hb;have:=(G e q hb.2).2;rw[hb.1] at this;exact this
   have av:∀f,f<ops.size->f≠c->i.getD f true=true:=λf n u=>by
    unfold su at ar;have ak:=List.all_eq_true.1 ar f (List.mem_range.2 n);simp only[Bool.or_eq_true,beq_iff_eq,u,false_or] at ak;have ag:∀(fuel o:Nat),(o=c\/i.getD o true=true)->pn ops fuel o f=true->i.getD f true=true:=by
     intro fuel
     induction fuel with
     |zero=>intro o _ p;simp[pn] at p
     |succ fuel aT=>
      intro o x p;unfold pn at p
      cases N:ops[o]? with
      |none=>rw[N] at p;cases p
      |some aw=>
       rw[N] at p;simp only at p;obtain⟨e,q,hb⟩:=Array.any_eq_true'.1 p;simp only[kY,Bool.or_eq_true,beq_iff_eq] at hb;have L:i.getD e.on true=true:=by
        obtain rfl|x:=x
        ·have:aw=d:=br (N.symm.trans k);subst this;exact(G e q hb.1).2
        ·exact J o aw N x e q hb.1
       obtain s|s:=hb.2
       ·rw[<-s];exact L
       ·exact aT e.on (.inr L) s
    exact ag _ c (.inl rfl) ak
   refine .inl (Oper.wp_mono (λa' w' p=>?_) (aK d a j k w Y (λf n u=>hf f n (av f n u))));refine wpAny_done ?_ p fuel
   cases af:Region.ready .any ops (i.setIfInBounds c true) with
   |nil=>rfl
   |cons f aZ=>
    exfalso;have ad:f∈Region.ready .any ops (i.setIfInBounds c true):=by rw[af];exact nG ..
    obtain⟨R,H,aM,_⟩:=mem_ready.1 ad;have n:f<ops.size:=(Array.getElem?_eq_some_iff.1 aM).1;by_cases r:c=f
    ·subst r;simp[I,n] at R
    ·rw[getD_set_ne true r,av f n (Ne.symm r)] at R
     cases R
  ·refine .inl (Oper.wp_mono (λa' w' p=>?_) (aR c d a j ab k w Y (λe q hb=>hf e.on (G e q hb).1 (G e q hb).2)));obtain⟨m,rfl,aB,aQ,aH⟩:=p;refine aS _ _ _ (by simp[I]) ?_ (aO c d m a k w) (by rw[getD_set_ne true ab];exact hl) aB (λf n hl=>?_) (λf ai au aq e q hb=>?_)
   ·have ao:c<i.size:=by omega
    have ag:∀(t:List Nat),c∈t->t.Nodup->t.countP (λf=> !(i.setIfInBounds c true).getD f true)+1<=t.countP (λf=> !i.getD f true):=by
     intro t
     induction t with
     |nil=>intro p;cases p
     |cons o t aU=>
      intro ad ae
      have L:∀(t:List Nat),t.countP (λf=> !(i.setIfInBounds c true).getD f true)<=t.countP (λf=> !i.getD f true):=λt=>List.countP_mono_left (λf _ n=>by
       by_cases r:c=f
       ·subst r;simp[ao] at n
       ·rw[getD_set_ne true r] at n;exact n)
      rw[kh,kh];by_cases x:o=c
      ·subst x;have ay:(!(i.setIfInBounds o true).getD o true)=false:=by simp[ao]
       have aA:(!i.getD o true)=true:=by rw[S];rfl
       rw[ay,aA];have:=L t;simp only[kg,if_false,if_true];omega
      ·have aL:c∈t:=by obtain s|s:=List.mem_cons.1 ad;exact absurd s.symm x;exact s
       have:=aU aL (List.nodup_cons.1 ae).2;rw[getD_set_ne true (Ne.symm x)];omega
    have:=ag _ (List.mem_range.2 am) List.nodup_range;omega
   ·by_cases r:c=f
    ·subst r;rw[aW c d a m k (w.size.trans ae)];exact aH
    ·rw[getD_set_ne true r] at hl;exact aI c f d m a j w' r am n k (hf f n hl) aQ
   ·by_cases r:c=f
    ·subst r;have aN:ai=d:=br (au.symm.trans k);subst aN;have s:=G e q hb;have u:c≠e.on:=λaX=>by have:=aa c ai k e q hb;omega
     rw[getD_set_ne true u];exact s.2
    ·rw[getD_set_ne true r] at aq;have s:=J f ai au aq e q hb;by_cases ap:c=e.on
     ·rw[<-ap] at s;rw[s] at S
      cases S
     ·rw[getD_set_ne true ap];exact s
theorem GK{id n:Nat} {o:Act} {e:U} (last:Nat) (k:U->Prop) (r:U->U->Prop) (i:Nat->V->U->Prop) (z:P.follows .mixedOrders=true) (A:o.tmps.size=n) (B:oi ops n=true) (q:su ops last=true) (hF:∀(c:Nat) (m:V) (e w':U),r e w'->i c m e->i c m w') (D:∀(c:Nat) (d:Oper) (a:Act) (e:U),c≠last->ops[c]? =E d->fV ops o a->k e->(∀f∈d.after,fP .any f=true->i f.on (dI ops f.on a) e)->eT P d a e (λa' w'=>∃m,a'=a.put d.dst m/\k w'/\r e w'/\i c (if d.dst.isSome then m else undef) w') Q)
  (x:∀(d:Oper) (a:Act) (e:U),ops[last]? =E d->fV ops o a->k e->(∀c,c<ops.size->c≠last->i c (dI ops c a) e)->eT P d a e (λa' w'=>Q .normal a' w') Q) (u:k e.drew) (w:∃d,ops[last]? =E d):(Code.region id ops true).wp P Q o e:=by
 have hl:last<ops.size:=by
  unfold su at q;by_cases j:last<ops.size
  ·exact j
  ·exfalso;by_cases t:0<ops.size
   ·have s:=List.all_eq_true.1 q 0 (List.mem_range.2 t);simp only[Bool.or_eq_true,beq_iff_eq] at s;obtain f|f:=s
    ·omega
    ·unfold pn at f;rw[Array.getElem?_eq_none (by omega)] at f
     cases f
   ·obtain⟨d,p⟩:∃d,ops[last]? =E d:=w;rw[Array.getElem?_eq_none (by omega)] at p
    cases p
 refine wp_region_any z (GJ last k r i A B q hF D x _ _ _ _ (by simp) (bF mg (by simp)) ⟨rfl,rfl,λ_ _=>rfl⟩ (by simp[hl]) u (λc hi j=>?_) (λc d p j=>?_))
 ·simp[hi] at j
 ·have hi:c<ops.size:=(Array.getElem?_eq_some_iff.1 p).1;simp[hi] at j
end
theorem GL{k:U} {i:TypeId} {size a e cap d:Nat} {xs j:List V} (n:k.ownsRow 0 i size (C (E ⟨d,0,F⟩) (a+e) cap) (a+e) (xs++j)) (hl:xs.length=a* size):k.ownsRow 0 i size (C (E ⟨d,0,F⟩) a cap) a xs:=by
 obtain⟨o,_⟩|⟨w,t,f,hv,hb,p,x,q,r,s⟩:=n.2
 ·cases o
 ·injection hv with c u m;injection c with c;injection c with c;subst c m;refine⟨hl,.inr ⟨d,cap,f,rfl,fJ _,p,by omega,q,r,?_⟩⟩;have:(f.toList.take ((a+e)* size)).take (a* size)=(xs++j).take (a* size):=by rw[s]
  rw[List.take_take,Nat.min_eq_left (mq _ (by omega)),<-hl,List.take_left' rfl] at this;rw[<-hl];exact this
theorem GM{P:Program} (c:U) (s ty o:TypeId) (j:TypeInfo) (w:V) (size bytes:Nat) (u:P.underlying s=E (.slice o)) (hi:P.info? o=E j) (O:j.zero=E w) (M:j.size=size) (H:j.bytes=bytes) (R:w.cells.size=size) (N:0<size) (r:V) (m:Nat) (xs:List V) (e:c.ownsRow 0 o size r m xs)
  (aa:V) (k:Nat) (n:List V) (ai:Reads c aa k n) (hl:n.length=k* size) (B:∀aj∈n,aj.oneCell'=true) (D:m+k<=maxLen) (I:(m+k)* bytes<=140737488355328):∃v' w',(Builtin.append_ #[s,s] ty #[r,aa]).run P c=.ok v' w'/\w'.ownsRow 0 o size v' (m+k) (xs++n)/\c.grownBy w' r.ownBlock/\dY c r v'/\w'.ownsRow 0 o size r m xs/\(v'.ownBlock=r.ownBlock\/G No c w'):=by
 have ag:c.grownBy c r.ownBlock:=⟨rfl,rfl,rfl,bK _,λ_ _ _=>rfl⟩;obtain⟨rfl,rfl⟩|⟨x,z,rfl,hc⟩:=ai
 ·obtain rfl:n=[]:=fS (by simpa using hl);refine⟨r,c,?_,by simpa using e,ag,λf d=>.inl d,e,.inl rfl⟩;obtain⟨rfl,rfl⟩|⟨p,cap,q,rfl,_,_,L,_⟩:=e.2
  ·simp[Builtin.append_,run_underlying u,sizeOf,typeInfo,hi,Builtin.lenOf,Builtin.firstCells,loadCells,loadCellsFrom]
  ·simp[Builtin.append_,run_underlying u,sizeOf,typeInfo,hi,Builtin.lenOf,Builtin.firstCells,loadCells,loadCellsFrom,L,storeCells]
 ·have am:=e;obtain⟨rfl,rfl⟩|⟨p,cap,q,rfl,_,J,L,ae,hcs,ah⟩:=e.2
  ·obtain rfl:xs=[]:=fS (by simpa using e.1);obtain⟨v',w',t,i,a,ak⟩:=run_append_own (P:=P) c c.heap.size s ty o j w size bytes u hi O M H R N (C F 0 0) 0 [] (cJ _ _ _ _) x k z n hl hc B D I (bK _);refine⟨v',w',t,⟨i.1,?_⟩,a,λf d=>.inr (i.lt f d).1,cJ _ _ _ _,.inr ⟨a.os,a.tape,a.output,a.size,λf d _=>a.block f d (by simp[az])⟩⟩;obtain A|⟨p,cap,q,hv,_,S⟩:=i.2
   ·exact .inl A
   ·exact .inr ⟨p,cap,q,hv,fJ _,S⟩
  ·by_cases Y:m+k<=cap
   ·subst M;have af:m* j.size+n.length<=q.size:=by rw[hl,hcs,<-Nat.add_mul];exact mq _ Y
    have t:=run_append_room (P:=P) c s ty o j u hi p m cap q J x k z n hl hc B Y af;obtain⟨v',w',X,i,a,_⟩:=run_append_own (P:=P) c 0 s ty o j w j.size bytes u hi O rfl H R N _ m xs e x k z n hl hc B D I (fJ _);rw[t] at X;injection X with ab ad;subst ab;subst ad;exact⟨_,_,t,i,a,λf d=>.inl d,GL i e.1,.inl rfl⟩
   ·obtain⟨v',w',t,i,a⟩:=run_append_arg_grows (P:=P) c s ty o j w size bytes u hi O M H R N ⟨p,0,F⟩ m cap xs e.1 (e.cells rfl) x k z n hl hc (by omega) D I;refine⟨v',w',t,⟨i.1,?_⟩,⟨a.os,a.tape,a.output,a.size,λf d _=>a.block f d (by simp)⟩,λf d=>.inr (i.lt f d).1,?_,.inr ⟨a.os,a.tape,a.output,a.size,λf d _=>a.block f d (by simp)⟩⟩
    ·obtain A|⟨p,cap,q,hv,_,S⟩:=i.2
     ·exact .inl A
     ·exact .inr ⟨p,cap,q,hv,fJ _,S⟩
    ·refine⟨e.1,.inr ⟨p,cap,q,rfl,fJ _,?_,L,ae,hcs,ah⟩⟩;rw[a.block p (Array.getElem?_eq_some_iff.1 J).1 (by simp)];exact J
theorem sy{P:Program} {d:U} {m:Oper} {a:Act} {r:Act->U->Prop} {Q:Exit->Act->U->Prop} (s t:Operand) (n:TypeId) (L:m.op=.call { callee:=.builtin .append,args:=#[s,t],argTypes:=#[n,n] }) (e:TypeId) (j:TypeInfo) (q:V) (size bytes:Nat) (R:P.underlying n=E (.slice e)) (hi:P.info? e=E j) (X:j.zero=E q)
  (N:j.size=size) (I:j.bytes=bytes) (Y:q.cells.size=size) (O:0<size) (c:V) (i:Nat) (xs:List V) (hs:a.eval s=c) (M:d.ownsRow 0 e size c i xs) (p:V) (f:Nat) (k:List V) (S:a.eval t=p) (o:Reads d p f k) (hl:k.length=f* size) (w:∀aa∈k,aa.oneCell'=true) (H:i+f<=maxLen) (J:(i+f)* bytes<=140737488355328)
  (u:∀v' w',w'.ownsRow 0 e size v' (i+f) (xs++k)->d.grownBy w' c.ownBlock->dY d c v'->w'.ownsRow 0 e size c i xs->(v'.ownBlock=c.ownBlock\/G No d w')->r (a.put m.dst v') w'):m.wp P a d r Q:=by
 obtain⟨v',w',o,x,z,A,B,D⟩:=GM (P:=P) d n m.type e j q size bytes R hi X N I Y O c i xs M p f k o hl w H J;unfold eT execOp;simp only[L,resolve,invoke,builtin,Sem.run_bind,Sem.run_pure,Result.andThen_ok,List.map_toArray,List.map_cons,List.map_nil,hs,S,o];exact u v' w' x z A B D
theorem GN{o w':U} {f:TypeId} {size d n:Nat} {e v' s:V} {xs r:List V} (O:0<size) (ak:0<d+n) (M:o.ownsRow 0 f size e d xs) (L:w'.ownsRow 0 f size v' (d+n) (xs++r)) (J:o.grownBy w' e.ownBlock) (j:v'.ownBlock=e.ownBlock\/G No o w') (N:w'.ownsRow 0 f size e d xs) (hu:o.ownsRow 0 f size s (d+n) (xs++r)):w'.ownsRow 0 f size s (d+n) (xs++r):=by
 obtain j|j:=j
 ·by_cases q:s.ownBlock=e.ownBlock
  ·obtain⟨p,x|⟨k,cap,u,rfl,_,m,ao,ap,aq,ar⟩⟩:=hu
   ·omega
   ·obtain⟨R,am|⟨w,t,A,rfl,_,z,S,X,Y,aa⟩⟩:=L
    ·omega
    ·have B:w=k:=by
      have:=j.trans q.symm;simpa [az] using this
     subst B;have hv:e.ownBlock=E w:=q.symm.trans rfl;obtain⟨au,ad|⟨I,af,ah,rfl,_,a,_,_,av,_⟩⟩:=M
     ·rw[ad.1] at hv;simp[az] at hv
     ·obtain⟨t0,t1|⟨aj,ag,ai,el,_,c,_,_,aw,_⟩⟩:=N
      ·simp at t1
      ·injection el with i _ H;injection i with i;injection i with i;subst i H;simp[az] at hv;subst hv;rw[m] at a;injection a with a;injection a with a;subst a;rw[z] at c;injection c with c;injection c with c;subst c;have D:t=cap:=Nat.eq_of_mul_eq_mul_right O (by omega);subst D;exact⟨R,.inr ⟨I,t,A,rfl,fJ _,z,S,X,Y,aa⟩⟩
  ·obtain⟨p,x|⟨k,cap,u,rfl,_,m,ab⟩⟩:=hu
   ·exact⟨p,.inl x⟩
   ·refine⟨p,.inr ⟨k,cap,u,rfl,fJ _,?_,ab⟩⟩;rw[J.block k (Array.getElem?_eq_some_iff.1 m).1 q];exact m
 ·exact j.owns hu (λ_ _ ae=>ae)
def bw(a:TypeId) (d:Nat) (c:U) (f:V) (e:Nat):Prop:=∃xs,c.ownsRow 0 a d f e xs
theorem bw.mod{d:TypeId} {j k:Nat} {e f:U} {c:V} {S:Nat->Prop} (a:bw d j e c k) (m:G S e f) (hs:∀i,c.ownBlock=E i->¬S i):bw d j f c k:=by
 obtain⟨xs,a⟩:=a;exact⟨xs,m.owns a hs⟩
theorem bw.slice{f:TypeId} {k d:Nat} {i:U} {e:V} (c:bw f k i e d):∃a j,e=C a d j:=by
 obtain⟨xs,c⟩:=c;exact aC c
theorem bw.lt{f:TypeId} {m n:Nat} {c:U} {e:V} (i:bw f m c e n) (d:Nat) (a:e.ownBlock=E d):d<c.heap.size:=by
 obtain⟨xs,_,j|⟨p,cap,o,rfl,hb,k,_⟩⟩:=i
 ·rw[j.1] at a;simp[az] at a
 ·simp[az] at a;subst a;exact X.lt k
theorem bw.block{d:TypeId} {i c:Nat} {e:U} {j:V} (m:bw d i e j c) (s:0<c):∃f cap a,j=C (E ⟨f,0,F⟩) c cap/\X e f a d/\a.size=cap* i/\c<=cap:=by
 obtain⟨xs,_,q|⟨k,cap,a,rfl,hb,p,n,r,o,_⟩⟩:=m
 ·omega
 ·exact⟨k,cap,a,rfl,p,o,n⟩
theorem bw.owns{f:TypeId} {j d:Nat} {i:U} {e:V} {g:Nat} (k:bw f j i e d) (c:e.ownBlock=E g):∃cap a,e=C (E ⟨g,0,F⟩) d cap/\X i g a f/\a.size=cap* j/\d<=cap/\cap<=maxLen:=by
 obtain⟨xs,_,m|⟨r,cap,a,rfl,hb,q,n,o,p,_⟩⟩:=k
 ·rw[m.1] at c;simp[az] at c
 ·simp[az] at c;subst c;exact⟨cap,a,rfl,q,p,n,o⟩
theorem bw.mk{f:TypeId} {c d e cap:Nat} {i:U} {a:Array V} (n:X i e a f) (j:a.size=cap* c) (k:d<=cap) (m:cap<=maxLen):bw f c i (C (E ⟨e,0,F⟩) d cap) d:=by
 refine⟨a.toList.take (d* c),?_,.inr ⟨e,cap,a,rfl,fJ _,n,k,m,j,rfl⟩⟩;rw[dj,Array.length_toList,j,Nat.min_eq_left (mq c k)]
structure eu (T:TypeId) (k:Nat) (lg:Option Nat) (W W':U):Prop where
 size:W.heap.size<=W'.heap.size
 has:∀b cs T',X W b cs T'->E b≠lg->X W' b cs T'
 sl:∀v m,bw T k W v m->bw T k W' v m
theorem eu.refl(d:TypeId) (e:Nat) (f:Option Nat) (c:U):eu d e f c c:=⟨bK _,λ_ _ _ a _=>a,λ_ _ a=>a⟩
theorem eu.alloc(e:TypeId) (f:Nat) (i:Option Nat) (a:U) (d:Obj):eu e f i a (a.alloc d):=
 ⟨by simp,λ_ _ _ c _=>c.alloc d,λm k c=>c.mod ((G.refl No a).alloc d) (λ_ _ j=>j)⟩
theorem eu.app{f:TypeId} {o s:Nat} {i j:U} {c:V} {xs:List V} (z:i.ownsRow 0 f o c s xs) (n:i.grownBy j c.ownBlock) (A:j.ownsRow 0 f o c s xs):eu f o c.ownBlock i j:=by
 refine⟨n.size,λN cs M d hb=>d.grown n hb,λL m' d=>?_⟩;by_cases hv:L.ownBlock=c.ownBlock
 ·cases hl:c.ownBlock with
  |none=>
   obtain⟨ys,e,m|⟨q,cap,k,rfl,_⟩⟩:=d
   ·exact⟨ys,e,.inl m⟩
   ·rw[hl] at hv;cases hv
  |some ab=>
   obtain⟨cap,k,rfl,r,aa,u,w⟩:=d.owns (hv.trans hl);obtain⟨O,S,el,a,f1,f2,f3⟩:=bw.owns ⟨xs,z⟩ hl;obtain⟨R,Y,p,x,ad,ae,af⟩:=bw.owns ⟨xs,A⟩ hl;rw[el] at p;injection p with _ _ t;subst t;unfold X at r a;rw[r] at a;injection a with a;injection a with a;subst a;exact bw.mk x (by omega) u w
 ·obtain⟨ys,e,m|⟨q,cap,k,rfl,B,D,G,H,I,J⟩⟩:=d
  ·exact⟨ys,e,.inl m⟩
  ·exact⟨ys,e,.inr ⟨q,cap,k,rfl,B,X.grown D n hv,G,H,I,J⟩⟩
def gE(e:Nat) (j:List V) (d:U) (i:V) (f:Nat):Prop:=∀a,i.ownBlock=E a->∀c,c<f->d.rangeAt a (c* e) j
theorem gE.zero{d:Nat} {f:List V} {a:U} {e:V}:gE d f a e 0:=λ_ _ i c=>absurd c (dZ _)
theorem gE.store{a:Nat} {e:List V} {i:U} {q:V} {p f c:Nat} (s:gE a e i q p) (o:e.length=a) (x:i.there f (c* a) a):gE a e (i.setCells f (c* a) e) q p:=by
 intro j t d w;by_cases n:j=f/\d=c
 ·obtain⟨rfl,rfl⟩:=n;exact World.rangeAt_setCells_same i j (d* a) e (by rw[o];exact x)
 ·refine World.rangeAt_setCells_apart (s j t d w) f (c* a) e ?_;by_cases m:j=f
  ·right;have u:d≠c:=λr=>n ⟨m,r⟩;rw[o];obtain k|k:=Nat.lt_or_gt_of_ne u
   ·left;have:=mq a (show d+1<=c from k);rw[Nat.add_mul,Nat.one_mul] at this;exact this
   ·right;have:=mq a (show c+1<=d from k);rw[Nat.add_mul,Nat.one_mul] at this;exact this
  ·exact .inl m
theorem gE.more{a:Nat} {e:List V} {f:U} {k:V} {i c:Nat} (p:gE a e f k c) (n:e.length=a) (hv:k.ownBlock=E i) (m:f.there i (c* a) a):gE a e (f.setCells i (c* a) e) k (c+1):=by
 intro o d j r;by_cases q:j<c
 ·exact p.store n m o d j q
 ·obtain rfl:j=c:=by omega
  rw[hv] at d;injection d with d;subst d;exact World.rangeAt_setCells_same f i (j* a) e (by rw[n];exact m)
theorem gE.mod{i j:Nat} {k:List V} {c e:U} {d:V} {S:Nat->Prop} (m:gE i k c d j) (p:G S c e) (hl:∀a,d.ownBlock=E a->a<c.heap.size/\¬S a):gE i k e d j:=λa f s q r t hu=>by
 obtain⟨n,o⟩:=hl a f;rw[World.cell?_of_block (w:=c) (p.block a n o)];exact m a f s q r t hu
theorem X.there{f:U} {a:Nat} {cs:Array V} {i:TypeId} (c:X f a cs i) (e d:Nat) (k:e+d<=cs.size):f.there a e d:=λm j=>by
 refine⟨?_,c.frozen _⟩;rw[c.cell,bX (by omega)];rfl
structure jj (T sT zT:TypeId) (k:Nat) (z:List V) (S:Nat->Prop) (w0 W:U) (zb rb:Nat) (hs:Array V) (ms:Array Nat) (q i:Nat):Prop where
 mod:G S w0 W
 qF:X W zb z.toArray zT
 lV:X W rb hs sT
 sl:∀(j:Nat) (v:V) (m:Nat),hs[j]? =E v->ms[j]? =E m->bw T k W v m/\∀g,v.ownBlock=E g->g≠zb/\g≠rb/\(S g\/w0.heap.size<=g)
 full:∀(j:Nat) (v:V) (m:Nat),j<q->hs[j]? =E v->ms[j]? =E m->gE k z W v m
 cur:∀v,hs[q]? =E v->gE k z W v i
theorem jj.next{k p s:TypeId} {n:Nat} {r:List V} {S:Nat->Prop} {q m:U} {t o:Nat} {hs:Array V} {f:Array Nat} {d i:Nat} (a:jj k p s n r S q m t o hs f d i) (w:f[d]? =E i):jj k p s n r S q m t o hs f (d+1) 0:=
 ⟨a.mod,a.qF,a.lV,a.sl,λe j x z hv c=>by
  by_cases u:e<d
  ·exact a.full e j x u hv c
  ·obtain rfl:e=d:=by omega
   rw[w] at c
   injection c with c
   subst c
   exact a.cur j hv,λj _=>gE.zero⟩
theorem jj.drewN{p w A:TypeId} {r:Nat} {z:List V} {S:Nat->Prop} {x j:U} {B u:Nat} {hs:Array V} {s:Array Nat} {t q:Nat} (a:jj p w A r z S x j B u hs s t q) (d:Nat):jj p w A r z S x (j.drewN d) B u hs s t q:=
 ⟨a.mod.drewN d,a.qF.drewN d,a.lV.drewN d,λf c i hv e=>⟨(a.sl f c i hv e).1.mod ((G.refl No j).drewN d) (λ_ _ H=>H),(a.sl f c i hv e).2⟩,λf c i D hv e k m o n=>a.full f c i D hv e k m o n,λc hv k m o n=>a.cur c hv k m o n⟩
theorem jj.put{t A D:TypeId} {a:Nat} {f:List V} {S:Nat->Prop} {B e:U} {H z:Nat} {hs:Array V} {s:Array Nat} {m d o c cap:Nat} (j:jj t A D a f S B e H z hs s m d) (w:f.length=a) (hv:hs[m]? =E (C (E ⟨c,0,F⟩) o cap)) (ad:s[m]? =E o) (hi:d<o):e.there c (d* a) a/\jj t A D a f S B (e.setCells c (d* a) f) H z hs s m (d+1):=by
 obtain⟨af,ag⟩:=j.sl m _ o hv ad;obtain⟨I,J,L⟩:=ag c rfl;obtain⟨M,N,k,R,aj,ak,am⟩:=af.owns (g:=c) rfl;have aa:d* a+a<=N.size:=by
  have:=mq a (show d+1<=M by omega);rw[Nat.add_mul,Nat.one_mul] at this;omega
 have q:e.there c (d* a) a:=R.there _ _ aa;refine⟨q,⟨G.setCells (b:=c) L f (d* a) e j.mod,?_,?_,λr n m' i p=>?_,λr n m' ab i p=>(j.full r n m' ab i p).store w q,λn i=>?_⟩⟩
 ·exact(G.setCells (S:=λa=>a=c) (a:=e) (b:=c) (.inl rfl) f (d* a) e (G.refl _ _)).has j.qF (λk=>I k.symm)
 ·exact(G.setCells (S:=λa=>a=c) (a:=e) (b:=c) (.inl rfl) f (d* a) e (G.refl _ _)).has j.lV (λk=>J k.symm)
 ·obtain⟨x,ae⟩:=j.sl r n m' i p;refine⟨?_,ae⟩;by_cases u:n.ownBlock=E c
  ·obtain⟨ah,ai,rfl,Y,f1,f2,f3⟩:=x.owns u;have:=X.setCells f (d* a) e _ Y;exact bw.mk this (by rw[tT];exact f1) f2 f3
  ·exact x.mod (G.setCells (S:=λa=>a=c) (a:=e) (b:=c) (.inl rfl) f (d* a) e (G.refl _ _)) (λao O k=>u (by rw[O,k]))
 ·rw[hv] at i;injection i with i;subst i;exact(j.cur _ hv).more w rfl q
theorem jj.GO{c m p:TypeId} {f:Nat} {o:List V} {S:Nat->Prop} {n d:U} {q k:Nat} {hs:Array V} {i:Array Nat} {j e:Nat} (a:jj c m p f o S n d q k hs i j (e+1)):jj c m p f o S n d q k hs i j e:=
 ⟨a.mod,a.qF,a.lV,a.sl,a.full,λu hv r s t w=>a.cur u hv r s t (by omega)⟩
set_option maxHeartbeats 8000000
def aK(I:Int):Array V:=#[y K 0,y K 0,y K 9,y K I,y K 0,y K 0]
theorem GQ:(T.info? 63).map (λa=>(a.zero,a.size,a.bytes))=E (E (l #[y K 0,y K 0,y K 0,y K 0,y K 0,y K 0]),6,48):=by kernel_rfl
noncomputable def mW:TypeDesc:=(T.underlying 63).getD (.slice 0)
theorem oo:T.underlying 63=E mW:=by kernel_rfl
theorem GR:(T.info? 60).map (λa=>(a.zero,a.size,a.bytes))=E (E (C F 0 0),1,24):=by kernel_rfl
def po(f:U) (i:V) (j:Nat) (I:Int) (o:Nat) (d:V) (e:U):Prop:=
 match o with
 |0|1|5|10=>d=i
 |2|6|7|11|12|13=>d=l (aK I)
 |3=>∃c,d=C (E ⟨c,0,F⟩) 1 1/\X e c (aK I) 63/\f.heap.size<=c
 |8=>∃c,d=C (E ⟨c,0,F⟩) 2 2/\X e c (aK I++aK I) 63/\f.heap.size<=c
 |14=>∃c,d=C (E ⟨c,0,F⟩) 3 3/\X e c (aK I++aK I++aK I) 63/\f.heap.size<=c
 |4=>bw 63 6 e d (j+1)/\∀a,d.ownBlock=E a->i.ownBlock=E a\/f.heap.size<=a
 |9=>bw 63 6 e d (j+2)/\∀a,d.ownBlock=E a->i.ownBlock=E a\/f.heap.size<=a
 |15=>bw 63 6 e d (j+3)/\∀a,d.ownBlock=E a->i.ownBlock=E a\/f.heap.size<=a
 |16|17=>∃c k m n,d=C (E ⟨c,0,F⟩) 4 4/\X e c #[i,k,m,n] 61/\f.heap.size<=c/\(bw 63 6 e k (j+1)/\∀a,k.ownBlock=E a->a≠c/\(i.ownBlock=E a\/f.heap.size<=a))/\(bw 63 6 e m (j+2)/\∀a,m.ownBlock=E a->a≠c/\(i.ownBlock=E a\/f.heap.size<=a))/\(bw 63 6 e n (j+3)/\∀a,n.ownBlock=E a->a≠c/\(i.ownBlock=E a\/f.heap.size<=a))
 |_=>True
theorem po.j2{f:U} {e:V} {t:Nat} {I:Int} (hl:∀n,e.ownBlock=E n->n<f.heap.size) (s:Nat) (u:V) (k m:U) (hs:eu 63 6 e.ownBlock k m) (c:po f e t I s u k):po f e t I s u m:=by
 have r:∀a,f.heap.size<=a->E a≠e.ownBlock:=λa hb w=>by have:=hl a w.symm;omega
 unfold po at c ⊢;split at c
 all_goals first
  |exact c
  |(obtain⟨a,i,j,d⟩:=c;exact⟨a,i,hs.has _ _ _ j (r a d),d⟩)
  |(exact⟨hs.sl _ _ c.1,c.2⟩)
  |(obtain⟨a,x,z,A,i,j,d,o,p,q⟩:=c;exact⟨a,x,z,A,i,hs.has _ _ _ j (r a d),d,⟨hs.sl _ _ o.1,o.2⟩,⟨hs.sl _ _ p.1,p.2⟩,⟨hs.sl _ _ q.1,q.2⟩⟩)
theorem GV(I:Int):(aK I).toList.length=6:=rfl
theorem sA(I:Int):∀a∈(aK I).toList,a.oneCell'=true:=by
 intro a hu;simp[aK] at hu;obtain rfl|rfl|rfl|rfl|rfl|rfl:=hu<;>rfl
theorem uW{d:U} {c a:Nat} {cs:Array V} (e:X d c cs 63):Reads d (C (E ⟨c,0,F⟩) a a) a cs.toList:=
 .inr ⟨⟨c,0,F⟩,a,rfl,λf i hu=>by
  rw[dx,bg,e.cell,<-dE]
  exact hu⟩
noncomputable def zj(a:Nat):Code:=zg (f66.body.getD .skip) a
theorem GW{m:U} {p j:Nat} {f:V} {I:Int} (aQ:X m p (aK I) 63) (hl:bw 63 6 m f j) (cI:j+3<=1000000) (af:∀a,f.ownBlock=E a->a≠p) (aI:Exit->Act->U->Prop) (aS aX aY cp bx bC bD bE aT aU aV aW b8 b9 ca cb cc cd ce cf cg ch ci cj ck cl cm cn co aZ a0 a1 a2 a3 a4 a5 a6 a7 a8 a9 ba bb bc bd bf bh bi bk bl bm bn bo bp bq bs bt bu bv bz bA bB:V)
  (aM:∀(cq cr ct cu cv cw cx cy cz cA cB cC cD cE cF cG cH:V) (A:Nat) (u w x:V) (d:U),Hid (G (λa=>f.ownBlock=E a) m d/\X d p (aK I) 63/\bw 63 6 d f j/\X d A #[f,u,w,x] 61/\m.heap.size<=A/\(bw 63 6 d u (j+1)/\∀a,u.ownBlock=E a->a≠A/\(f.ownBlock=E a\/m.heap.size<=a))/\(bw 63 6 d w (j+2)/\∀a,w.ownBlock=E a->a≠A/\(f.ownBlock=E a\/m.heap.size<=a))/\(bw 63 6 d x (j+3)/\∀a,x.ownBlock=E a->a≠A/\(f.ownBlock=E a\/m.heap.size<=a)))->aI .normal ⟨#[aS,f,aX,aY,b (E ⟨p,0,F⟩),C (E ⟨A,0,F⟩) 4 4,bx,bC,bD,bE,aT,aU,aV,aW,cq,cr,ct,cu,cv,cw,cx,cy,cz,cA,cB,cC,cD,cE,cF,cG,cH,aZ,a0,a1,a2,a3,a4,a5,a6,a7,a8,a9,ba,bb,bc,bd,bf,bh,bi,bk,bl,bm,bn,bo,bp,bq,bs,bt,bu,bv,bz,bA,bB],[]⟩ d):
  Code.wp T (zj 1) aI ⟨#[aS,f,aX,aY,b (E ⟨p,0,F⟩),cp,bx,bC,bD,bE,aT,aU,aV,aW,b8,b9,ca,cb,cc,cd,ce,cf,cg,ch,ci,cj,ck,cl,cm,cn,co,aZ,a0,a1,a2,a3,a4,a5,a6,a7,a8,a9,ba,bb,bc,bd,bf,bh,bi,bk,bl,bm,bn,bo,bp,bq,bs,bt,bu,bv,bz,bA,bB],[]⟩ m:=by
 conv=>arg 4;dsimp only
 conv=>arg 2;whnf
 obtain⟨aA,ak,am,ap,ar⟩:=info_parts GQ;have aO:=hl.lt;have aD:=i aM;clear aM;refine zh (n:=63) (λd=>G (λa=>f.ownBlock=E a) m d/\X d p (aK I) 63/\bw 63 6 d f j) (eu 63 6 f.ownBlock) (po m f j I) (by kernel_rfl) rfl (by kernel_rfl) (λn L d bU hs r=>r.j2 aO n L d bU hs) ?_ ?_ ⟨(G.refl _ m).drew,aQ.drew,hl⟩
 ·intro n b7 e d ae M c hd;have hi:n<18:=(Array.getElem?_eq_some_iff.1 ae).1;have ad:e.tmps[1]?.getD undef=f:=by simpa using M.rest 1 (by kernel_rfl)
  have H:e.eval (.tmp 1)=f:=M.rest 1 (by kernel_rfl);have z:e.eval (.tmp 4)=b (E ⟨p,0,F⟩):=M.rest 4 (by kernel_rfl);clear aD M;have b6:n=0\/n=1\/n=2\/n=3\/n=4\/n=5\/n=6\/n=7\/n=8\/n=9\/n=10\/n=11\/n=12\/n=13\/n=14\/n=15\/n=16\/n=17:=by omega
  obtain rfl|rfl|rfl|rfl|rfl|rfl|rfl|rfl|rfl|rfl|rfl|rfl|rfl|rfl|rfl|rfl|rfl|rfl:=b6
  all_goals
   replace ae:=br (show E _=E b7 from ae);subst ae
  ·clear hd;refine ib _ rfl ?_;exact⟨_,rfl,c,eu.refl _ _ _ _,H⟩
  ·clear hd;refine ib _ rfl ?_;exact⟨_,rfl,c,eu.refl _ _ _ _,H⟩
  ·clear hd;refine wp_load_mid _ _ rfl p 0 z (aK I).toList mW (c.2.1.range 0 _ (λaa L r=>by rw[bg,<-dE];exact r)) oo (by kernel_rfl) (by kernel_rfl) ?_;exact⟨_,rfl,c,eu.refl _ _ _ _,rfl⟩
  ·have bG:e.tmps[16]?.getD undef=l (aK I):=by simpa using (show e.tmps.getD 16 undef=_ from hd ⟨2,.data⟩ (by simp) rfl)
   clear hd ad z;unfold aK at bG;go_simp;refine⟨_,rfl,⟨c.1.alloc _,c.2.1.alloc _,c.2.2.mod ((G.refl No d).alloc _) (λ_ _ s=>s)⟩,eu.alloc _ _ _ _ _,d.heap.size,rfl,X.new d _ _,c.1.size⟩
  ·have J:e.eval (.tmp 15)=f:=hd ⟨1,.data⟩ (by simp) rfl;obtain⟨q,N,hb,aL⟩:∃q,e.eval (.tmp 17)=C (E ⟨q,0,F⟩) 1 1/\X d q (aK I) 63/\m.heap.size<=q:=hd ⟨3,.data⟩ (by simp) rfl;obtain⟨xs,B⟩:=c.2.2
   refine sy _ _ 61 rfl 63 aA _ 6 48 nW ak am ap ar rfl (by decide) f j xs J B _ 1 (aK I).toList N (uW hb) (by simp[aK]) (λab hu=>sA I ab (by revert hu;simp only[aK,Array.toList_append,List.mem_append];intro hu;simpa only[or_self] using hu)) (by unfold maxLen;omega) (by omega) ?_;intro v' w' Y o hs D _;refine⟨v',rfl,⟨?_,?_,?_⟩,eu.app B o D,⟨_,Y⟩,λa R=>?_⟩
   ·exact c.1.grown o (λaR S=>.inl S)
   ·exact c.2.1.grown o (λO=>af p O.symm rfl)
   ·exact⟨xs,D⟩
   ·obtain t|t:=hs a R
    ·exact .inl t
    ·exact .inr (bF c.1.size t)
  ·clear hd;refine ib _ rfl ?_;exact⟨_,rfl,c,eu.refl _ _ _ _,H⟩
  ·clear hd;refine wp_load_mid _ _ rfl p 0 z (aK I).toList mW (c.2.1.range 0 _ (λaa L r=>by rw[bg,<-dE];exact r)) oo (by kernel_rfl) (by kernel_rfl) ?_;exact⟨_,rfl,c,eu.refl _ _ _ _,rfl⟩
  ·clear hd;refine wp_load_mid _ _ rfl p 0 z (aK I).toList mW (c.2.1.range 0 _ (λaa L r=>by rw[bg,<-dE];exact r)) oo (by kernel_rfl) (by kernel_rfl) ?_;exact⟨_,rfl,c,eu.refl _ _ _ _,rfl⟩
  ·have bH:e.tmps[20]?.getD undef=l (aK I):=by simpa using (show e.tmps.getD 20 undef=_ from hd ⟨6,.data⟩ (by simp) rfl)
   have bJ:e.tmps[21]?.getD undef=l (aK I):=by simpa using (show e.tmps.getD 21 undef=_ from hd ⟨7,.data⟩ (by simp) rfl)
   clear hd ad z;unfold aK at bH bJ;go_simp;refine⟨_,rfl,⟨c.1.alloc _,c.2.1.alloc _,c.2.2.mod ((G.refl No d).alloc _) (λ_ _ s=>s)⟩,eu.alloc _ _ _ _ _,d.heap.size,rfl,X.new d _ _,c.1.size⟩
  ·have J:e.eval (.tmp 19)=f:=hd ⟨5,.data⟩ (by simp) rfl;obtain⟨q,N,hb,aL⟩:∃q,e.eval (.tmp 22)=C (E ⟨q,0,F⟩) 2 2/\X d q (aK I++aK I) 63/\m.heap.size<=q:=hd ⟨8,.data⟩ (by simp) rfl;obtain⟨xs,B⟩:=c.2.2
   refine sy _ _ 61 rfl 63 aA _ 6 48 nW ak am ap ar rfl (by decide) f j xs J B _ 2 (aK I++aK I).toList N (uW hb) (by simp[aK]) (λab hu=>sA I ab (by revert hu;simp only[aK,Array.toList_append,List.mem_append];intro hu;simpa only[or_self] using hu)) (by unfold maxLen;omega) (by omega) ?_;intro v' w' Y o hs D _;refine⟨v',rfl,⟨?_,?_,?_⟩,eu.app B o D,⟨_,Y⟩,λa R=>?_⟩
   ·exact c.1.grown o (λaR S=>.inl S)
   ·exact c.2.1.grown o (λO=>af p O.symm rfl)
   ·exact⟨xs,D⟩
   ·obtain t|t:=hs a R
    ·exact .inl t
    ·exact .inr (bF c.1.size t)
  ·clear hd;refine ib _ rfl ?_;exact⟨_,rfl,c,eu.refl _ _ _ _,H⟩
  ·clear hd;refine wp_load_mid _ _ rfl p 0 z (aK I).toList mW (c.2.1.range 0 _ (λaa L r=>by rw[bg,<-dE];exact r)) oo (by kernel_rfl) (by kernel_rfl) ?_;exact⟨_,rfl,c,eu.refl _ _ _ _,rfl⟩
  ·clear hd;refine wp_load_mid _ _ rfl p 0 z (aK I).toList mW (c.2.1.range 0 _ (λaa L r=>by rw[bg,<-dE];exact r)) oo (by kernel_rfl) (by kernel_rfl) ?_;exact⟨_,rfl,c,eu.refl _ _ _ _,rfl⟩
  ·clear hd;refine wp_load_mid _ _ rfl p 0 z (aK I).toList mW (c.2.1.range 0 _ (λaa L r=>by rw[bg,<-dE];exact r)) oo (by kernel_rfl) (by kernel_rfl) ?_;exact⟨_,rfl,c,eu.refl _ _ _ _,rfl⟩
  ·have bL:e.tmps[25]?.getD undef=l (aK I):=by simpa using (show e.tmps.getD 25 undef=_ from hd ⟨11,.data⟩ (by simp) rfl)
   have bM:e.tmps[26]?.getD undef=l (aK I):=by simpa using (show e.tmps.getD 26 undef=_ from hd ⟨12,.data⟩ (by simp) rfl)
   have bN:e.tmps[27]?.getD undef=l (aK I):=by simpa using (show e.tmps.getD 27 undef=_ from hd ⟨13,.data⟩ (by simp) rfl)
   clear hd ad z;unfold aK at bL bM bN;go_simp;refine⟨_,rfl,⟨c.1.alloc _,c.2.1.alloc _,c.2.2.mod ((G.refl No d).alloc _) (λ_ _ s=>s)⟩,eu.alloc _ _ _ _ _,d.heap.size,rfl,X.new d _ _,c.1.size⟩
  ·have J:e.eval (.tmp 24)=f:=hd ⟨10,.data⟩ (by simp) rfl;obtain⟨q,N,hb,aL⟩:∃q,e.eval (.tmp 28)=C (E ⟨q,0,F⟩) 3 3/\X d q (aK I++aK I++aK I) 63/\m.heap.size<=q:=hd ⟨14,.data⟩ (by simp) rfl;obtain⟨xs,B⟩:=c.2.2
   refine sy _ _ 61 rfl 63 aA _ 6 48 nW ak am ap ar rfl (by decide) f j xs J B _ 3 (aK I++aK I++aK I).toList N (uW hb) (by simp[aK]) (λab hu=>sA I ab (by revert hu;simp only[aK,Array.toList_append,List.mem_append];intro hu;simpa only[or_self] using hu)) (by unfold maxLen;omega) (by omega) ?_;intro v' w' Y o hs D _;refine⟨v',rfl,⟨?_,?_,?_⟩,eu.app B o D,⟨_,Y⟩,λa R=>?_⟩
   ·exact c.1.grown o (λaR S=>.inl S)
   ·exact c.2.1.grown o (λO=>af p O.symm rfl)
   ·exact⟨xs,D⟩
   ·obtain t|t:=hs a R
    ·exact .inl t
    ·exact .inr (bF c.1.size t)
  ·have J:e.tmps[14]?.getD undef=f:=by simpa using (show e.tmps.getD 14 undef=_ from hd ⟨0,.data⟩ (by simp) rfl)
   obtain⟨f1,av⟩:bw 63 6 d (e.tmps[18]?.getD undef) (j+1)/\∀a,(e.tmps[18]?.getD undef).ownBlock=E a->f.ownBlock=E a\/m.heap.size<=a:=by simpa using (show bw 63 6 d (e.tmps.getD 18 undef) (j+1)/\∀a,(e.tmps.getD 18 undef).ownBlock=E a->f.ownBlock=E a\/m.heap.size<=a from hd ⟨4,.data⟩ (by simp) rfl)
   obtain⟨f2,aw⟩:bw 63 6 d (e.tmps[23]?.getD undef) (j+2)/\∀a,(e.tmps[23]?.getD undef).ownBlock=E a->f.ownBlock=E a\/m.heap.size<=a:=by simpa using (show bw 63 6 d (e.tmps.getD 23 undef) (j+2)/\∀a,(e.tmps.getD 23 undef).ownBlock=E a->f.ownBlock=E a\/m.heap.size<=a from hd ⟨9,.data⟩ (by simp) rfl)
   obtain⟨f3,ax⟩:bw 63 6 d (e.tmps[29]?.getD undef) (j+3)/\∀a,(e.tmps[29]?.getD undef).ownBlock=E a->f.ownBlock=E a\/m.heap.size<=a:=by simpa using (show bw 63 6 d (e.tmps.getD 29 undef) (j+3)/\∀a,(e.tmps.getD 29 undef).ownBlock=E a->f.ownBlock=E a\/m.heap.size<=a from hd ⟨15,.data⟩ (by simp) rfl)
   obtain⟨bV,b1,el⟩:=c.2.2.slice;obtain⟨u,H⟩:∃u,e.tmps[18]?.getD undef=u:=⟨_,rfl⟩;obtain⟨w,aB⟩:∃w,e.tmps[23]?.getD undef=w:=⟨_,rfl⟩;obtain⟨x,aC⟩:∃x,e.tmps[29]?.getD undef=x:=⟨_,rfl⟩;rw[H] at f1 av;rw[aB] at f2 aw;rw[aC] at f3 ax;obtain⟨bW,b2,ao⟩:=f1.slice;obtain⟨bY,b3,aq⟩:=f2.slice;obtain⟨bZ,b4,au⟩:=f3.slice;have ah:=f1;have ai:=f2;have aj:=f3;have bT:=i c
   have aE:=i (⟨ah,λa o=>⟨Nat.ne_of_lt (ah.lt a o),av a o⟩⟩:bw 63 6 d u (j+1)/\∀a,u.ownBlock=E a->a≠d.heap.size/\(f.ownBlock=E a\/m.heap.size<=a));have aF:=i (⟨ai,λa o=>⟨Nat.ne_of_lt (ai.lt a o),aw a o⟩⟩:bw 63 6 d w (j+2)/\∀a,w.ownBlock=E a->a≠d.heap.size/\(f.ownBlock=E a\/m.heap.size<=a))
   have aH:=i (⟨aj,λa o=>⟨Nat.ne_of_lt (aj.lt a o),ax a o⟩⟩:bw 63 6 d x (j+3)/\∀a,x.ownBlock=E a->a≠d.heap.size/\(f.ownBlock=E a\/m.heap.size<=a));rw[el] at J;rw[ao] at H;rw[aq] at aB;rw[au] at aC;have bO:=i el;have bP:=i ao;have bQ:=i aq;have bR:=i au;clear el ao aq au;clear f1 f2 f3 av aw ax ah ai aj c hd ad z aO aQ hl af;go_simp;have c:=k bT
   have ag:G No d (d.alloc (v #[C bV j b1,C bW (j+1) b2,C bY (j+2) b3,C bZ (j+3) b4] 61)):=(G.refl No d).alloc _;refine⟨_,rfl,⟨c.1.alloc _,c.2.1.alloc _,c.2.2.mod ag (λ_ _ s=>s)⟩,eu.alloc _ _ _ _ _,d.heap.size,u,w,x,rfl,?_,c.1.size,⟨(k aE).1.mod ag (λ_ _ s=>s),(k aE).2⟩,⟨(k aF).1.mod ag (λ_ _ s=>s),(k aF).2⟩,⟨(k aH).1.mod ag (λ_ _ s=>s),(k aH).2⟩⟩;rw[k bO,k bP,k bQ,k bR];exact X.new d _ _
  ·have bS:po m f j I 17 (e.eval (.tmp 30)) d:=hd ⟨16,.data⟩ (by simp) rfl;clear hd;refine uT _ rfl ?_;exact⟨_,rfl,c,eu.refl _ _ _ _,bS⟩
 ·intro e d M c hF;obtain⟨A,u,w,x,ay,b5⟩:=hF 17 (by decide);have ay:e.tmps.getD 5 undef=C (E ⟨A,0,F⟩) 4 4:=ay;have aN:=M.lit;rw[aN];clear aN;simp only[List.filterMap_cons,List.filterMap_nil,kE,List.foldl_nil,sD,List.set_cons_zero,List.set_cons_succ,ay];exact(k aD) _ _ _ _ _ _ _ _ _ _ _ _ _ _ _ _ _ A u w x d ⟨c.1,c.2.1,c.2.2,b5⟩
abbrev kL(I:Int) (S:Nat->Prop) (i a:U) (j f:Nat) (hs:Array V) (d:Array Nat) (e c:Nat):Prop:=jj 63 61 63 6 (aK I).toList S i a j f hs d e c
theorem GX{u a7:U} {S:Nat->Prop} {o j a e s:Nat} {hs:Array V} {t:Array Nat} {I:Int} {q cap:Nat} (B:kL I S u a7 o j hs t a e) (hv:hs[a]? =E (C (E ⟨q,0,F⟩) s cap)) (D:t[a]? =E s) (hi:e<s) (bH:a<4) (M:Exit->Act->U->Prop) (R X ak aA a5 a6 Y aa ab ad ae af ag ah ai aj am ao ap aq ar au av aw ax ay aB aC aD aE aF aH aI aL aM aN aO aQ aR aS aT aU bi bk bl bm bn bo bp aV aW aX aY aZ a0 a1 a2 a3 a4:V)
  (O:∀(bq bs bt bu bv bw bx:V) (m:U),Hid (kL I S u m o j hs t a (e+1))->M .normal ⟨#[R,X,ak,aA,b (E ⟨o,0,F⟩),C (E ⟨j,0,F⟩) 4 4,y K (a:Int),y K (e:Int),a5,a6,Y,aa,ab,ad,ae,af,ag,ah,ai,aj,am,ao,ap,aq,ar,au,av,aw,ax,ay,aB,aC,aD,aE,aF,aH,aI,aL,aM,aN,aO,aQ,aR,aS,aT,aU,bq,bs,bt,bu,bv,bw,bx,aV,aW,aX,aY,aZ,a0,a1,a2,a3,a4],[]⟩ m):
  Code.wp T (zj 8) M ⟨#[R,X,ak,aA,b (E ⟨o,0,F⟩),C (E ⟨j,0,F⟩) 4 4,y K (a:Int),y K (e:Int),a5,a6,Y,aa,ab,ad,ae,af,ag,ah,ai,aj,am,ao,ap,aq,ar,au,av,aw,ax,ay,aB,aC,aD,aE,aF,aH,aI,aL,aM,aN,aO,aQ,aR,aS,aT,aU,bi,bk,bl,bm,bn,bo,bp,aV,aW,aX,aY,aZ,a0,a1,a2,a3,a4],[]⟩ a7:=by
 conv=>arg 4;dsimp only
 conv=>arg 2;whnf
 have L:=i O;clear O
 refine zh (n:=63) (λm=>kL I S u m o j hs t a e) (λm N=>kL I S u m o j hs t a (e+1)->kL I S u N o j hs t a (e+1)) (λn p m=>match n with
  |0=>p=C (E ⟨j,0,F⟩) 4 4
  |1=>p=y K (a:Int)
  |2=>p=b (E ⟨j,a,F⟩)
  |3=>p=C (E ⟨q,0,F⟩) s cap
  |4=>p=y K (e:Int)
  |5=>p=l (aK I)
  |6=>p=b (E ⟨q,e* 6,F⟩)
  |7=>kL I S u m o j hs t a (e+1)
  |_=>True) (by kernel_rfl) rfl (by kernel_rfl) (λn p m N hs H=>?_) ?_ ?_ (B.drewN 1)
 ·revert H
  repeat' split
  all_goals first|exact id|exact hs
 ·intro n bd d m G r f hd;have bG:n<8:=(Array.getElem?_eq_some_iff.1 G).1;have w:d.eval (.tmp 4)=b (E ⟨o,0,F⟩):=r.rest 4 (by kernel_rfl);have x:d.eval (.tmp 5)=C (E ⟨j,0,F⟩) 4 4:=r.rest 5 (by kernel_rfl);have z:d.eval (.tmp 6)=y K (a:Int):=r.rest 6 (by kernel_rfl);have A:d.eval (.tmp 7)=y K (e:Int):=r.rest 7 (by kernel_rfl);clear L r;have bb:n=0\/n=1\/n=2\/n=3\/n=4\/n=5\/n=6\/n=7:=by omega
  obtain rfl|rfl|rfl|rfl|rfl|rfl|rfl|rfl:=bb
  all_goals
   replace G:=br (show E _=E bd from G);subst G
  ·clear hd;refine ib _ rfl ?_;exact⟨_,rfl,f,id,x⟩
  ·clear hd;refine ib _ rfl ?_;exact⟨_,rfl,f,id,z⟩
  ·have bz:d.tmps[46]?.getD undef=C (E ⟨j,0,F⟩) 4 4:=by simpa using (show d.tmps.getD 46 undef=_ from hd ⟨0,.data⟩ (by simp) rfl)
   have bA:d.tmps[47]?.getD undef=y K (a:Int):=by simpa using (show d.tmps.getD 47 undef=_ from hd ⟨1,.data⟩ (by simp) rfl)
   have bf:(0:Int)<=a:=by omega
   have bh:(a:Int)<4:=by omega
   have c:=i f;clear hd w x z A B f hv D;go_simp
   first|exact k c|exact⟨k c,rfl⟩|exact⟨_,rfl,k c,id,rfl⟩|exact⟨_,rfl,k c,rfl⟩|exact⟨_,rfl,k c⟩
  ·have bB:d.tmps[48]?.getD undef=b (E ⟨j,a,F⟩):=by simpa using (show d.tmps.getD 48 undef=_ from hd ⟨2,.data⟩ (by simp) rfl)
   have bE:m.cell? ⟨j,a,F⟩=E (C (E ⟨q,0,F⟩) s cap):=(f.lV.cell a).trans hv;have c:=i f;clear hd w x z A B f hv D;go_simp
   first|exact k c|exact⟨k c,rfl⟩|exact⟨_,rfl,k c,id,rfl⟩|exact⟨_,rfl,k c,rfl⟩|exact⟨_,rfl,k c⟩
  ·clear hd;refine ib _ rfl ?_;exact⟨_,rfl,f,id,A⟩
  ·clear hd;refine wp_load_mid _ _ rfl o 0 w (aK I).toList mW (f.qF.range 0 _ (λn p H=>by rw[bg];simpa using H)) oo (by kernel_rfl) (by kernel_rfl) ?_;exact⟨_,rfl,f,id,rfl⟩
  ·have bC:d.tmps[49]?.getD undef=C (E ⟨q,0,F⟩) s cap:=by simpa using (show d.tmps.getD 49 undef=_ from hd ⟨3,.data⟩ (by simp) rfl)
   have bD:d.tmps[50]?.getD undef=y K (e:Int):=by simpa using (show d.tmps.getD 50 undef=_ from hd ⟨4,.data⟩ (by simp) rfl)
   have bf:(0:Int)<=e:=by omega
   have bh:(e:Int)<(s:Int):=by omega
   have c:=i f;clear hd w x z A B f hv D;go_simp
   first|exact k c|exact⟨k c,rfl⟩|exact⟨_,rfl,k c,id,rfl⟩|exact⟨_,rfl,k c,rfl⟩|exact⟨_,rfl,k c⟩
  ·have a9:d.eval (.tmp 52)=b (E ⟨q,e* 6,F⟩):=hd ⟨6,.data⟩ (by simp) rfl;have a8:d.eval (.tmp 51)=l (aK I):=hd ⟨5,.data⟩ (by simp) rfl;obtain⟨bc,J⟩:=f.put (GV I) hv D hi;refine wp_store_mid _ _ _ rfl q (e* 6) (aK I) a9 a8 bc (by kernel_rfl) (all_oneCell_toArray (sA I)) ?_;exact⟨undef,rfl,J.GO,λ_=>J,J⟩
 ·intro d m r f hF;have ba:=hF 7 (by decide);rw[r.lit];simp only[List.filterMap_cons,List.filterMap_nil,kE,List.foldl_nil,sD,List.set_cons_zero,List.set_cons_succ];exact(k L) _ _ _ _ _ _ _ m ba
end Go.Proofs.YthhibagcpjeihaaGreat
