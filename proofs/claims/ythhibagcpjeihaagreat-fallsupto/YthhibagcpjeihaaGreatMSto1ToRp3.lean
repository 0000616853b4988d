import Derived.Test.YthhibagcpjeihaaGreatMWr1ToRd3
import Derived.Test.YthhibagcpjeihaaGreatMPg1ToWr5
import Derived.Test.YthhibagcpjeihaaGreatMRef4ToKeep1
import Derived.Test.YthhibagcpjeihaaGreatMRd6
open Go.Proofs.Tryz
open Go.Value renaming int->y,pointer->b,slice->C,bool->W,agg->l,tuple->h,ownBlock->az
open Go.IntKind renaming i64->K
open Option renaming none->F,some->E
open Go renaming World->U,Value->V
open Go.Proofs.Tryz renaming prog->T
open Go.Ending renaming returned->g
open Go.Obj renaming cells->v
open Nat renaming lt_of_lt_of_le->aG,le_trans->bF,le_refl->bK
open List renaming length_append->aJ,append_assoc->bI,eq_nil_of_length_eq_zero->fS,length_take->dj,length_cons->dP,append_nil->dR,length_nil->im,foldl_cons->kE,range->iq
open Go.World renaming size_alloc->bj,ownsRow_nil->cJ,block_lt_of_cell?->jA,size_setCell->kx
open Go.Act renaming eval->Z,put->aP
open Go.Region renaming wanted->gM
open Bool renaming false_eq_true->kg
open Int renaming tmod_eq_emod_of_nonneg->qi,tdiv_eq_ediv_of_nonneg->rK
open Go.Oper renaming wp->eT
namespace Go.Proofs.YthhibagcpjeihaaGreat
open Go.RowKit
open M
set_option linter.unusedVariables false
set_option linter.unusedSimpArgs false
set_option maxRecDepth 100000
set_option maxHeartbeats 4000000
def rV(a:u) (c:Nat):Int:=if a.room<(a.used:Int)+c then 15 else 0
def dS(c:u) (a:Nat) (d:List Int):Bool×u:=if (lC c a d).1=true then eX (lC c a d).2 a else(false,(lC c a d).2)
def fM(a:u) (d:Nat) (c:List Int):Int×u:=
 if a.room<(a.used:Int)+c.length then(15,a) else if (dS a d c).1=true then(0,(dS a d c).2) else(16,(dS a d c).2)
theorem ya{j:U} {S:Nat->Prop} {r tb:Nat} {a:u} {cs:Array V} (o:X j r cs 121) (p:cs[30]? =E (b (E ⟨tb,0,F⟩))) (q:ae j S tb a) (c:Nat) (w:c<=17592186044416):Calls T 106 #[b (E ⟨r,30,F⟩),y K c] j λn w'=>n=g (y K (rV a c))/\G No j w':=by
 have s:=o.cell 30;rw[p] at s;have lt:=o.lt;have e:=i (Dy q c (by omega) (by omega));unfold rV;clear o q p;by_cases f:a.room<(a.used:Int)+c
 ·rw[if_pos f];have hd:decide ((a.used:Int)+c<=a.room)=false:=by simp;omega
  rw[hd] at e;clear f hd;go_enter func106,ntmps106;go_wp2_with fail;refine(k e).mono ?_;rintro n t ⟨rfl,d⟩;have m:=i d;clear d;go_wp2;go_ret;exact⟨rfl,k m⟩
 ·rw[if_neg f];have hd:decide ((a.used:Int)+c<=a.room)=true:=by simp;omega
  rw[hd] at e;clear f hd;go_enter func106,ntmps106;go_wp2_with fail;refine(k e).mono ?_;rintro n t ⟨rfl,d⟩;have m:=i d;clear d;go_wp2;go_ret;exact⟨rfl,k m⟩
theorem yc{c:U} {e:Nat} {cs:Array V} (a:X c e cs 121) (d:cs[30]? =E (b F)) (j:Int):Calls T 106 #[b (E ⟨e,30,F⟩),y K j] c λi w'=>i=g (y K 17)/\w'=c:=by
 have f:=a.cell 30;rw[d] at f;have lt:=a.lt;clear a d;go_enter func106,ntmps106;go_wp2;go_ret;exact⟨rfl,rfl⟩
theorem qs{c:U} {f:Nat} {cs:Array V} (a:X c f cs 121) (d:Bool) (e:cs[32]? =E (W d)):Calls T 78 #[b (E ⟨f,30,F⟩)] c λj w'=>j=g (W d)/\w'=c:=by
 have i:=a.cell 32;rw[e] at i;have lt:=a.lt;clear a e;go_enter func78,ntmps78;go_wp2;go_ret;exact⟨rfl,rfl⟩
theorem rW{d:U} {c:Nat} {cs:Array V} (a:X d c cs 121) (j:V) (e:cs[30]? =E j):Calls T 108 #[b (E ⟨c,30,F⟩)] d λi w'=>i=g (y K 16)/\w'=d.setCell ⟨c,30,F⟩ (b F):=by
 have f:=a.cell 30;rw[e] at f;have lt:=a.lt;have k:=a.frozen;clear a e;go_enter func108,ntmps108;go_wp2;go_ret;exact⟨rfl,rfl⟩
theorem yd{e:U} {S:Nat->Prop} {z tb:Nat} {n:u} {cs:Array V} (r:X e z cs 121) (B:cs[30]? =E (b (E ⟨tb,0,F⟩))) (ai:¬S z) (x:ae e S tb n) (c:Nat) (hi:c<4) (s:Option Addr) (q:Nat) (a:List Int) (I:Reads e (C s a.length q) a.length (cg a)) (J:(C s a.length q).ownBlock≠E tb) (aj:∀M∈a,0<=M/\M<256) (hl:(n.b c).length+a.length<=17592186044416):
  Calls T 107 #[b (E ⟨z,30,F⟩),y K c,C s a.length q] e λf w'=>f=g (W (dS n c a).1)/\ae w' (λd=>S d\/e.heap.size<=d) tb (dS n c a).2/\G S e w':=by
 have D:=r.cell 30;rw[B] at D;have lt:=r.lt;have p:=i (Dz x c hi s q a I J aj hl);have Y:=i x.cd;have R:=i r;unfold dS;clear I r x;generalize ah:a.length=aq at *;clear ah J;generalize lC n c a=N at *;obtain⟨ad,A⟩:=N;simp only at p ⊢
 cases ad with
 |false=>
  rw[if_neg (by simp)];go_enter func107,ntmps107;go_wp2_with fail;refine(k p).mono ?_;rintro f ak ⟨rfl,o,j⟩;have P:=i o;have t:=i j;clear o j;go_wp2;go_ret;exact⟨rfl,k P,k t⟩
 |true=>
  rw[if_pos rfl];have m:=i λab (ag:ae ab (λd=>S d\/e.heap.size<=d) tb A)=>ug ag c hi;generalize eX A c=O at *;obtain⟨ao,am⟩:=O;simp only at m ⊢;go_enter func107,ntmps107;go_wp2_with fail;refine(k p).mono ?_;rintro f ak ⟨rfl,o,j⟩;have w:=j.has (k R) ai;have af:=w.cell 30;rw[B] at af;have ap:=w.lt;have m:=i ((k m) _ o);have t:=i j;clear o j w p D;go_wp2_with fail;refine(k m).mono ?_
  rintro f ar ⟨rfl,H,L⟩;have Q:=i H;have aa:=i ((k t).trans (L.mono (λd _ (f:d=tb)=>by rw[f];exact k Y)));clear H L m;go_wp2;go_ret;exact⟨rfl,k Q,k aa⟩
theorem ye{o:U} {S:Nat->Prop} {e tb:Nat} {n:u} {cs:Array V} (z:X o e cs 121) (Y:cs[30]? =E (b (E ⟨tb,0,F⟩))) (ab:¬S e) (M:ae o S tb n) (q:Nat) (hi:q<2) (ag:cs[31]? =E (y K q)) (N:Option Addr) (J:Nat) (d:List Int) (ai:Reads o (C N d.length J) d.length (cg d)) (aj:(C N d.length J).ownBlock≠E tb) (ah:∀c∈d,0<=c/\c<256) (hl:(n.b q).length+d.length<=17592186044416):
  Calls T 80 #[b (E ⟨e,30,F⟩),C N d.length J] o λm w'=>m=g (y K (fM n q d).1)/\ae w' (λa=>S a\/o.heap.size<=a) tb (fM n q d).2/\X w' e (if (fM n q d).1=16 then cs.setIfInBounds 30 (b F) else cs) 121/\G (λa=>S a\/a=e) o w':=by
 have r:=i (ya z Y M d.length (by omega));have w:=i λaf (L:G No o af)=>(yd (L.has z (λc=>c)) Y ab (M.aD L) q (by omega) N J d (ai.mod L (λ_ _ c=>c)) aj ah hl).mono λm w' ⟨ax,ay,aA⟩=>(⟨ax,ay.wide (λa f=>f.imp id (λf=>bF L.size f)),aA⟩:m=_/\ae w' (λa=>S a\/o.heap.size<=a) tb (dS n q d).2/\G S af w');have P:=i z;have aq:=i M;have lt:=z.lt;have Q:=i ab;clear z M ai aj hl ah ab;unfold fM rV at *
 by_cases A:n.room<(n.used:Int)+d.length
 ·rw[if_pos A] at r ⊢;rw[if_neg (show ¬((15:Int),n).1=16 by simp)];have ap:=i A;generalize d.length=aw at *;clear A ap w;go_enter func80,ntmps80;go_wp2_with fail;refine(k r).mono ?_;rintro m ak ⟨rfl,j⟩;have s:=i j;clear j;go_wp2;go_ret;exact⟨rfl,((k aq).aD (k s)).wide (λ_ f=>.inl f),(k s).has (k P) (λc=>c),(k s).mono (λ_ _ c=>c.elim)⟩
 ·rw[if_neg A] at r ⊢;clear A;generalize dS n q d=am at *;obtain⟨au,ar⟩:=am;generalize d.length=aw at *;simp only at w
  cases au with
  |true=>
   simp only[if_true];rw[if_neg (by decide)];go_enter func80,ntmps80;go_wp2_with fail;refine(k r).mono ?_;rintro m ak ⟨rfl,j⟩;have p:=j.has (k P) (λc=>c);have R:=p.cell 31;rw[ag] at R;have av:=p.lt;have x:=i ((k w) _ j);have O:=i p;have s:=i j;clear p j r w;go_wp2_with fail;refine(k x).mono ?_;rintro m B ⟨rfl,t2,t⟩;have I:=i t2;have D:=i (t.has (k O) (k Q))
   have H:=i (((k s).mono (S':=λa=>S a\/a=e) (λ_ _ c=>c.elim)).trans (t.mono (λ_ _ f=>.inl f)));clear t2 t x;go_wp2;go_ret;exact⟨rfl,k I,k D,k H⟩
  |false=>
   simp only[kg,if_false];rw[if_pos trivial];go_enter func80,ntmps80;go_wp2_with fail;refine(k r).mono ?_;rintro m ak ⟨rfl,j⟩;have p:=j.has (k P) (λc=>c);have R:=p.cell 31;rw[ag] at R;have av:=p.lt;have x:=i ((k w) _ j);have O:=i p;have s:=i j;clear p j r w;go_wp2_with fail;refine(k x).mono ?_;rintro m B ⟨rfl,t2,t⟩;have aa:=t.has (k O) (k Q);have ad:=i (rW aa _ Y);have I:=i t2;have D:=i aa
   have H:=i (((k s).mono (S':=λa=>S a\/a=e) (λ_ _ c=>c.elim)).trans (t.mono (λ_ _ f=>.inl f)));clear t2 t aa x;go_wp2_with fail;refine(k ad).mono ?_;rintro m w3 ⟨rfl,rfl⟩
   have ao:=i (show ae (B.setCell ⟨e,30,F⟩ (b F)) (λa=>S a\/o.heap.size<=a) tb ar/\X (B.setCell ⟨e,30,F⟩ (b F)) e (cs.setIfInBounds 30 (b F)) 121/\G (λa=>S a\/a=e) o (B.setCell ⟨e,30,F⟩ (b F)) from
    ⟨(k I).mod (S':=λa=>a=e) ((G.refl _ B).at 30 _) (λa f m=>by
      subst m
      obtain f|f:=f
      ·exact k Q f
      ·omega),(k D).set 30 _,(k H).setCell (p:=⟨e,30,F⟩) (.inl (.inr rfl)) _⟩)
   clear ad D H I;go_wp2;go_ret;exact⟨rfl,k ao⟩
theorem Fp{a:U} {f:Nat} {cs:Array V} (e:X a f cs 121) (c:cs[30]? =E (b F)) (o:Option Addr) (j n:Nat):Calls T 80 #[b (E ⟨f,30,F⟩),C o j n] a λd w'=>d=g (y K 17)/\w'=a:=by
 have m:=i (yc e c (j:Int));clear e c;go_enter func80,ntmps80;go_wp2_with fail;refine(k m).mono ?_;rintro d p ⟨rfl,rfl⟩;go_wp2;go_ret;exact⟨rfl,rfl⟩
theorem yg{c w':U} (e:G No c w') {a:Addr} {d:V} (hc:c.cell? a=E d):w'.cell? a=E d:=by
 have hl:=jA c a hc;unfold World.cell? at hc ⊢;rw[e.block _ hl (λf=>f)];exact hc
def jY(now:Int) (es:List o) (a:Nat):Int:=(es.take a).foldl fm now
theorem Fq(now:Int) (es:List o) (a:Nat) (hi:a<es.length):jY now es (a+1)=fm (jY now es a) es[a]:=by
 unfold jY;rw[List.take_succ_eq_append_getElem hi,List.foldl_append];rfl
def iv(now:Int) (es:List o) (a:Nat):List Int:=fq now (es.take a)
theorem yh(now:Int) (es fs:List o):fq now (es++fs)=fq now es++fq (es.foldl fm now) fs:=by
 induction es generalizing now with
 |nil=>rfl
 |cons c es a=>simp only[List.cons_append,fq,a,bI,kE]
theorem Fs(now:Int) (es:List o) (a:Nat) (hi:a<es.length):iv now es (a+1)=iv now es a++fk (jY now es a) es[a]:=by
 unfold iv jY;rw[List.take_succ_eq_append_getElem hi,yh];simp[fq]
theorem dp.start{w w':U} {now:Int}:bM (λa=>w.heap.size<=a) (w.alloc (v #[C F 0 0,y K now] 193)) w.heap.size (C F 0 0) [] now:=
 ⟨X.new w _ _,cJ _ _ _ _,λa c=>by simp[az] at c,bK _,by simp⟩
structure qt (w w':U) (v:V) (l:List Int):Prop where
 row:w'.ownsRow 0 5 1 v l.length (cg l)
 new:∀k,v.ownBlock=E k->w.heap.size<=k
 mod:G No w w'
theorem yi(now:Int) (u M e cap:Nat) (c:U) (es:List o) (ah:es.length=e) (aY:1<=e/\e<=21) (w:Nat->Int) (z:Nat->TypeId) (A:Nat->V) (hc:∀a,a<e->c.cell? ⟨u,M+a* 2,F⟩=E (y K (w a))/\c.cell? ⟨u,M+a* 2+1,F⟩=E (.iface (z a) (A a))) (hb:u<c.heap.size) (hlen:∀a,a<=e->(iv now es a).length<=500000)
  (D:∀a (hi:a<es.length) t,G No c t->∀P xs,xs.length<=600000->(∃f,bM (λd=>c.heap.size<=d) t P f xs (jY now es a))->Calls T 110 #[b (E ⟨P,0,F⟩),l #[y K (w a),.iface (z a) (A a)]] t λj ax=>j=g (h #[])/\dp (λd=>c.heap.size<=d) t ax P (xs++fk (jY now es a) es[a]) (fm (jY now es a) es[a])):
  Calls T 81 #[y K now,C (E ⟨u,M,F⟩) e cap] c λj w'=>∃f,j=g f/\qt c w' f (ag now es):=by
 have X:=i (jI (O:=λd=>c.heap.size<=d) ⟨_,dp.start (w:=c) (w':=c) (now:=now)⟩ (λd p=>bF ((G.refl No c).alloc _).size p) (by simp) (e:Int) (by omega));have Y:=i ((G.refl No c).alloc (v #[C F 0 0,y K now] 193));have R:=i hc;have H:=i hlen;have D:=i D;have ak:=i hb;have s:=i ah;have ar:=i (Fq now es);have am:=i (Fs now es);obtain⟨aI,aL,aM,aO,r⟩:=info_parts oV;clear hc hlen ah;go_enter func81,ntmps81
 go_wp2_with fail;refine(k X).mono ?_;rintro j O ⟨rfl,x⟩;have B:=i x;have aH:=x.mod.size;clear x X;go_wp2_with fail;go_loopw [15] (λN wr=>∃a:Nat,N=y K a/\a<=e/\Hid (G No c wr)/\Hid (∃f,bM (λd=>c.heap.size<=d) wr c.heap.size f (aN (e:Int)++iv now es a) (jY now es a))) (λN _=>e - (intOf N).toNat)
 case atStart=>
  refine⟨0,rfl,by omega,?_,?_⟩
  ·exact(k Y).trans' (k B).mod (λd (aK:c.heap.size<=d) p=>by omega)
  ·have:=(k B).ex;rw[List.nil_append] at this;show Hid (∃f,bM (λd=>c.heap.size<=d) O c.heap.size f (aN (e:Int)++[]) now);rw[dR];exact this
 case round=>
  obtain⟨a,rfl,hi,n,J⟩:=hrel;clear B aH Y;by_cases af:a<e
  ·have aF:(a:Int)<(e:Int):=by omega
   have aU:(0:Int)<=a:=by omega
   have aV:K.wrap ((a:Int)+1)=((a+1:Nat):Int):=by rw[aB _ (by omega) (by omega)];rfl
   have aR:=yg (k n) ((k R) a af).1;have ad:=yg (k n) ((k R) a af).2;have aQ:=aG (k ak) (k n).size;have m:G No wr (wr.alloc (v #[y K (w a),.iface (z a) (A a)] 125)):=(G.refl _ _).alloc _
   have S:=i ((k D) a (by have:=k s;omega) _ ((k n).trans m) c.heap.size (aN (e:Int)++iv now es a) (by
    have x:=(k H) a hi
    have aT:=(dk (e:Int)).2
    simp only[aJ]
    omega) (by
    obtain⟨f,hv⟩:=k J
    exact⟨f,hv.mod m (λ_ _ Q=>Q)⟩))
   have I:=i m;clear m;generalize z a=a0 at *;generalize A a=a3 at *;generalize w a=aS at *;go_wp2_with fail;refine(k S).mono ?_;rintro j w3 ⟨rfl,r⟩;have ae:a<es.length:=by have:=k s;omega
   have ay:=i r.ex;have aw:=i (((k n).trans (k I)).trans' r.mod (λd (aK:c.heap.size<=d) p=>by omega));have ai:=i ((k ar) a ae);have aj:=i ((k am) a ae);clear r S;go_wp2;refine⟨⟨a+1,rfl,by omega,aw,?_⟩,by simp[intOf];omega⟩;rw[k ai,k aj,<-bI];exact ay
  ·have aF:¬(a:Int)<(e:Int):=by omega
   obtain rfl:a=e:=by omega
   obtain⟨f,hv⟩:=k J;obtain⟨aa,ab,rfl⟩:=aC hv.row;have hc:wr.cell? ⟨c.heap.size,0,F⟩=E (C aa (aN (a:Int)++iv now es a).length ab):=hv.has.cell 0;have aX:=hv.has.lt;have m:G No wr (wr.alloc (v #[.int .u8 229] 5)):=(G.refl _ _).alloc _;have ao:=i (m.owns hv.row (λ_ _ Q=>Q));have ap:=i (rG wr 229 5);have au:=i hv;have hlen:=(k H) a hi;have aW:=(dk (a:Int)).2
   have av:=i (show(aN (a:Int)++iv now es a).length=(aN (a:Int)).length+(iv now es a).length by simp)
   have aq:=i (show ag now es=aN (a:Int)++iv now es a++[229] from by
    unfold ag iv
    rw[k s,List.take_of_length_le (by have:=k s;omega)])
   have I:=i ((k n).trans m);clear hv m hlen J;generalize aD:aN (a:Int)++iv now es a=q at *;clear aD;have aZ:q.length<=600000:=by have:=k av;have:=(k H) a hi;omega
   go_wp2_with (at_builtin;refine eI rfl (.tmp 23) (.tmp 24) 103 rfl 5 aI _ 1 1 underlying103 aL aM aO r rfl (by decide) (C aa q.length ab) q.length (cg q) (by simp[Z]) (by exact k ao) (C (E ⟨wr.heap.size,0,F⟩) 1 1) 1 [.int .u8 229] (by simp[Z]) (by exact k ap) rfl (by intro a1 hu;simp at hu;subst hu;rfl) (by unfold maxLen;omega) (by omega) ?_;intro a2 O L aE hs;obtain⟨aA,ad,rfl⟩:=aC L);go_ret
   have hv:=k au;refine⟨_,rfl,?_⟩;show qt c O (C aA (q.length+1) ad) (ag now es);rw[k aq];refine⟨?_,λd p=>?_,(k I).grown aE (λd p=>.inr (hv.own d p).1)⟩
   ·unfold cg at L ⊢;rw[aJ,List.map_append];exact L
   ·obtain j|j:=hs d p
    ·exact(hv.own d j).1
    ·rw[bj] at j;have:=(k n).size;omega
def dh(a:o):V:=
 if a.kind=1 then jf a.p
 else if a.kind=2 then eM a.bV.row a.bV.P a.bV.st a.bV.pa a.bV.cl a.bV.un
 else if a.kind=3 then lE a.bV.row a.bV.P
 else if a.kind=4 then nQ a.bV.row a.bV.P a.bN a.bO
 else if a.kind=5 then mH a.p
 else my a.now
structure gN (now:Int) (e:o):Prop where
 kind:1<=e.kind/\e.kind<=6
 fl:e.kind≠6->0<=e.fl/\e.fl<32
 start:e.kind=1->(0<=e.p.rows/\e.p.rows<128)/\(0<=e.p.w/\e.p.w<128)/\(0<=e.p.front/\e.p.front<128)/\∀k,0<=e.p.aZ k/\e.p.aZ k<16384
 fill:e.kind=2->jJ now e.bV
 at_:e.kind=3\/e.kind=4->(1<=e.bV.row/\e.bV.row<=20)/\(1<=e.bV.P/\e.bV.P<=6)
 dest:e.kind=4->(1<=e.bN/\e.bN<=20)/\(1<=e.bO/\e.bO<=6)
 uB:e.kind=5->(0<=e.p.rows/\e.p.rows<128)/\(0<=e.p.w/\e.p.w<128)/\(0<=e.p.front/\e.p.front<128)
 pass:e.kind=6->0<=now/\now<=e.now/\e.now<=4611686018427387904
theorem yj{n:Nat->Prop} {m:U} {r:Nat} {xs:List Int} {now:Int} (d:∃A,bM n m r A xs now) (e:eB n m) (hl:xs.length<1099511627600) (a:o) (hf:gN now a):Calls T 110 #[b (E ⟨r,0,F⟩),l #[y K a.fl,dh a]] m λz w'=>z=g (h #[])/\dp n m w' r (xs++fk now a) (fm now a):=by
 unfold dh fk fm;have B:=hf.kind;by_cases i:a.kind=1
 ·rw[if_pos i,if_pos i,if_neg (by omega)];obtain⟨t,u,w,x⟩:=hf.start i;exact Fg d e hl a.fl (hf.fl (by omega)) a.p ⟨by omega,by omega,by omega,λs=>by have:=x s;omega⟩
 rw[if_neg i,if_neg i];by_cases j:a.kind=2
 ·rw[if_pos j,if_pos j,if_neg (by omega)];exact Fh d e hl a.fl (hf.fl (by omega)) a.bV (hf.fill j)
 rw[if_neg j,if_neg j];by_cases f:a.kind=3
 ·rw[if_pos f,if_pos f,if_neg (by omega)];exact Fi d e hl a.fl (hf.fl (by omega)) _ _ (hf.at_ (.inl f)).1 (hf.at_ (.inl f)).2
 rw[if_neg f,if_neg f];by_cases c:a.kind=4
 ·rw[if_pos c,if_pos c,if_neg (by omega)];exact Fj d e hl a.fl (hf.fl (by omega)) _ _ _ _ (hf.at_ (.inr c)).1 (hf.at_ (.inr c)).2 (hf.dest c).1 (hf.dest c).2
 rw[if_neg c,if_neg c];by_cases k:a.kind=5
 ·rw[if_pos k,if_pos k,if_neg (by omega)];obtain⟨t,u,w⟩:=hf.uB k;exact Fk d e hl a.fl (hf.fl (by omega)) _ _ _ (by omega) (by omega) (by omega)
 rw[if_neg k,if_neg k];have p:a.kind=6:=by omega
 rw[if_pos p,if_pos p];have q:=hf.pass p;exact Fl d e hl a.fl a.now ⟨q.1,q.2.1,q.2.2⟩
theorem rX{now:Int} {a:o} (hf:gN now a):(fk now a).length<=40:=by
 unfold fk;have u:=hf.kind;by_cases d:a.kind=1
 ·rw[if_pos d];obtain⟨w,x,z,c⟩:=hf.start d;have k:=rU a.p;have m:=gW (c 0).2;have n:=gW (c 1).2;have p:=gW (c 2).2;have q:=gW (c 3).2;simp only[gA,dP,aJ];simp only[O.aZ] at m n p q;omega
 rw[if_neg d];by_cases e:a.kind=2
 ·rw[if_pos e];have:=xQ now a.bV;simp only[dP];omega
 rw[if_neg e];have k:=(dk ((a.bV.row - 1)* 6+a.bV.P - 1)).2;have r:=(dk ((a.bN - 1)* 6+a.bO - 1)).2;have s:=rU a.p;have t:=(dk (a.now - now)).2;by_cases f:a.kind=3
 ·rw[if_pos f];simp only[eV,dP];omega
 rw[if_neg f];by_cases i:a.kind=4
 ·rw[if_pos i];simp only[eV,dP,aJ];omega
 rw[if_neg i];by_cases j:a.kind=5
 ·rw[if_pos j];simp only[dP];omega
 rw[if_neg j,if_pos (by omega)];simp only[dP];omega
def jg(a:Int):Prop:=0<=a/\a<256
theorem dT{d e:List Int} (f:∀a∈d,jg a) (i:∀a∈e,jg a):∀a∈d++e,jg a:=λa hb=>by
 obtain c|c:=List.mem_append.1 hb
 ·exact f a c
 ·exact i a c
theorem all_cons{a:Int} {e:List Int} (f:jg a) (i:∀c∈e,jg c):∀c∈a::e,jg c:=λc hb=>by
 obtain d|d:=List.mem_cons.1 hb
 ·subst d;exact f
 ·exact i c d
theorem all_nil:∀a∈([]:List Int),jg a:=λa hb=>by cases hb
theorem dG{a:Int} (d:a<9223372036854775808):∀c∈aN a,jg c:=C8 d
theorem yk{now:Int} {a:B} (e:jJ now a):∀c∈gi now a,jg c:=by
 obtain⟨i,j,k,m,n,f,o⟩:=e;unfold gi eV;refine dT (dT (dT (dG (by omega)) (dG (by omega))) ?_) ?_
 ·split
  ·exact all_nil
  ·exact dG (by omega)
 ·split
  ·rename_i d;have:=f d;exact dG (by omega)
  ·exact all_nil
theorem ym{now:Int} {a:o} (hf:gN now a):∀m∈fk now a,jg m:=by
 unfold fk;have s:=hf.kind;have c:=hf.fl;by_cases f:a.kind=1
 ·rw[if_pos f];obtain⟨t,u,w,e⟩:=hf.start f;have n:=e 0;have p:=e 1;have q:=e 2;have r:=e 3;simp only[O.aZ] at n p q r;have:=c (by omega);refine all_cons ⟨by omega,by omega⟩ ?_;unfold gA jC;exact dT (dT (dT (dT (dT (dT (dG (by omega)) (dG (by omega))) (dG (by omega))) (dG (by omega))) (dG (by omega))) (dG (by omega))) (dG (by omega))
 rw[if_neg f];by_cases i:a.kind=2
 ·rw[if_pos i];have:=c (by omega);exact all_cons ⟨by omega,by omega⟩ (yk (hf.fill i))
 rw[if_neg i];by_cases j:a.kind=3
 ·rw[if_pos j];have:=c (by omega);have:=hf.at_ (.inl j);exact all_cons ⟨by omega,by omega⟩ (dG (by omega))
 rw[if_neg j];by_cases d:a.kind=4
 ·rw[if_pos d];have:=c (by omega);have:=hf.at_ (.inr d);have:=hf.dest d;exact all_cons ⟨by omega,by omega⟩ (dT (dG (by omega)) (dG (by omega)))
 rw[if_neg d];by_cases k:a.kind=5
 ·rw[if_pos k];have:=c (by omega);have:=hf.uB k;exact all_cons ⟨by omega,by omega⟩ (dT (dT (dG (by omega)) (dG (by omega))) (dG (by omega)))
 rw[if_neg k,if_pos (by omega)];have:=hf.pass (by omega);exact all_cons ⟨by omega,by omega⟩ (dG (by omega))
theorem uC{now:Int} {a:o} (hf:gN now a):(ag now [a]).length<=42:=by
 have:=rX hf;have c:aN (([a]:List o).length:Int)=[1]:=xm (by simp) (by simp);unfold ag;rw[c];simp only[fq,aJ,dP,im,dR];omega
theorem yn{now:Int} {a:o} (hf:gN now a):∀c∈ag now [a],0<=c/\c<256:=by
 have d:aN (([a]:List o).length:Int)=[1]:=xm (by simp) (by simp);unfold ag;rw[d];simp only[fq,dR];exact dT (dT (all_cons ⟨by omega,by omega⟩ all_nil) (ym hf)) (all_cons ⟨by omega,by omega⟩ all_nil)
structure aO where
 tb:Nat
 file:Nat
 torn:Bool
 live:Bool
 T:u
def dq(c:Nat) (a:O×List B):o:=
 ⟨c,if a.1.ep=1 then 1 else 7,a.1,jc,0,0,0,a.2.filter λd=>d.st !=0⟩
def dH(now:Int) (c:Nat->Option (O×List B)):List o:=
 (if 0<now then[⟨0,6,⟨0,0,0,0,0,0,0,0⟩,jc,0,0,now,[]⟩] else[])++(iq 21).filterMap λa=>(c a).map (dq a)
def ay(now:Int) (a:Nat->Option (O×List B)):List Int:=if dH now a=[] then[] else ag 0 (dH now a)
def gp(a:aO) (c:List Int):Int×aO:=
 if a.live=false then(17,a) else((fM a.T a.file c).1,{ a with T:=(fM a.T a.file c).2,live:=(fM a.T a.file c).1 !=16 })
def iw(a:aO) (e:List Int):Int×aO:=
 if a.live=false then(17,a)
 else if a.T.room<(a.T.used:Int)+e.length then(15,a)
 else
  let d:=if e=[] then(true,a.T) else dS a.T (1 - a.file) e
  if d.1=false then(16,{ a with T:=d.2,live:=false })
  else
   let c:=dQ d.2 a.file
   if c.1=false then(16,{ a with T:=c.2,live:=false }) else(0,{ a with T:=c.2,file:=1 - a.file,torn:=false })
def cV(a:aO) (c d:List Int):Int×aO:=
 if a.torn=true then(if (iw a c).1=0 then gp (iw a c).2 d else iw a c) else gp a d
structure cW (w:U) (ow:Nat->Nat) (kb:Nat) (now:Int) (pt:Nat->Option Nat) (fl:Nat->Option (O×List B)) (K:aO):Prop where
 keep:cF w ow kb now pt fl
 ptr:pt 29=if K.live=true then E K.tb else F
 file:mL pt=K.file
 torn:lJ pt=K.torn
 tape:ae w (λk=>ow k=30) K.tb K.T
theorem cW.mod{w w':U} {i:Nat->Nat} {m:Nat} {now:Int} {pt:Nat->Option Nat} {k:Nat->Option (O×List B)} {j:aO} {S:Nat->Prop} (d:cW w i m now pt k j) (e:G S w w') (hs:∀a,i a≠0->¬S a):cW w' i m now pt k j:=by
 have c:=d.keep;refine⟨⟨e.has c.has (hs _ (by rw[c.aW];omega)),c.aW,λa f=>aG (c.aU a f) e.size,c.gone,λt u s r hf=>?_⟩,d.ptr,d.file,d.torn,d.tape.mod e (λa f=>hs a (by omega))⟩;obtain⟨n,o,p,q⟩:=c.here t u s r hf;exact⟨n,o,p,q.mod e (λa f=>hs a (by omega))⟩
theorem cW.aD{f w':U} {e:Nat->Nat} {d:Nat} {now:Int} {pt:Nat->Option Nat} {c:Nat->Option (O×List B)} {a:aO} (i:cW f e d now pt c a) (j:G No f w'):cW w' e d now pt c a:=i.mod j (λ_ _ k=>k)
theorem mO(now:Int) (pt:Nat->Option Nat):(cD now pt)[30]? =E (aL (pt 29)):=rfl
theorem qu(now:Int) (pt:Nat->Option Nat):(cD now pt)[31]? =E (y K (mL pt)):=rfl
theorem oc(now:Int) (pt:Nat->Option Nat):(cD now pt)[32]? =E (W (lJ pt)):=rfl
def lN(pt:Nat->Option Nat):Nat->Option Nat:=λa=>if a=29 then F else pt a
theorem yo(now:Int) (pt:Nat->Option Nat):(cD now pt).setIfInBounds 30 (b F)=cD now (lN pt):=rfl
def od(pt:Nat->Option Nat) (a:Int):Nat->Option Nat:=if a=16 then lN pt else pt
theorem pd(pt:Nat->Option Nat) (a:Int) (j:Nat) (c:j≠29):od pt a j=pt j:=by
 unfold od lN;split
 ·exact if_neg c
 ·rfl
def kH(e:Nat->Nat) (d c:Nat):Nat->Nat:=λa=>if a<d then e a else if a<c then 30 else 0
theorem cF.ow{i:U} {e f:Nat->Nat} {d:Nat} {now:Int} {pt:Nat->Option Nat} {j:Nat->Option (O×List B)} (c:cF i e d now pt j) (m:Nat) (k:∀a,a<m->f a=e a) (hl:∀a,e a≠0->a<m) (t:∀a,f a≠0->a<i.heap.size):cF i f d now pt j:=by
 refine⟨c.has,?_,t,c.gone,λw x u s hf=>?_⟩
 ·rw[k d (hl d (by rw[c.aW];omega))];exact c.aW
 ·obtain⟨n,o,p,q⟩:=c.here w x u s hf;exact⟨n,o,p,q.wide (λa r=>by rw[k a (hl a (by omega))];exact r)⟩
theorem cW.laid{n w':U} {d:Nat->Nat} {m:Nat} {now:Int} {pt:Nat->Option Nat} {r:Nat->Option (O×List B)} {o:aO} {i:Nat} {e:Int} {w:u} (p:cW n d m now pt r o) (L:n.heap.size<=i) (R:w'.heap.size>=i) (J:o.live=true) (M:ae w' (λa=>d a=30\/i<=a) o.tb w) (H:X w' m (if e=16 then(cD now pt).setIfInBounds 30 (b F) else cD now pt) 121) (t:G (λa=>d a=30\/a=m) n w'):
  cW w' (kH d i w'.heap.size) m now (od pt e) r { o with T:=w,live:=e !=16 }/\(∀a,a<n.heap.size->kH d i w'.heap.size a=d a)/\G (λa=>d a≠0) n w':=by
 have j:=p.keep;have hold:∀a,d a≠0->a<i:=λa c=>aG (j.aU a c) L;have I:cD now (od pt e)=(if e=16 then(cD now pt).setIfInBounds 30 (b F) else cD now pt):=by
  unfold od;split
  ·rw[yo]
  ·rfl
 refine⟨⟨?_,?_,?_,?_,?_⟩,λa c=>if_pos (by omega),t.mono (λa _ f=>by
  obtain f|f:=f
  ·show d a≠0;omega
  ·show d a≠0;rw[f,j.aW];omega)⟩
 ·have N:cF w' d m now (od pt e) r:=by
   refine⟨by rw[I];exact H,j.aW,λa c=>aG (j.aU a c) t.size,λk s hf=>by rw[pd pt e k (by omega)];exact j.gone k s hf,λk Q P s hf=>?_⟩;obtain⟨x,z,A,D⟩:=j.here k Q P s hf;refine⟨x,by rw[pd pt e k (by omega)];exact z,A,D.mod t (λa c f=>?_)⟩;obtain f|f:=f
   ·omega
   ·rw[f,j.aW] at c;omega
  refine N.ow i (λa c=>if_pos c) hold (λa c=>?_);unfold kH at c;split at c
  ·omega
  ·split at c
   ·assumption
   ·exact absurd rfl c
 ·unfold od lN;by_cases q:e=16
  ·rw[if_pos q,if_pos rfl];simp[q]
  ·rw[if_neg q,p.ptr,if_pos J];simp[q]
 ·have:=p.file;unfold mL at this ⊢;rw[pd pt e 30 (by omega)];exact this
 ·have:=p.torn;unfold lJ at this ⊢;rw[pd pt e 31 (by omega)];exact this
 ·refine M.narrow.wide (λa ⟨c,hl⟩=>?_);show kH d i w'.heap.size a=30;unfold kH;obtain c|c:=c
  ·rw[if_pos (hold a (by omega))];exact c
  ·rw[if_neg (by omega),if_pos hl]
def lO(c a d e:Nat):Bool:=decide (0<c)&&(decide (a=0)||decide (d<e))
def kI(a:Int) (c:Nat) (d:V) (all:Bool):V:=l #[y K a,y K c,d,W all]
theorem yp(n:U) (t j:Int) (c d e f p q:Nat) (a o:Option Addr) (u w:Bool):Calls T 70 #[kI t c (C a e p) u,kI j d (C o f q) w] n λx w'=>x=g (W (lO e f c d))/\G No n w':=by
 have m:=i (((G.refl No n).alloc (v #[y K t,y K c,C a e p,W u] 155)).alloc (v #[y K j,y K d,C o f q,W w] 155));unfold kI lO;by_cases z:0<e
 case neg=>
  obtain rfl:e=0:=by omega
  go_enter func70,ntmps70;go_wp2;go_ret;exact⟨rfl,k m⟩
 have B:(0:Int)<e:=by omega
 have hd:decide (0<e)=true:=by simpa using z
 rw[hd];clear hd;by_cases r:f=0
 ·subst r;go_enter func70,ntmps70;go_wp2;go_ret;exact⟨rfl,k m⟩
 have D:((f:Int)==0)=false:=by simp;omega
 have hd:decide (f=0)=false:=by simpa using r
 rw[hd];clear hd;by_cases s:c<d
 ·have A:(c:Int)<d:=by omega
  have hd:decide (c<d)=true:=by simpa using s
  rw[hd];clear hd;go_enter func70,ntmps70;go_wp2;go_ret;exact⟨rfl,k m⟩
 ·have A:¬(c:Int)<d:=by omega
  have hd:decide (c<d)=false:=by simpa using s
  rw[hd];clear hd;go_enter func70,ntmps70;go_wp2;go_ret;exact⟨rfl,k m⟩
theorem mP{d:Program} {e:Func} {post:Ending->U->Prop} {ex:Exit} {a:Act} {c:U} (R:U->Prop) (f:R c) (i:∀c,R c->bodyPost d e post ex a c):bodyPost d e post ex a c:=i c f
theorem Ft{c:U} {S:Nat->Prop} {tb:Nat} {s:u} (N:ae c S tb s) (e:Nat) (hi:e<4) (j:Nat) (all:Bool) (o:Nat->Nat->V->U->Prop) (aj:∀d m,G No c d->d.ownsRow 0 5 1 m (s.b e).length (cg (s.b e))->Calls T 94 #[m] d λz w'=>∃a w,z=g (h #[C a j w,W all])/\o d.heap.size w'.heap.size (C a j w) w'/\G No d w')
  (ah:∀r q m d ad,o r q m d->G (λA=>A<r\/q<=A) d ad->o r q m ad) (ai:∀r ak q af m d,r<=ak->af<=q->o ak af m d->o r q m d):Calls T 69 #[b (E ⟨tb,0,F⟩),y K e] c λz w'=>∃a w,z=g (kI e (s.b e).length (C a j w) all)/\o c.heap.size w'.heap.size (C a j w) w'/\G No c w':=by
 have O:G No c (c.alloc (v #[y K 0,y K 0,C F 0 0,W false] 155)):=(G.refl _ _).alloc _;have ao:=i (X.new c #[y K 0,y K 0,C F 0 0,W false] 155);have R:=i (uh (N.aD O) e hi);have aw:=i O;have ar:=i ah;have au:=i ai;have aB:c.heap.size+1<=(c.alloc (v #[y K 0,y K 0,C F 0 0,W false] 155)).heap.size:=by simp
 have av:=i aj;have hlen:=(N.last e hi).2;unfold kI;clear N O ah aj ai;generalize ag:(s.b e).length=L at *;have aI:=i ag;clear ag;go_enter func69,ntmps69;go_wp2_with fail;refine(k R).mono ?_;rintro z J ⟨aH,rfl,M,aA,I⟩;have ab:=i ((k aw).trans I);have Y:=i ((k av) J aH (k ab) M);obtain⟨aK,aL,rfl⟩:=aC M;have ap:=i (I.has (k ao) (λQ=>Q));have aa:=i (bF aB I.size);clear M aA I R;go_wp2_with fail
 refine(k Y).mono ?_;rintro z n ⟨t,x,rfl,am,P⟩;have f:=P.has (k ap) (λQ=>Q);have d0:n.cell? ⟨c.heap.size,0,F⟩=E (y K 0):=f.cell 0;have d1:n.cell? ⟨c.heap.size,1,F⟩=E (y K 0):=f.cell 1;have d2:n.cell? ⟨c.heap.size,2,F⟩=E (C F 0 0):=f.cell 2;have d3:n.cell? ⟨c.heap.size,3,F⟩=E (W false):=f.cell 3;have aM:=f.frozen;have aN:=f.lt;have aq:=i f;have ay:=i am;have ax:=i ((k ab).trans P);clear am P Y f
 go_wp2;refine mP (λd=>X d c.heap.size #[y K e,y K L,C t j x,W all] 155/\o c.heap.size d.heap.size (C t j x) d/\G No c d) ?_ ?_
 ·have aE:=((((k aq).set 0 (y K e)).set 1 (y K L)).set 2 (C t j x)).set 3 (W all);have D:∀(p:Nat),No (⟨c.heap.size,p,F⟩:Addr).block\/c.heap.size<=(⟨c.heap.size,p,F⟩:Addr).block:=λp=>.inr (bK _);have H:∀(p:Nat),(λA=>A<J.heap.size\/n.heap.size<=A) (⟨c.heap.size,p,F⟩:Addr).block\/n.heap.size<=(⟨c.heap.size,p,F⟩:Addr).block:=λp=>.inl (.inl (by show c.heap.size<J.heap.size;have:=k aa;omega))
  refine⟨aE,(k au) _ J.heap.size _ n.heap.size _ _ (by have:=k aa;omega) (by simp) ((k ar) _ _ _ _ _ (k ay) ?_),((((k ax).setCell (D 0) _).setCell (D 1) _).setCell (D 2) _).setCell (D 3) _⟩;exact((((G.refl _ n).setCell (H 0) _).setCell (H 1) _).setCell (H 2) _).setCell (H 3) _
 ·intro w3 ⟨B,aF,aD⟩;have d0:w3.cell? ⟨c.heap.size,0,F⟩=E (y K e):=B.cell 0;have d1:w3.cell? ⟨c.heap.size,1,F⟩=E (y K L):=B.cell 1;have d2:w3.cell? ⟨c.heap.size,2,F⟩=E (C t j x):=B.cell 2;have d3:w3.cell? ⟨c.heap.size,3,F⟩=E (W all):=B.cell 3;refine bodyPost_ret (by simp[results,results69,go_sem,d0,d1,d2,d3];try rfl) rfl ?_;exact⟨t,x,rfl,aF,aD⟩
set_option maxHeartbeats 8000000
def fD(d:u) (e f sl:Nat):Int×u:=
 let a:=if 0<f then eX d e else(true,d)
 if a.1=false then(16,a.2)
 else
  let c:=if 0<sl then dQ a.2 (1 - e) else(true,a.2)
  if c.1=false then(16,c.2) else(0,c.2)
structure fN (w wx:U) (S:Nat->Prop) (tb rb kb lb i j sk sl nk:Nat) (vk vl:V) (alk all:Bool) (T:u) (Q:Nat->Nat->V->U->Prop):Prop where
 res:X wx rb #[b F,y K 0,W false] 110
 kept:X wx kb #[y K i,y K sk,vk,W alk] 155
 left:X wx lb #[y K j,y K sl,vl,W all] 155
 tape:ae wx S tb T
 q:Q (w.heap.size+1) kb vk wx
 mod:G S w wx
 ge:rb=w.heap.size/\w.heap.size<kb/\kb<lb
theorem X.yq(c:U) (d:Obj) (cs:Array V) (a:TypeId):X ((c.alloc d).alloc (v cs a)) (c.heap.size+1) cs a:=by
 have:=X.new (c.alloc d) cs a;rw[bj] at this;exact this
theorem fN.rY{A p:U} {S:Nat->Prop} {tb L a c s o ab n1:Nat} {w k:V} {r m:Bool} {B:u} {j:Nat->Nat->V->U->Prop} (Y:∀n e t q D,j n e t q->G (λi=>i<n\/e<=i) q D->j n e t D) (ae:∀n J e H t q,n<=J->H<=e->j J H t q->j n e t q) (e:fN A p S tb L a c 0 1 s o ab w k r m B j) (I:¬S a/\¬S c) (aa:j (A.heap.size+1) a k p):
  fN A ((((((((p.setCell ⟨a,0,F⟩ (y K (1:Nat))).setCell ⟨a,1,F⟩ (y K o)).setCell ⟨a,2,F⟩ k).setCell ⟨a,3,F⟩ (W m)).setCell ⟨c,0,F⟩ (y K (0:Nat))).setCell ⟨c,1,F⟩ (y K s)).setCell ⟨c,2,F⟩ w).setCell ⟨c,3,F⟩ (W r)) S tb L a c 1 0 o s n1 k w m r B j:=by
 obtain⟨M,N,O,Q,ad,R,X⟩:=e;have z:G (λi=>i=a\/i=c) p ((((((((p.setCell ⟨a,0,F⟩ (y K (1:Nat))).setCell ⟨a,1,F⟩ (y K o)).setCell ⟨a,2,F⟩ k).setCell ⟨a,3,F⟩ (W m)).setCell ⟨c,0,F⟩ (y K (0:Nat))).setCell ⟨c,1,F⟩ (y K s)).setCell ⟨c,2,F⟩ w).setCell ⟨c,3,F⟩ (W r)):=
  ((((((((G.refl _ p).setCell (p:=⟨a,0,F⟩) (.inl (.inl rfl)) _).setCell (p:=⟨a,1,F⟩) (.inl (.inl rfl)) _).setCell (p:=⟨a,2,F⟩) (.inl (.inl rfl)) _).setCell (p:=⟨a,3,F⟩) (.inl (.inl rfl)) _).setCell (p:=⟨c,0,F⟩) (.inl (.inr rfl)) _).setCell (p:=⟨c,1,F⟩) (.inl (.inr rfl)) _).setCell (p:=⟨c,2,F⟩) (.inl (.inr rfl)) _).setCell (p:=⟨c,3,F⟩) (.inl (.inr rfl)) _
 have f:a≠c:=by omega
 refine⟨z.has M (by rintro(d|d)<;>omega),?_,?_,Q.mod z (λi x=>by rintro(d|d);exact I.1 (d ▸ x);exact I.2 (d ▸ x)),Y _ _ _ _ _ aa (z.mono (λi _ d=>by obtain d|d:=d;exact .inr (by omega);exact .inr (by omega))),R.trans' z (λi x hl=>by obtain d|d:=x<;>omega),X⟩
 ·have:=((((N.set 0 (y K (1:Nat))).set 1 (y K o)).set 2 k).set 3 (W m));exact(((this.dB (a:=⟨c,0,F⟩) f _).dB (a:=⟨c,1,F⟩) f _).dB (a:=⟨c,2,F⟩) f _).dB (a:=⟨c,3,F⟩) f _
 ·have P:=(((O.dB (a:=⟨a,0,F⟩) f.symm (y K (1:Nat))).dB (a:=⟨a,1,F⟩) f.symm (y K o)).dB (a:=⟨a,2,F⟩) f.symm k).dB (a:=⟨a,3,F⟩) f.symm (W m);exact(((P.set 0 (y K (0:Nat))).set 1 (y K s)).set 2 w).set 3 (W r)
theorem fN.still{B D H:U} {S:Nat->Prop} {tb t q r o j w sl s:Nat} {z A:V} {n all:Bool} {i:u} {e:Nat->Nat->V->U->Prop} (a:fN B D S tb t q r o j w sl s z A n all i e) (I:∀f a x k m,e f a x k->G (λp=>p<f\/a<=p) k m->e f a x m) (d:G No D H):fN B H S tb t q r o j w sl s z A n all i e:=
 ⟨d.has a.res (λc=>c),d.has a.kept (λc=>c),d.has a.left (λc=>c),a.tape.aD d,I _ _ _ _ _ a.q (d.mono (λ_ _ c=>c.elim)),a.mod.trans (d.mono (λ_ _ c=>c.elim)),a.ge⟩
theorem fN.turn{i I k:U} {S:Nat->Prop} {tb z t w s j A sl x:Nat} {D H:V} {p all:Bool} {J m:u} {e:Nat->Nat->V->U->Prop} (c:fN i I S tb z t w s j A sl x D H p all J e) (X:∀f c B n o,e f c B n->G (λa=>a<f\/c<=a) n o->e f c B o) (hS:∀a,S a->a<i.heap.size) (Y:ae k S tb m) (d:G (λa=>a=tb) I k):fN i k S tb z t w s j A sl x D H p all m e:=by
 obtain⟨L,M,N,O,P,Q,R⟩:=c;have r:=O.cd;have hl:=hS _ r;exact⟨d.has L (by omega),d.has M (by omega),d.has N (by omega),Y,X _ _ _ _ _ P (d.mono (λa _ q=>.inl (by omega))),Q.trans (d.mono (λa _ q=>by rw[q];exact r)),R⟩
theorem fN.fin{k d:U} {S:Nat->Prop} {tb a N O M j Q sl P:Nat} {s R x y z:V} {t all:Bool} {n:u} {f:Nat->Nat->V->U->Prop} (I:∀l e v i o,f l e v i->G (λc=>c<l\/e<=c) i o->f l e v o) (J:∀l r e q v i,l<=r->q<=e->f r q v i->f l e v i) (e:fN k d S tb a N O M j Q sl P s R t all n f) (hS:∀c,S c->c<k.heap.size):
  X (((d.setCell ⟨a,0,F⟩ x).setCell ⟨a,1,F⟩ y).setCell ⟨a,2,F⟩ z) a #[x,y,z] 110/\ae (((d.setCell ⟨a,0,F⟩ x).setCell ⟨a,1,F⟩ y).setCell ⟨a,2,F⟩ z) S tb n/\G S k (((d.setCell ⟨a,0,F⟩ x).setCell ⟨a,1,F⟩ y).setCell ⟨a,2,F⟩ z)/\f k.heap.size (((d.setCell ⟨a,0,F⟩ x).setCell ⟨a,1,F⟩ y).setCell ⟨a,2,F⟩ z).heap.size s (((d.setCell ⟨a,0,F⟩ x).setCell ⟨a,1,F⟩ y).setCell ⟨a,2,F⟩ z):=by
 obtain⟨w,A,Y,B,D,H,aa,ab,ad⟩:=e;have m:G (λc=>c=a) d (((d.setCell ⟨a,0,F⟩ x).setCell ⟨a,1,F⟩ y).setCell ⟨a,2,F⟩ z):=(((G.refl _ d).at 0 x).at 1 y).at 2 z;have hl:=A.lt;refine⟨((w.set 0 x).set 1 y).set 2 z,B.mod m (λc L p=>by have:=hS c L;omega),H.trans' m (λc p hl=>by omega),J _ _ _ _ _ _ (by omega) (by simp only[kx];omega) (I _ _ _ _ _ D (m.mono (λc _ p=>.inl (by omega))))⟩
theorem X.lP{d:U} {c:Nat} {cs:Array V} {a:TypeId} (e:X d c cs a):X d.drew c cs a:=e
theorem ae.lP{a:U} {S:Nat->Prop} {tb:Nat} {c:u} (d:ae a S tb c):ae a.drew S tb c:=d.aD (G.refl No a).drew
theorem yr{c:U} {S:Nat->Prop} {tb:Nat} {aa:u} (bP:ae c S tb aa) (hS:∀a2,S a2->a2<c.heap.size) (ax ay aq aw:Nat) (aF aH aS:Bool) (m x o B:Nat) (al:Bool) (ao:Nat->Nat->V->U->Prop) (bJ:∀j,G No c j->Calls T 69 #[b (E ⟨tb,0,F⟩),y K 0] j λq w'=>∃a s,q=g (kI 0 ax (C a aq s) aF)/\ao j.heap.size w'.heap.size (C a aq s) w'/\G No j w')
  (bL:∀j,G No c j->Calls T 69 #[b (E ⟨tb,0,F⟩),y K 1] j λq w'=>∃a s,q=g (kI 1 ay (C a aw s) aH)/\ao j.heap.size w'.heap.size (C a aw s) w'/\G No j w') (bN:∀o aW aR j bE,ao o aW aR j->G (λa2=>a2<o\/aW<=a2) j bE->ao o aW aR bE) (bO:∀o bQ aW bH aR j,o<=bQ->bH<=aW->ao bQ bH aR j->ao o aW aR j) (hb:lO aw aq ay ax=aS)
  (bM:aS=false/\m=0/\x=ax/\o=ay/\B=aq/\al=aF\/aS=true/\m=1/\x=ay/\o=ax/\B=aw/\al=aH):Calls T 43 #[b (E ⟨tb,0,F⟩)] c λq w'=>ae w' S tb (fD aa m x o).2/\G S c w'/\((fD aa m x o).1=0->∃a s,q=g (h #[l #[b (E ⟨tb,0,F⟩),y K (m:Nat),W (!al)],C a B s,y K 0])/\ao c.heap.size w'.heap.size (C a B s) w')/\
   ((fD aa m x o).1≠0->q=g (h #[l #[b F,y K 0,W false],C F 0 0,y K 16])):=by
 have bm:G No c (c.alloc (v #[b F,y K 0,W false] 110)):=(G.refl _ _).alloc _;have bu:=i (bJ _ bm);have aY:=i bL;have bp:=i (X.new c #[b F,y K 0,W false] 110);have bx:=i bm;have bw:=i bP;have bs:=i hb;have bt:=i bM;have A:=i bN;have aE:=i bO;have ab:=i hS;have bT:=i λj (bY bZ:Int) (x b2 B b1 s bU:Nat) (a aS:Option Addr) (D b5:Bool)=>yp j bY bZ x b2 B b1 s bU a aS D b5;unfold kI at *
 clear bJ bL bm bP bN bO hS hb bM;go_enter func43,ntmps43;go_wp2_with fail;refine(k bu).mono ?_;rintro q b3 ⟨aM,aO,rfl,bR,a7⟩;have a9:=i ((k bx).trans a7);have bz:=i a7;have aY:=i ((k aY) b3 (k a9));have bq:=i (a7.has (k bp) (λD=>D));have bA:=i bR;clear bR a7 bu bp;go_wp2_with fail;refine(k aY).mono ?_;rintro q aA ⟨aN,aQ,rfl,bS,a8⟩;have ba:=i ((k a9).trans a8);have a4:=i (a8.has (k bq) (λD=>D))
 have bB:=i bS;have bb:=i a8;clear bS a8 aY bq;go_upto_region 2 with fail;have aX:G No aA ((aA.alloc (v #[y K 0,y K ax,C aM aq aO,W aF] 155)).alloc (v #[y K 1,y K ay,C aN aw aQ,W aH] 155)):=((G.refl _ aA).alloc _).alloc _
 have ad:=i (show fN c ((aA.alloc (v #[y K 0,y K ax,C aM aq aO,W aF] 155)).alloc (v #[y K 1,y K ay,C aN aw aQ,W aH] 155)) S tb c.heap.size aA.heap.size (aA.heap.size+1) 0 1 ax ay aq (C aM aq aO) (C aN aw aQ) aF aH aa ao from
  ⟨aX.has (k a4) (λD=>D),(X.new aA _ _).alloc _,X.yq _ _ _ _,(k bw).aD ((k ba).trans aX),(k aE) _ _ _ _ _ _ (Nat.le_of_eq (bj _ _).symm) (k bb).size ((k A) _ _ _ _ _ (k bA) (((k bb).trans aX).mono (λ_ _ D=>D.elim))),((k ba).trans aX).mono (λ_ _ D=>D.elim),rfl,(k a4).lt,Nat.lt_succ_self _⟩)
 have bC:=i ((k aE) (c.heap.size+1) _ aA.heap.size _ _ _ (bF (Nat.le_of_eq (bj _ _).symm) (k bz).size) (bK _) ((k A) _ _ _ _ _ (k bB) (aX.mono (λ_ _ D=>D.elim))));have LT:=i (show c.heap.size<aA.heap.size from(k a4).lt);clear aX;generalize (aA.alloc (v #[y K 0,y K ax,C aM aq aO,W aF] 155)).alloc (v #[y K 1,y K ay,C aN aw aQ,W aH] 155)=w3 at *;generalize aA.heap.size+1=r at *
 generalize bV:aA.heap.size=e at *;clear bV ba bb bB bA a4 a9 bx bz;have I:w3.cell? ⟨e,0,F⟩=E (y K 0):=(k ad).kept.cell 0;have J:w3.cell? ⟨e,1,F⟩=E (y K ax):=(k ad).kept.cell 1;have L:w3.cell? ⟨e,2,F⟩=E (C aM aq aO):=(k ad).kept.cell 2;have M:w3.cell? ⟨e,3,F⟩=E (W aF):=(k ad).kept.cell 3;have O:w3.cell? ⟨r,0,F⟩=E (y K 1):=(k ad).left.cell 0;have P:w3.cell? ⟨r,1,F⟩=E (y K ay):=(k ad).left.cell 1
 have bi:w3.cell? ⟨r,2,F⟩=E (C aN aw aQ):=(k ad).left.cell 2;have bk:w3.cell? ⟨r,3,F⟩=E (W aH):=(k ad).left.cell 3;have bh:=(k ad).kept.frozen;have bl:=(k ad).left.frozen;have N:=(k ad).kept.lt;have Q:=(k ad).left.lt;have a5:=i (yp w3 1 0 ay ax aw aq aQ aO aN aM aH aF);unfold kI at a5;rw[k bs] at a5;go_wp2_with fail;refine(k a5).mono ?_;rintro q aD ⟨rfl,bn⟩;have R:=i ((k ad).still (k A) bn)
 have bD:=i ((k A) _ _ _ _ _ (k bC) (bn.mono (λ_ _ D=>D.elim)));clear I J L M O P bi bk bh bl N Q bn ad bC a5;have I:aD.cell? ⟨e,0,F⟩=E (y K 0):=(k R).kept.cell 0;have J:aD.cell? ⟨e,1,F⟩=E (y K ax):=(k R).kept.cell 1;have L:aD.cell? ⟨e,2,F⟩=E (C aM aq aO):=(k R).kept.cell 2;have M:aD.cell? ⟨e,3,F⟩=E (W aF):=(k R).kept.cell 3;have O:aD.cell? ⟨r,0,F⟩=E (y K 1):=(k R).left.cell 0
 have P:aD.cell? ⟨r,1,F⟩=E (y K ay):=(k R).left.cell 1;have bi:aD.cell? ⟨r,2,F⟩=E (C aN aw aQ):=(k R).left.cell 2;have bk:aD.cell? ⟨r,3,F⟩=E (W aH):=(k R).left.cell 3;have bh:=(k R).kept.frozen;have bl:=(k R).left.frozen;have N:=(k R).kept.lt;have Q:=(k R).left.lt;have b8:e≠r:=by have:=(k R).ge;omega
 have bv:Hid (∃(Y:Nat) (a:Option Addr) (s:Nat) (aR:V) (bG:Bool) (t:U),m<2/\Y<2/\Y=1 - m/\fN c t S tb c.heap.size e r m Y x o B (C a B s) aR al bG aa ao/\t=(if aS then((((((((aD.setCell ⟨e,0,F⟩ (y K 1)).setCell ⟨e,1,F⟩ (y K ay)).setCell ⟨e,2,F⟩ (C aN aw aQ)).setCell ⟨e,3,F⟩ (W aH)).setCell ⟨r,0,F⟩ (y K 0)).setCell ⟨r,1,F⟩ (y K ax)).setCell ⟨r,2,F⟩ (C aM aq aO)).setCell ⟨r,3,F⟩ (W aF)) else aD)):=by
  obtain⟨rfl,rfl,rfl,rfl,rfl,rfl⟩|⟨rfl,rfl,rfl,rfl,rfl,rfl⟩:=k bt
  ·exact i ⟨1,aM,aO,_,_,aD,by omega,by omega,rfl,k R,rfl⟩
  ·have f:=fN.rY (n1:=B) (k A) (k aE) (k R) (by
    have hs:=k ab
    have:=(k R).ge
    exact⟨λq=>by have:=hs _ q;omega,λq=>by have:=hs _ q;omega⟩) (k bD)
   rw[show((1:Nat):Int)=1 from rfl,show((0:Nat):Int)=0 from rfl] at f;exact i ⟨0,aN,aQ,_,_,_,by omega,by omega,rfl,f,rfl⟩
 clear R bD bw aY bT bt
 cases aS
 all_goals go_upto_region 4 with fail
 all_goals clear I J L M O P bi bk bh bl N Q
 all_goals obtain⟨Y,a,s,aR,bG,t,b6,b7,aK,f,bd⟩:=k bv
 all_goals simp only[if_true,if_false,kg] at bd
 all_goals (rw[<-bd])
 all_goals replace f:=i f
 all_goals replace aK:=i aK
 all_goals clear bv bd bs
 all_goals (
  by_cases aT:0<x
  ·have bW:(x:Int)>0:=by omega
   have aZ:=i (ug (k f).tape m (by omega))
   obtain⟨b4,bf⟩:∃D,eX aa m=D:=⟨_,rfl⟩
   rw[bf] at aZ
   obtain⟨d1,a1⟩:=b4
   have a6:=i bf
   clear bf
   cases d1 with
   |true=>
    have I:t.cell? ⟨e,0,F⟩=E (y K m):=(k f).kept.cell 0
    have J:t.cell? ⟨e,1,F⟩=E (y K x):=(k f).kept.cell 1
    have L:t.cell? ⟨e,2,F⟩=E (C a B s):=(k f).kept.cell 2
    have M:t.cell? ⟨e,3,F⟩=E (W al):=(k f).kept.cell 3
    have O:t.cell? ⟨r,0,F⟩=E (y K Y):=(k f).left.cell 0
    have P:t.cell? ⟨r,1,F⟩=E (y K o):=(k f).left.cell 1
    have N:=(k f).kept.lt
    have Q:=(k f).left.lt
    have ag:t.cell? ⟨c.heap.size,0,F⟩=E (b F):=(k f).res.cell 0
    have ah:t.cell? ⟨c.heap.size,1,F⟩=E (y K 0):=(k f).res.cell 1
    have ai:t.cell? ⟨c.heap.size,2,F⟩=E (W false):=(k f).res.cell 2
    have aj:=(k f).res.frozen
    have ak:=(k f).res.lt
    have af:e≠c.heap.size:=by have:=(k f).ge;omega
    go_wp2_with fail
    refine(k aZ).mono ?_
    rintro q H ⟨rfl,t6,a3⟩
    have p:=i ((k f).turn (k A) (k ab) t6 a3)
    clear I J L M O P N Q ag ah ai aj ak af t6 a3 aZ
    have I:H.cell? ⟨e,0,F⟩=E (y K m):=(k p).kept.cell 0
    have J:H.cell? ⟨e,1,F⟩=E (y K x):=(k p).kept.cell 1
    have L:H.cell? ⟨e,2,F⟩=E (C a B s):=(k p).kept.cell 2
    have M:H.cell? ⟨e,3,F⟩=E (W al):=(k p).kept.cell 3
    have O:H.cell? ⟨r,0,F⟩=E (y K Y):=(k p).left.cell 0
    have P:H.cell? ⟨r,1,F⟩=E (y K o):=(k p).left.cell 1
    have N:=(k p).kept.lt
    have Q:=(k p).left.lt
    have ag:H.cell? ⟨c.heap.size,0,F⟩=E (b F):=(k p).res.cell 0
    have ah:H.cell? ⟨c.heap.size,1,F⟩=E (y K 0):=(k p).res.cell 1
    have ai:H.cell? ⟨c.heap.size,2,F⟩=E (W false):=(k p).res.cell 2
    have aj:=(k p).res.frozen
    have ak:=(k p).res.lt
    have af:e≠c.heap.size:=by have:=(k p).ge;omega
    by_cases hl:0<o
    ·have bc:(o:Int)>0:=by omega
     have aB:=i (rI (k p).tape Y (by omega))
     obtain⟨bo,aU⟩:∃D,dQ a1 Y=D:=⟨_,rfl⟩
     rw[aU] at aB
     obtain⟨d2,aL⟩:=bo
     have a0:=i aU
     clear aU
     cases d2 with
     |true=>
      go_wp2_with fail
      refine(k aB).mono ?_
      rintro q n ⟨rfl,t8,aC⟩
      have d:=i ((k p).turn (k A) (k ab) t8 aC)
      clear I J L M O P N Q ag ah ai aj ak af t8 aC aB
      have I:n.cell? ⟨e,0,F⟩=E (y K m):=(k d).kept.cell 0
      have J:n.cell? ⟨e,1,F⟩=E (y K x):=(k d).kept.cell 1
      have L:n.cell? ⟨e,2,F⟩=E (C a B s):=(k d).kept.cell 2
      have M:n.cell? ⟨e,3,F⟩=E (W al):=(k d).kept.cell 3
      have O:n.cell? ⟨r,0,F⟩=E (y K Y):=(k d).left.cell 0
      have P:n.cell? ⟨r,1,F⟩=E (y K o):=(k d).left.cell 1
      have N:=(k d).kept.lt
      have Q:=(k d).left.lt
      have ag:n.cell? ⟨c.heap.size,0,F⟩=E (b F):=(k d).res.cell 0
      have ah:n.cell? ⟨c.heap.size,1,F⟩=E (y K 0):=(k d).res.cell 1
      have ai:n.cell? ⟨c.heap.size,2,F⟩=E (W false):=(k d).res.cell 2
      have aj:=(k d).res.frozen
      have ak:=(k d).res.lt
      have af:e≠c.heap.size:=by have:=(k d).ge;omega
      have am:=i (show fD aa m x o=(0,aL) from by unfold fD;simp[aT,k a6,hl,k a0,<-k aK])
      go_wp2_with fail
      go_region
      all_goals go_wp2
      all_goals
       obtain⟨ar,au,av,aI⟩:=fN.fin (x:=b (E ⟨tb,0,F⟩)) (y:=y K m) (z:=W (!al)) (k A) (k aE) (k d) (k ab)
       refine mP (λj=>X j c.heap.size #[b (E ⟨tb,0,F⟩),y K m,W (!al)] 110/\ae j S tb aL/\G S c j/\ao c.heap.size j.heap.size (C a B s) j) ⟨ar.lP,au.lP,av.drew,(k A) _ _ _ _ _ aI (G.refl _ _).drew⟩ ?_
       rintro z ⟨w,t7,ap,aV⟩
       have d0:z.cell? ⟨c.heap.size,0,F⟩=E (b (E ⟨tb,0,F⟩)):=w.cell 0
       have d1:z.cell? ⟨c.heap.size,1,F⟩=E (y K m):=w.cell 1
       have d2:z.cell? ⟨c.heap.size,2,F⟩=E (W (!al)):=w.cell 2
       refine bodyPost_ret (by simp[results,results43,go_sem,d0,d1,d2];try rfl) rfl ?_
       rw[k am]
       exact⟨t7,ap,λ_=>⟨a,s,rfl,aV⟩,λq=>absurd rfl q⟩
     |false=>
      go_wp2_with fail
      refine(k aB).mono ?_
      rintro q n ⟨rfl,t8,aC⟩
      have d:=i ((k p).turn (k A) (k ab) t8 aC)
      clear I J L M O P N Q ag ah ai aj ak af t8 aC aB
      have I:n.cell? ⟨e,0,F⟩=E (y K m):=(k d).kept.cell 0
      have J:n.cell? ⟨e,1,F⟩=E (y K x):=(k d).kept.cell 1
      have L:n.cell? ⟨e,2,F⟩=E (C a B s):=(k d).kept.cell 2
      have M:n.cell? ⟨e,3,F⟩=E (W al):=(k d).kept.cell 3
      have O:n.cell? ⟨r,0,F⟩=E (y K Y):=(k d).left.cell 0
      have P:n.cell? ⟨r,1,F⟩=E (y K o):=(k d).left.cell 1
      have N:=(k d).kept.lt
      have Q:=(k d).left.lt
      have ag:n.cell? ⟨c.heap.size,0,F⟩=E (b F):=(k d).res.cell 0
      have ah:n.cell? ⟨c.heap.size,1,F⟩=E (y K 0):=(k d).res.cell 1
      have ai:n.cell? ⟨c.heap.size,2,F⟩=E (W false):=(k d).res.cell 2
      have aj:=(k d).res.frozen
      have ak:=(k d).res.lt
      have af:e≠c.heap.size:=by have:=(k d).ge;omega
      have am:=i (show fD aa m x o=(16,aL) from by unfold fD;simp[aT,k a6,hl,k a0,<-k aK])
      go_wp2
      obtain⟨ar,au,av,aI⟩:=fN.fin (x:=b F) (y:=y K 0) (z:=W false) (k A) (k aE) (k d) (k ab)
      refine mP (λj=>X j c.heap.size #[b F,y K 0,W false] 110/\ae j S tb aL/\G S c j) ⟨ar,au,av⟩ ?_
      rintro z ⟨w,t7,ap⟩
      have d0:z.cell? ⟨c.heap.size,0,F⟩=E (b F):=w.cell 0
      have d1:z.cell? ⟨c.heap.size,1,F⟩=E (y K 0):=w.cell 1
      have d2:z.cell? ⟨c.heap.size,2,F⟩=E (W false):=w.cell 2
      refine bodyPost_ret (by simp[results,results43,go_sem,d0,d1,d2];try rfl) rfl ?_
      rw[k am]
      exact⟨t7,ap,λq=>absurd q (by show ¬(16:Int)=0;omega),λ_=>rfl⟩
    ·have bc:¬(o:Int)>0:=by omega
     have am:=i (show fD aa m x o=(0,a1) from by unfold fD;simp[aT,k a6,hl,<-k aK])
     go_wp2_with fail
     go_region
     all_goals go_wp2
     all_goals
      obtain⟨ar,au,av,aI⟩:=fN.fin (x:=b (E ⟨tb,0,F⟩)) (y:=y K m) (z:=W (!al)) (k A) (k aE) (k p) (k ab)
      refine mP (λj=>X j c.heap.size #[b (E ⟨tb,0,F⟩),y K m,W (!al)] 110/\ae j S tb a1/\G S c j/\ao c.heap.size j.heap.size (C a B s) j) ⟨ar.lP,au.lP,av.drew,(k A) _ _ _ _ _ aI (G.refl _ _).drew⟩ ?_
      rintro z ⟨w,t7,ap,aV⟩
      have d0:z.cell? ⟨c.heap.size,0,F⟩=E (b (E ⟨tb,0,F⟩)):=w.cell 0
      have d1:z.cell? ⟨c.heap.size,1,F⟩=E (y K m):=w.cell 1
      have d2:z.cell? ⟨c.heap.size,2,F⟩=E (W (!al)):=w.cell 2
      refine bodyPost_ret (by simp[results,results43,go_sem,d0,d1,d2];try rfl) rfl ?_
      rw[k am]
      exact⟨t7,ap,λ_=>⟨a,s,rfl,aV⟩,λq=>absurd rfl q⟩
   |false=>
    have I:t.cell? ⟨e,0,F⟩=E (y K m):=(k f).kept.cell 0
    have J:t.cell? ⟨e,1,F⟩=E (y K x):=(k f).kept.cell 1
    have L:t.cell? ⟨e,2,F⟩=E (C a B s):=(k f).kept.cell 2
    have M:t.cell? ⟨e,3,F⟩=E (W al):=(k f).kept.cell 3
    have O:t.cell? ⟨r,0,F⟩=E (y K Y):=(k f).left.cell 0
    have P:t.cell? ⟨r,1,F⟩=E (y K o):=(k f).left.cell 1
    have N:=(k f).kept.lt
    have Q:=(k f).left.lt
    have ag:t.cell? ⟨c.heap.size,0,F⟩=E (b F):=(k f).res.cell 0
    have ah:t.cell? ⟨c.heap.size,1,F⟩=E (y K 0):=(k f).res.cell 1
    have ai:t.cell? ⟨c.heap.size,2,F⟩=E (W false):=(k f).res.cell 2
    have aj:=(k f).res.frozen
    have ak:=(k f).res.lt
    have af:e≠c.heap.size:=by have:=(k f).ge;omega
    go_wp2_with fail
    refine(k aZ).mono ?_
    rintro q H ⟨rfl,t6,a3⟩
    have p:=i ((k f).turn (k A) (k ab) t6 a3)
    clear I J L M O P N Q ag ah ai aj ak af t6 a3 aZ
    have I:H.cell? ⟨e,0,F⟩=E (y K m):=(k p).kept.cell 0
    have J:H.cell? ⟨e,1,F⟩=E (y K x):=(k p).kept.cell 1
    have L:H.cell? ⟨e,2,F⟩=E (C a B s):=(k p).kept.cell 2
    have M:H.cell? ⟨e,3,F⟩=E (W al):=(k p).kept.cell 3
    have O:H.cell? ⟨r,0,F⟩=E (y K Y):=(k p).left.cell 0
    have P:H.cell? ⟨r,1,F⟩=E (y K o):=(k p).left.cell 1
    have N:=(k p).kept.lt
    have Q:=(k p).left.lt
    have ag:H.cell? ⟨c.heap.size,0,F⟩=E (b F):=(k p).res.cell 0
    have ah:H.cell? ⟨c.heap.size,1,F⟩=E (y K 0):=(k p).res.cell 1
    have ai:H.cell? ⟨c.heap.size,2,F⟩=E (W false):=(k p).res.cell 2
    have aj:=(k p).res.frozen
    have ak:=(k p).res.lt
    have af:e≠c.heap.size:=by have:=(k p).ge;omega
    have am:=i (show fD aa m x o=(16,a1) from by unfold fD;simp[aT,k a6,<-k aK])
    go_wp2
    obtain⟨ar,au,av,aI⟩:=fN.fin (x:=b F) (y:=y K 0) (z:=W false) (k A) (k aE) (k p) (k ab)
    refine mP (λj=>X j c.heap.size #[b F,y K 0,W false] 110/\ae j S tb a1/\G S c j) ⟨ar,au,av⟩ ?_
    rintro z ⟨w,t7,ap⟩
    have d0:z.cell? ⟨c.heap.size,0,F⟩=E (b F):=w.cell 0
    have d1:z.cell? ⟨c.heap.size,1,F⟩=E (y K 0):=w.cell 1
    have d2:z.cell? ⟨c.heap.size,2,F⟩=E (W false):=w.cell 2
    refine bodyPost_ret (by simp[results,results43,go_sem,d0,d1,d2];try rfl) rfl ?_
    rw[k am]
    exact⟨t7,ap,λq=>absurd q (by show ¬(16:Int)=0;omega),λ_=>rfl⟩
  ·have bW:¬(x:Int)>0:=by omega
   have I:t.cell? ⟨e,0,F⟩=E (y K m):=(k f).kept.cell 0
   have J:t.cell? ⟨e,1,F⟩=E (y K x):=(k f).kept.cell 1
   have L:t.cell? ⟨e,2,F⟩=E (C a B s):=(k f).kept.cell 2
   have M:t.cell? ⟨e,3,F⟩=E (W al):=(k f).kept.cell 3
   have O:t.cell? ⟨r,0,F⟩=E (y K Y):=(k f).left.cell 0
   have P:t.cell? ⟨r,1,F⟩=E (y K o):=(k f).left.cell 1
   have N:=(k f).kept.lt
   have Q:=(k f).left.lt
   have ag:t.cell? ⟨c.heap.size,0,F⟩=E (b F):=(k f).res.cell 0
   have ah:t.cell? ⟨c.heap.size,1,F⟩=E (y K 0):=(k f).res.cell 1
   have ai:t.cell? ⟨c.heap.size,2,F⟩=E (W false):=(k f).res.cell 2
   have aj:=(k f).res.frozen
   have ak:=(k f).res.lt
   have af:e≠c.heap.size:=by have:=(k f).ge;omega
   by_cases hl:0<o
   ·have bc:(o:Int)>0:=by omega
    have aB:=i (rI (k f).tape Y (by omega))
    obtain⟨bo,aU⟩:∃D,dQ aa Y=D:=⟨_,rfl⟩
    rw[aU] at aB
    obtain⟨d2,aL⟩:=bo
    have a0:=i aU
    clear aU
    cases d2 with
    |true=>
     go_wp2_with fail
     refine(k aB).mono ?_
     rintro q n ⟨rfl,t8,aC⟩
     have d:=i ((k f).turn (k A) (k ab) t8 aC)
     clear I J L M O P N Q ag ah ai aj ak af t8 aC aB
     have I:n.cell? ⟨e,0,F⟩=E (y K m):=(k d).kept.cell 0
     have J:n.cell? ⟨e,1,F⟩=E (y K x):=(k d).kept.cell 1
     have L:n.cell? ⟨e,2,F⟩=E (C a B s):=(k d).kept.cell 2
     have M:n.cell? ⟨e,3,F⟩=E (W al):=(k d).kept.cell 3
     have O:n.cell? ⟨r,0,F⟩=E (y K Y):=(k d).left.cell 0
     have P:n.cell? ⟨r,1,F⟩=E (y K o):=(k d).left.cell 1
     have N:=(k d).kept.lt
     have Q:=(k d).left.lt
     have ag:n.cell? ⟨c.heap.size,0,F⟩=E (b F):=(k d).res.cell 0
     have ah:n.cell? ⟨c.heap.size,1,F⟩=E (y K 0):=(k d).res.cell 1
     have ai:n.cell? ⟨c.heap.size,2,F⟩=E (W false):=(k d).res.cell 2
     have aj:=(k d).res.frozen
     have ak:=(k d).res.lt
     have af:e≠c.heap.size:=by have:=(k d).ge;omega
     have am:=i (show fD aa m x o=(0,aL) from by unfold fD;simp[aT,hl,k a0,<-k aK])
     go_wp2_with fail
     go_region
     all_goals go_wp2
     all_goals
      obtain⟨ar,au,av,aI⟩:=fN.fin (x:=b (E ⟨tb,0,F⟩)) (y:=y K m) (z:=W (!al)) (k A) (k aE) (k d) (k ab)
      refine mP (λj=>X j c.heap.size #[b (E ⟨tb,0,F⟩),y K m,W (!al)] 110/\ae j S tb aL/\G S c j/\ao c.heap.size j.heap.size (C a B s) j) ⟨ar.lP,au.lP,av.drew,(k A) _ _ _ _ _ aI (G.refl _ _).drew⟩ ?_
      rintro z ⟨w,t7,ap,aV⟩
      have d0:z.cell? ⟨c.heap.size,0,F⟩=E (b (E ⟨tb,0,F⟩)):=w.cell 0
      have d1:z.cell? ⟨c.heap.size,1,F⟩=E (y K m):=w.cell 1
      have d2:z.cell? ⟨c.heap.size,2,F⟩=E (W (!al)):=w.cell 2
      refine bodyPost_ret (by simp[results,results43,go_sem,d0,d1,d2];try rfl) rfl ?_
      rw[k am]
      exact⟨t7,ap,λ_=>⟨a,s,rfl,aV⟩,λq=>absurd rfl q⟩
    |false=>
     go_wp2_with fail
     refine(k aB).mono ?_
     rintro q n ⟨rfl,t8,aC⟩
     have d:=i ((k f).turn (k A) (k ab) t8 aC)
     clear I J L M O P N Q ag ah ai aj ak af t8 aC aB
     have I:n.cell? ⟨e,0,F⟩=E (y K m):=(k d).kept.cell 0
     have J:n.cell? ⟨e,1,F⟩=E (y K x):=(k d).kept.cell 1
     have L:n.cell? ⟨e,2,F⟩=E (C a B s):=(k d).kept.cell 2
     have M:n.cell? ⟨e,3,F⟩=E (W al):=(k d).kept.cell 3
     have O:n.cell? ⟨r,0,F⟩=E (y K Y):=(k d).left.cell 0
     have P:n.cell? ⟨r,1,F⟩=E (y K o):=(k d).left.cell 1
     have N:=(k d).kept.lt
     have Q:=(k d).left.lt
     have ag:n.cell? ⟨c.heap.size,0,F⟩=E (b F):=(k d).res.cell 0
     have ah:n.cell? ⟨c.heap.size,1,F⟩=E (y K 0):=(k d).res.cell 1
     have ai:n.cell? ⟨c.heap.size,2,F⟩=E (W false):=(k d).res.cell 2
     have aj:=(k d).res.frozen
     have ak:=(k d).res.lt
     have af:e≠c.heap.size:=by have:=(k d).ge;omega
     have am:=i (show fD aa m x o=(16,aL) from by unfold fD;simp[aT,hl,k a0,<-k aK])
     go_wp2
     obtain⟨ar,au,av,aI⟩:=fN.fin (x:=b F) (y:=y K 0) (z:=W false) (k A) (k aE) (k d) (k ab)
     refine mP (λj=>X j c.heap.size #[b F,y K 0,W false] 110/\ae j S tb aL/\G S c j) ⟨ar,au,av⟩ ?_
     rintro z ⟨w,t7,ap⟩
     have d0:z.cell? ⟨c.heap.size,0,F⟩=E (b F):=w.cell 0
     have d1:z.cell? ⟨c.heap.size,1,F⟩=E (y K 0):=w.cell 1
     have d2:z.cell? ⟨c.heap.size,2,F⟩=E (W false):=w.cell 2
     refine bodyPost_ret (by simp[results,results43,go_sem,d0,d1,d2];try rfl) rfl ?_
     rw[k am]
     exact⟨t7,ap,λq=>absurd q (by show ¬(16:Int)=0;omega),λ_=>rfl⟩
   ·have bc:¬(o:Int)>0:=by omega
    have am:=i (show fD aa m x o=(0,aa) from by unfold fD;simp[aT,hl,<-k aK])
    go_wp2_with fail
    go_region
    all_goals go_wp2
    all_goals
     obtain⟨ar,au,av,aI⟩:=fN.fin (x:=b (E ⟨tb,0,F⟩)) (y:=y K m) (z:=W (!al)) (k A) (k aE) (k f) (k ab)
     refine mP (λj=>X j c.heap.size #[b (E ⟨tb,0,F⟩),y K m,W (!al)] 110/\ae j S tb aa/\G S c j/\ao c.heap.size j.heap.size (C a B s) j) ⟨ar.lP,au.lP,av.drew,(k A) _ _ _ _ _ aI (G.refl _ _).drew⟩ ?_
     rintro z ⟨w,t7,ap,aV⟩
     have d0:z.cell? ⟨c.heap.size,0,F⟩=E (b (E ⟨tb,0,F⟩)):=w.cell 0
     have d1:z.cell? ⟨c.heap.size,1,F⟩=E (y K m):=w.cell 1
     have d2:z.cell? ⟨c.heap.size,2,F⟩=E (W (!al)):=w.cell 2
     refine bodyPost_ret (by simp[results,results43,go_sem,d0,d1,d2];try rfl) rfl ?_
     rw[k am]
     exact⟨t7,ap,λ_=>⟨a,s,rfl,aV⟩,λq=>absurd rfl q⟩)
set_option maxHeartbeats 4000000
theorem lQ{f:Program} {ops:Array Oper} {c:Oper} {a:Act} {m:U} {i:Act->U->Prop} {o:Exit->Act->U->Prop} {n:Prop} (r:c.guard=F) (e:FuncId) (args:Array Operand) (x:Array TypeId) (s:c.op=Op.call { callee:=Callee.value (Operand.func e),args:=args,argTypes:=x }) (vs:Array V) (u:args.map a.eval=vs) (q:∀j,(callFunc e vs).run f j=.ok (.enter e vs) j) (R:V->U->Prop) (hc:Calls f e vs m λk w'=>∃d,k=g d/\R d w')
  (p:∀d w',R d w'->i (a.put c.dst d) w'):if gM c (yielded ops a.tmps)=true then eT f c a m i o else n:=by
 have w:gM c (yielded ops a.tmps)=true:=by simp[gM,r]
 rw[if_pos w];unfold eT execOp;simp[go_sem,s,u];rw[q];simp[go_sem];refine hc.mono ?_;rintro k w' ⟨d,rfl,t⟩;exact p _ _ t
theorem pf(a:o):∃c d,dh a=.iface c d:=by
 unfold dh jf eM lE nQ mH my
 repeat' split
 all_goals exact⟨_,_,rfl⟩
theorem uD{d:U} {now:Int} {a:o} {f:TypeId} {i:V} (hv:dh a=.iface f i) (hf:gN now a) (e cap:Nat) (hb:X d e #[y K a.fl,.iface f i] 125):Calls T 81 #[y K now,C (E ⟨e,0,F⟩) 1 cap] d λq w'=>∃m,q=g m/\qt d w' m (ag now [a]):=by
 refine yi now e 0 1 cap d [a] rfl (by omega) (λ_=>a.fl) (λ_=>f) (λ_=>i) (λc hi=>?_) hb.lt (λc hi=>?_) (λc hi r n u xs s k=>?_)
 ·obtain rfl:c=0:=by omega
  exact⟨hb.cell 0,hb.cell 1⟩
 ·have j:=rX hf;have:c=0\/c=1:=by omega
  obtain rfl|rfl:=this
  ·simp[iv,fq]
  ·simp only[iv,fq,List.take_succ_cons,List.take_zero,dR];omega
 ·obtain rfl:c=0:=by simp at hi;omega
  have j:jY now [a] 0=now:=rfl;rw[j] at k ⊢;rw[<-hv];exact yj k (λt p=>bF n.size p) (by omega) a hf
theorem Fu{c:U} {n:Nat} {now:Int} {pt:Nat->Option Nat} (A:X c n (cD now pt) 121) (B:pt 29=F) (D:lJ pt=false) (a:o) (hf:gN now a):Calls T 50 #[b (E ⟨n,0,F⟩),l #[y K a.fl,dh a]] c λH w'=>H=g (y K 17)/\G No c w':=by
 obtain⟨d,e,hv⟩:=pf a;have r:G No c (c.alloc (v #[y K a.fl,.iface d e] 125)):=(G.refl _ _).alloc _;have b0:=X.new c #[y K a.fl,.iface d e] 125;have z:=r.has A (λt=>t);have O:=i hv;rw[hv];have m:=i z;have P:=i r;have p:=i b0;have L:=i B;have N:=i D;clear A z r b0 B hv D;go_enter func50,ntmps50;go_upto_region 3 with fail;generalize c.alloc (v #[y K a.fl,.iface d e] 125)=s at *
 have w:=i (qs (k m) false (by rw[oc,k N]));have ad:s.cell? ⟨n,0,F⟩=E (y K now):=(k m).cell 0;have ai:=(k m).lt;have ae:s.cell? ⟨c.heap.size,0,F⟩=E (y K a.fl):=(k p).cell 0;have af:s.cell? ⟨c.heap.size,1,F⟩=E (.iface d e):=(k p).cell 1;have ah:=(k p).lt;go_wp2_with fail;refine(k w).mono ?_;rintro H f ⟨rfl,rfl⟩;have u:=i (X.new f #[y K a.fl,.iface d e] 125)
 have x:=i ((G.refl No f).alloc (v #[y K a.fl,.iface d e] 125));have M:=i λj (hb:X j f.heap.size #[y K a.fl,.iface d e] 125)=>uD (k O) hf f.heap.size 1 hb;have J:=i λj Q aa S (Y:G No f j)=>Fp (Y.has (k m) (λt=>t)) (by rw[mO,k L];rfl) Q aa S;clear w;go_wp2_with fail
 go_region_law (first
  |(refine lQ rfl 81 _ _ rfl #[y K now,C (E ⟨f.heap.size,0,F⟩) 1 1] (by simp[Z,aP]) (λj=>by kernel_rfl) _ ((k M) _ (by first|with_reducible exact(k u).drew|with_reducible exact(k u))) ?_;intro aj I q;obtain⟨R,ab,rfl⟩:=aC q.row)
  |(refine eZ rfl 80 _ _ rfl #[b (E ⟨n,30,F⟩),_] (by simp[Z,aP];try rfl) (λj=>by kernel_rfl) (y K 17) (λw'=>w'=I) ((k J) I R (ag now [a]).length ab ((k x).drew.trans q.mod)) ?_;rintro ak rfl))
 all_goals go_wp2
 all_goals go_ret
 all_goals exact⟨rfl,(k P).trans ((k x).drew.trans q.mod)⟩
structure jK (w w':U) (ow:Nat->Nat) (kb:Nat) (now:Int) (pt:Nat->Option Nat) (fl:Nat->Option (O×List B)) (K':aO):Prop where
 ex:∃ow' pt',cW w' ow' kb now pt' fl K'/\(∀k,k<w.heap.size->ow' k=ow k)/\∀j,j<29->pt' j=pt j
 mod:G (λk=>ow k≠0) w w'
theorem Fv{d:U} {s:Nat->Nat} {e:Nat} {now:Int} {pt:Nat->Option Nat} {A:Nat->Option (O×List B)} {c:aO} (u:cW d s e now pt A c) (hl:c.live=true) (aa:c.torn=false) (hi:c.file<2) (hlen:(c.T.b c.file).length+42<=17592186044416) (a:o) (hf:gN now a):Calls T 50 #[b (E ⟨e,0,F⟩),l #[y K a.fl,dh a]] d λt w'=>t=g (y K (gp c (ag now [a])).1)/\jK d w' s e now pt A (gp c (ag now [a])).2:=by
 obtain⟨f,j,hv⟩:=pf a;have x:G No d (d.alloc (v #[y K a.fl,.iface f j] 125)):=(G.refl _ _).alloc _;have b0:=X.new d #[y K a.fl,.iface f j] 125;have aQ:d.heap.size<=(d.alloc (v #[y K a.fl,.iface f j] 125)).heap.size:=x.size;have S:=u.aD x;have J:=u.ptr;rw[hl,if_pos rfl] at J;have ap:=i hv;rw[hv];unfold gp;rw[hl,if_neg (by simp)];simp only;obtain⟨q,D⟩:∃q,fM c.T c.file (ag now [a])=q:=⟨_,rfl⟩;rw[D]
 have ah:=i D;clear D;have m:=i S;have ad:=i u;have Q:=i x;have z:=i b0;have ai:=i J;have af:=i hl;have ao:=i aa;clear u S x b0 J hv hl aa;go_enter func50,ntmps50;go_upto_region 3 with fail;generalize d.alloc (v #[y K a.fl,.iface f j] 125)=M at *;have P:=i (qs (k m).keep.has false (by rw[oc,(k m).torn,k ao]));have aK:M.cell? ⟨e,0,F⟩=E (y K now):=(k m).keep.has.cell 0;have aU:=(k m).keep.has.lt
 have aL:M.cell? ⟨d.heap.size,0,F⟩=E (y K a.fl):=(k z).cell 0;have aM:M.cell? ⟨d.heap.size,1,F⟩=E (.iface f j):=(k z).cell 1;have aT:=(k z).lt;go_wp2_with fail;refine(k P).mono ?_;rintro t p ⟨rfl,rfl⟩;have N:=i (X.new p #[y K a.fl,.iface f j] 125);have R:=i ((G.refl No p).alloc (v #[y K a.fl,.iface f j] 125))
 have aj:=i λn (hb:X n p.heap.size #[y K a.fl,.iface f j] 125)=>uD (k ap) hf p.heap.size 1 hb;have ak:=i (yn hf);have am:=i (uC hf);have ae:=i λn L (H:G No p n) (Y:n.ownsRow 0 5 1 L (ag now [a]).length (cg (ag now [a]))) (av:∀r,L.ownBlock=E r->p.heap.size<=r)=>
  (show Calls T 80 #[b (E ⟨e,30,F⟩),L] n λt w'=>t=g (y K q.1)/\jK d w' s e now pt A { c with T:=q.2,live:=q.1 !=16 } from by
   rw[<-k ah]
   obtain⟨aq,ar,rfl⟩:=aC Y
   have I:=(k m).aD H
   have aW:=(k m).tape.lt
   have aS:s e=1:=(k m).keep.aW
   refine(ye (S:=λr=>s r=30) I.keep.has (by rw[mO,k ai];rfl) (by omega) I.tape c.file hi (by rw[qu,I.file]) aq ar (ag now [a]) (mn Y) (λaB=>by have:=av _ aB;omega) (k ak) (by have:=k am;omega)).mono ?_
   rintro t w' ⟨aD,aE,aF,ab⟩
   obtain⟨ax,ay,aA⟩:=cW.laid (k ad) (bF (k Q).size H.size) ab.size (k af) aE aF ((((k Q).trans H).mono (λ_ _ aH=>aH.elim)).trans ab)
   exact⟨aD,⟨_,_,ax,ay,λaR aN=>pd _ _ _ (by omega)⟩,aA⟩)
 clear P;go_wp2_with fail
 go_region_law (first
  |(refine lQ rfl 81 _ _ rfl #[y K now,C (E ⟨p.heap.size,0,F⟩) 1 1] (by simp[Z,aP]) (λn=>by kernel_rfl) _ ((k aj) _ (by first|with_reducible exact(k N).drew|with_reducible exact(k N))) ?_;intro aX aY w;obtain⟨aI,aV,rfl⟩:=aC w.row)
  |(refine eZ rfl 80 _ _ rfl #[b (E ⟨e,30,F⟩),_] (by simp[Z,aP];try rfl) (λn=>by kernel_rfl) (y K q.1) _ ((k ae) _ _ ((k R).drew.trans w.mod) w.row (λr au=>bF (k R).size (w.new r au))) ?_;intro aZ aw))
 all_goals go_wp2
 all_goals go_ret
 all_goals exact⟨rfl,aw⟩
theorem rZ{a:Int} (c: -9223372036854775808<=a/\a<=9223372036854775807):wrap64 a=a:=by unfold wrap64;omega
theorem sa{c a:Int} (i:1<=c/\c<=20) (hc:1<=a/\a<=6) (d:List Int):gX (eV c a++d)=E ((c,a),d):=by
 unfold gX eV;rw[ir (by omega) (by omega)];show E ((wrap64 (((c - 1)* 6+a - 1).tdiv 6+1),wrap64 (((c - 1)* 6+a - 1).tmod 6+1)),d)=_;rw[rK (by omega),qi (by omega)];have e:((c - 1)* 6+a - 1) / 6+1=c:=by omega
 have f:((c - 1)* 6+a - 1) % 6+1=a:=by omega
 rw[e,f,rZ (by omega),rZ (by omega)]
theorem yt{p:O} (a:(0<=p.rows/\p.rows<9223372036854775808)/\(0<=p.w/\p.w<9223372036854775808)/\0<=p.front/\p.front<9223372036854775808) (c:List Int):mv (jC p++c)=E ((p.rows,p.w,p.front),c):=by
 unfold mv jC;rw[bI,bI,ir a.1.1 a.1.2];simp only[aw];rw[ir a.2.1.1 a.2.1.2];simp only;rw[ir a.2.2.1 a.2.2.2]
theorem yu{p:O} (i:(0<=p.rows/\p.rows<9223372036854775808)/\(0<=p.w/\p.w<9223372036854775808)/\0<=p.front/\p.front<9223372036854775808) (a:0<=p.I/\p.I<9223372036854775808) (c:0<=p.R/\p.R<9223372036854775808) (d:0<=p.n/\p.n<9223372036854775808) (e:0<=p.f/\p.f<9223372036854775808) (f:List Int):kG (gA p++f)=E ({ p with ep:=0 },f):=by
 unfold kG gA;rw[bI,bI,bI,bI,yt i];simp only[aw,mN];rw[ir a.1 a.2];simp only;rw[ir c.1 c.2];simp only;rw[ir d.1 d.2];simp only;rw[ir e.1 e.2];rfl
theorem yv{a:B} {p c:Int} (d:a.pa=p) (e:a.un=c):(⟨a.row,a.P,a.st,p,a.cl,c⟩:B)=a:=by
 subst d e;rfl
theorem yw{now:Int} {a:B} (n:jJ now a) (c:a.wf) (d:List Int):fL now (gi now a++d)=E (a,d):=by
 obtain⟨o,p,t,u,w,q,x⟩:=n;have k:(a.st* 4+a.cl).tdiv 4=a.st:=by rw[rK (by omega)];omega
 have m:(a.st* 4+a.cl).tmod 4=a.cl:=by rw[qi (by omega)];omega
 unfold fL gi;rw[bI,bI,bI,sa o p];simp only[aw];rw[ir (by omega) (by omega)];simp only[k,m];by_cases i:a.st=3
 ·have e:¬a.st=1:=by omega
  obtain⟨j,s,f⟩:=c.bare (.inr i);simp only[if_pos i,if_neg e,List.nil_append];show E ((⟨a.row,a.P,a.st,0,a.cl,0⟩:B),d)=E (a,d);rw[yv j f]
 ·simp only[if_neg i];rw[ir (by omega) (by omega)];by_cases e:a.st=1
  ·have:=q e;have:=c.un;simp only[if_pos e];rw[ir (by omega) (by omega)];simp only;rw[show now+(a.un - now)=a.un by omega,rZ (by omega)]
  ·have f:a.un=0:=by
    have:=c.kW;have:=c.s1;by_cases r:a.st=0
    ·exact(c.bare (.inl r)).2.2
    ·exact c.qZ (by omega)
   simp only[if_neg e,List.nil_append];show E ((⟨a.row,a.P,a.st,a.pa,a.cl,0⟩:B),d)=E (a,d);rw[yv rfl f]
def bp{i:Type} (p:List Int->Option (i×List Int)):Prop:=∀c f d,p c=E (f,d)->∃a,c=a++d/\∀e,p (a++e)=E (f,e)
theorem bp.bind{j β:Type} {p:List Int->Option (j×List Int)} {f:j->List Int->Option (β×List Int)} (q:bp p) (r:∀d,bp (f d)):bp (λc=>aw (p c) f):=by
 intro c t s a;rcases e:p c with _|⟨d,i⟩
 ·simp only[e,aw] at a
  cases a
 ·simp only[e,aw] at a;obtain⟨k,rfl,n⟩:=q c d i e;obtain⟨m,rfl,o⟩:=r d i t s a;refine⟨k++m,by rw[bI],λu=>?_⟩;simp only[bI,n,aw,o]
theorem bp.ret{i:Type} (f:i):bp (λc=>E (f,c)):=λc m j a=>by
 injection a with a;injection a with d e;subst d e;exact⟨[],rfl,λk=>rfl⟩
theorem yx:∀(i:List Int) (e:Nat) (f:Int) {k:Int} {j:List Int},bc i e f=E (k,j)->∃c,i=c++j/\∀d,bc (c++d) e f=E (k,d)
 |[],_,_,_,_,a=>by simp[bc] at a
 |c::i,e,f,k,j,a=>by
  unfold bc at a;by_cases hc:c<128
  ·rw[if_pos hc] at a;injection a with a;injection a with o p;subst o p
   exact⟨[c],rfl,λd=>by
    show bc (c::d) e f=_
    unfold bc
    rw[if_pos hc]⟩
  ·rw[if_neg hc] at a;obtain⟨m,rfl,n⟩:=yx i _ _ a
   exact⟨c::m,rfl,λd=>by
    show bc (c::(m++d)) e f=_
    unfold bc
    rw[if_neg hc]
    exact n d⟩
theorem ix:bp (λa=>bc a 0 0):=λa e d c=>yx a 0 0 c
theorem sf:bp gX:=ix.bind λa=>bp.ret _
theorem yy:bp mv:=ix.bind λa=>ix.bind λc=>ix.bind λd=>bp.ret _
theorem yz:∀(d:Nat) (c:List Int),bp (mN d c)
 |0,c=>bp.ret c
 |d+1,c=>ix.bind λa=>yz d (c++[a])
theorem uE:bp kG:=yy.bind λa=>(yz 4 []).bind λxs=>bp.ret _
theorem bp.ite{m:Type} {d:Prop} [Decidable d] {p e:List Int->Option (m×List Int)} (j:bp p) (k:bp e):bp (λa=>if d then p a else e a):=by
 intro a i f c;by_cases hc:d
 ·simp only[if_pos hc] at c ⊢;exact j a i f c
 ·simp only[if_neg hc] at c ⊢;exact k a i f c
theorem yA(now:Int):bp (fL now):=sf.bind λc=>ix.bind λa=>((bp.ret 0).ite ix).bind λd=>(ix.ite (bp.ret 0)).bind λe=>bp.ret _
theorem bp.torn{j:Type} {p:List Int->Option (j×List Int)} (u:bp p) {a:List Int} {x:j} (hc:∀o,p (a++o)=E (x,o)) {i:Nat} (A:i<a.length) {z:j} {e:List Int} {w:Int} (s:p (a.take i++[w])=E (z,e)):e=[]:=by
 obtain⟨c,k,hd⟩:=u _ _ _ s;by_cases n:e=[]
 ·exact n
 ·exfalso;have hl:=congrArg List.length k;simp only[aJ,dj,dP,im] at hl;have B:0<e.length:=List.length_pos_iff.2 n;have t:c.length<=i:=by omega
  have r:c=a.take c.length:=by
   have f:=congrArg (List.take c.length) k;rw[List.take_append_of_le_length (by simp;omega),List.take_take,List.take_left] at f;rw[Nat.min_eq_left t] at f;exact f.symm
  have q:a=c++a.drop c.length:=by
   conv=>lhs;rw[<-List.take_append_drop c.length a]
   rw[<-r]
  have m:=hd (a.drop c.length);rw[<-q] at m;have d:=hc [];rw[dR,m] at d;injection d with d;injection d with _ d;have:=congrArg List.length d;simp at this;omega
def qv(c:List Int):Option (Int×List Int):=match c with
 |[]=>F
 |a::d=>E (a,d)
def kJ(now:Int):Nat->List B->List Int->Option (List B×List Int)
 |0,a,c=>E (a,c)
 |d+1,a,c=>aw (fL now c) λf e=>kJ now d (a++[f]) e
def lS(now:Int) (d:List Int):Option ((O×List B)×List Int):=
 aw (kG d) λf a=>aw (bc a 0 0) λc a=>aw (bc a 0 0) λe a=>aw (kJ now e.toNat [] a) λi a=>E ((f.at c,i),a)
def sg:O:=⟨0,0,0,0,0,0,0,0⟩
def ph(a:Int) (p:O):o:=⟨a,1,p.at 0,jc,0,0,0,[]⟩
def qw(a:Int) (c:B):o:=⟨a,2,sg,c,0,0,0,[]⟩
def qx(c d a:Int):o:=⟨c,3,sg,⟨d,a,0,0,0,0⟩,0,0,0,[]⟩
def qy(c d a f e:Int):o:=⟨c,4,sg,⟨d,a,0,0,0,0⟩,f,e,0,[]⟩
def qA(e a c d:Int):o:=⟨e,5,⟨a,c,d,0,0,0,0,0⟩,jc,0,0,0,[]⟩
def mQ(a now:Int):o:=⟨a,6,sg,jc,0,0,now,[]⟩
def mR(a:Int) (p:O) (c:List B):o:=⟨a,7,p,jc,0,0,0,c⟩
def canon(a:o):o:=
 if a.kind=1 then ph a.fl a.p
 else if a.kind=2 then qw a.fl a.bV
 else if a.kind=3 then qx a.fl a.bV.row a.bV.P
 else if a.kind=4 then qy a.fl a.bV.row a.bV.P a.bN a.bO
 else if a.kind=5 then qA a.fl a.p.rows a.p.w a.p.front
 else if a.kind=6 then mQ 0 a.now
 else mR a.fl a.p a.S
def cM(now:Int) (c:Int) (e:List Int):Option ((o×Int)×List Int):=
 if c / 32=1 then aw (kG e) λd a=>E ((ph (c % 32) d,now),a)
 else if c / 32=2 then aw (fL now e) λk a=>E ((qw (c % 32) k,now),a)
 else if c / 32=3 then aw (gX e) λd a=>E ((qx (c % 32) d.1 d.2,now),a)
 else if c / 32=4 then aw (gX e) λd a=>aw (gX a) λi a=>E ((qy (c % 32) d.1 d.2 i.1 i.2,now),a)
 else if c / 32=5 then aw (mv e) λd a=>E ((qA (c % 32) d.1 d.2.1 d.2.2,now),a)
 else if c / 32=6 then aw (bc e 0 0) λf a=>E ((mQ (c % 32) (wrap64 (now+f)),wrap64 (now+f)),a)
 else if c / 32=7 then aw (lS now e) λj a=>E ((mR (c % 32) j.1 j.2,now),a)
 else F
def iy(now:Int) (c:List Int):Option ((o×Int)×List Int):=aw (qv c) λa d=>cM now a d
def jL:Nat->Int->List o->List Int->Option ((List o×Int)×List Int)
 |0,now,a,c=>E ((a,now),c)
 |e+1,now,a,c=>aw (iy now c) λd f=>jL e d.2 (a++[d.1]) f
def oe(now:Int) (a:List Int):Option ((List o×Int)×List Int):=aw (bc a 0 0) λc d=>jL c.toNat now [] d
def fO(now:Int) (d:List Int):Option ((List o×Int)×List Int):=aw (oe now d) λe a=>aw (qv a) λc a=>if c=229 then E (e,a) else F
def gO:Nat->Int->List Int->List o×Bool
 |0,_,a=>([],a.isEmpty)
 |c+1,now,a=>if a=[] then([],true) else match fO now a with
  |none=>([],false)
  |some ((es,d),e)=>(es++(gO c d e).1,(gO c d e).2)
theorem pj(a:Nat) (now:Int) (c:List Int):gO (a+1) now c=if c=[] then([],true) else match fO now c with
  |none=>([],false)
  |some ((es,d),e)=>(es++(gO a d e).1,(gO a d e).2):=rfl
structure lT (now:Int) (e:o):Prop where
 k:1<=e.kind/\e.kind<=7
 c:e.kind≠7->gN now e
 s:e.kind=2->e.bV.wf
 fl:e.kind=7->0<=e.fl/\e.fl<32
 p:e.kind=7->(0<=e.p.rows/\e.p.rows<128)/\(0<=e.p.w/\e.p.w<128)/\(0<=e.p.front/\e.p.front<128)/\(∀k,0<=e.p.aZ k/\e.p.aZ k<16384)/\0<=e.p.ep/\e.p.ep<=4611686018427387904
 w:e.kind=7->e.S.length<=120/\∀s∈e.S,jJ now s/\s.wf
def fE:Int->List o->Int
 |now,[]=>now
 |now,a::c=>fE (fm now a) c
def dy:Int->List o->Prop
 |_,[]=>True
 |now,a::c=>lT now a/\dy (fm now a) c
theorem yB{now:Int}:∀(a e:List B),(∀c∈a,jJ now c/\c.wf)->∀d,kJ now a.length e (fK now a++d)=E (e++a,d)
 |[],e,_,d=>by simp[kJ,fK]
 |c::a,e,f,d=>by
  have i:=f c (by simp);show aw (fL now (gi now c++fK now a++d)) _=_;rw[bI,yw i.1 i.2];show kJ now a.length (e++[c]) (fK now a++d)=_;rw[yB a (e++[c]) (λk j=>f k (by simp[j])) d];simp
theorem Fw{now:Int} {a:o} (d:lT now a) (e:a.kind=7) (m:List Int):lS now (jD now a.p a.S++m)=E ((a.p,a.S),m):=by
 obtain⟨n,p,q,c,r,t⟩:=d.p e;obtain⟨u,s⟩:=d.w e;have f:=c 0;have i:=c 1;have j:=c 2;have k:=c 3;simp only[O.aZ] at f i j k;unfold lS jD;rw[bI,bI,bI,yu ⟨⟨n.1,by omega⟩,⟨p.1,by omega⟩,q.1,by omega⟩ ⟨f.1,by omega⟩ ⟨i.1,by omega⟩ ⟨j.1,by omega⟩ ⟨k.1,by omega⟩];simp only[aw];rw[ir r (by omega)];simp only;rw[ir (by omega) (by omega)];simp only
 rw[show((a.S.length:Nat):Int).toNat=a.S.length by omega,yB a.S [] s];rfl
theorem fU{e f:Type} (d:e) (c:List Int) (a:e->List Int->Option (f×List Int)):aw (E (d,c)) a=a d c:=rfl
theorem Fx{now:Int} {a:o} (c:lT now a) (d:List Int):iy now (fk now a++d)=E ((canon a,fm now a),d):=by
 have A:=c.k;unfold fk canon fm;by_cases k:a.kind=1
 ·obtain⟨p,q,r,s⟩:=(c.c (by omega)).start k;have hf:=(c.c (by omega)).fl (by omega);have u:=s 0;have w:=s 1;have x:=s 2;have z:=s 3;simp only[O.aZ] at u w x z;rw[if_pos k,if_pos k,if_neg (by omega)];show cM now (32+a.fl) (gA a.p++d)=_;unfold cM
  rw[if_pos (by omega),yu ⟨⟨p.1,by omega⟩,⟨q.1,by omega⟩,r.1,by omega⟩ ⟨u.1,by omega⟩ ⟨w.1,by omega⟩ ⟨x.1,by omega⟩ ⟨z.1,by omega⟩,fU,show(32+a.fl) % 32=a.fl by omega];rfl
 rw[if_neg k,if_neg k];by_cases f:a.kind=2
 ·have hf:=(c.c (by omega)).fl (by omega);rw[if_pos f,if_pos f,if_neg (by omega)];show cM now (64+a.fl) (gi now a.bV++d)=_;unfold cM;rw[if_neg (by omega),if_pos (by omega),yw ((c.c (by omega)).fill f) (c.s f),fU,show(64+a.fl) % 32=a.fl by omega]
 rw[if_neg f,if_neg f];by_cases m:a.kind=3
 ·have hf:=(c.c (by omega)).fl (by omega);have j:=(c.c (by omega)).at_ (.inl m);rw[if_pos m,if_pos m,if_neg (by omega)];show cM now (96+a.fl) (eV a.bV.row a.bV.P++d)=_;unfold cM;rw[if_neg (by omega),if_neg (by omega),if_pos (by omega),sa j.1 j.2,fU,show(96+a.fl) % 32=a.fl by omega]
 rw[if_neg m,if_neg m];by_cases i:a.kind=4
 ·have hf:=(c.c (by omega)).fl (by omega);have j:=(c.c (by omega)).at_ (.inr i);have hd:=(c.c (by omega)).dest i;rw[if_pos i,if_pos i,if_neg (by omega)];show cM now (128+a.fl) (eV a.bV.row a.bV.P++eV a.bN a.bO++d)=_;unfold cM;rw[if_neg (by omega),if_neg (by omega),if_neg (by omega),if_pos (by omega),bI,sa j.1 j.2,fU,sa hd.1 hd.2,fU,show(128+a.fl) % 32=a.fl by omega]
 rw[if_neg i,if_neg i];by_cases n:a.kind=5
 ·have hf:=(c.c (by omega)).fl (by omega);obtain⟨p,q,r⟩:=(c.c (by omega)).uB n;rw[if_pos n,if_pos n,if_neg (by omega)];show cM now (160+a.fl) (jC a.p++d)=_;unfold cM;rw[if_neg (by omega),if_neg (by omega),if_neg (by omega),if_neg (by omega),if_pos (by omega),yt ⟨⟨p.1,by omega⟩,⟨q.1,by omega⟩,r.1,by omega⟩,fU,show(160+a.fl) % 32=a.fl by omega]
 rw[if_neg n,if_neg n];by_cases e:a.kind=6
 ·obtain⟨p,q,r⟩:=(c.c (by omega)).pass e;rw[if_pos e,if_pos e,if_pos e];show cM now 192 (aN (a.now - now)++d)=_;unfold cM;rw[if_neg (by decide),if_neg (by decide),if_neg (by decide),if_neg (by decide),if_neg (by decide),if_pos (by decide),ir (by omega) (by omega),fU,show now+(a.now - now)=a.now by omega,rZ (by omega)];rfl
 rw[if_neg e,if_neg e,if_neg e];have t:a.kind=7:=by omega
 have hf:=c.fl t;show cM now (224+a.fl) (jD now a.p a.S++d)=_;unfold cM;rw[if_neg (by omega),if_neg (by omega),if_neg (by omega),if_neg (by omega),if_neg (by omega),if_neg (by omega),if_pos (by omega),Fw c t,fU,show(224+a.fl) % 32=a.fl by omega]
theorem yC:∀(es a:List o) (now:Int),dy now es->∀c,jL es.length now a (fq now es++c)=E ((a++es.map canon,fE now es),c)
 |[],a,now,_,c=>by simp[jL,fq,fE]
 |d::es,a,now,e,c=>by
  show aw (iy now (fk now d++fq (fm now d) es++c)) _=_;rw[bI,Fx e.1,fU];show jL es.length (fm now d) (a++[canon d]) _=_;rw[yC es _ _ e.2];simp[fE]
def kK(now:Int) (es:List o):List Int:=aN es.length++fq now es
theorem si(now:Int) (es:List o):ag now es=kK now es++[229]:=rfl
theorem uF{es:List o} {now:Int} (c:dy now es) (hl:es.length<9223372036854775808) (a:List Int):oe now (kK now es++a)=E ((es.map canon,fE now es),a):=by
 unfold oe kK;rw[bI,ir (by omega) (by omega),fU,show((es.length:Nat):Int).toNat=es.length by omega,yC es [] now c];simp
theorem Fy{es:List o} {now:Int} (c:dy now es) (hl:es.length<9223372036854775808) (a:List Int):fO now (ag now es++a)=E ((es.map canon,fE now es),a):=by
 unfold fO;rw[si,bI,uF c hl,fU];show aw (E ((229:Int),a)) _=_;rw[fU,if_pos rfl]
theorem bp.none{c:Type}:bp (λ_=>(F:Option (c×List Int))):=λd f e a=>by cases a
theorem Fz:bp qv:=λc k i a=>by
 cases c with
 |nil=>cases a
 |cons d c=>
  injection a with a;injection a with e f;subst e f;exact⟨[d],rfl,λj=>rfl⟩
theorem yD(now:Int):∀(c:Nat) (a:List B),bp (kJ now c a)
 |0,a=>bp.ret a
 |c+1,a=>(yA now).bind λd=>yD now c (a++[d])
theorem FD(now:Int):bp (lS now):=uE.bind λd=>ix.bind λc=>ix.bind λa=>(yD now a.toNat []).bind λe=>bp.ret _
theorem yE(now c:Int):bp (cM now c):=
 (uE.bind λa=>bp.ret _).ite (((yA now).bind λf=>bp.ret _).ite ((sf.bind λa=>bp.ret _).ite ((sf.bind λa=>sf.bind λe=>bp.ret _).ite ((yy.bind λa=>bp.ret _).ite ((ix.bind λd=>bp.ret _).ite (((FD now).bind λi=>bp.ret _).ite bp.none))))))
theorem FG(now:Int):bp (iy now):=Fz.bind λa=>yE now a
theorem yF:∀(c:Nat) (now:Int) (a:List o),bp (jL c now a)
 |0,now,a=>bp.ret (a,now)
 |c+1,now,a=>(FG now).bind λd=>yF c d.2 (a++[d.1])
theorem yG(now:Int):bp (oe now):=ix.bind λa=>yF a.toNat now []
def yH(a:List Int) (c:Nat) (d:Int):List Int:=a.take c++[d]
theorem FH{es:List o} {now:Int} (e:dy now es) (hl:es.length<9223372036854775808) {c:Nat} {d:Int} (a:c<(kK now es).length\/(c=(kK now es).length/\d≠229)):fO now (yH (ag now es) c d)=F:=by
 unfold fO yH;rw[si];obtain a|⟨a,hs⟩:=a
 ·rw[List.take_append_of_le_length (by omega)];rcases f:oe now ((kK now es).take c++[d]) with _|⟨j,i⟩
  ·rfl
  ·obtain rfl:=(yG now).torn (uF e hl) a f;rfl
 ·rw[List.take_append_of_le_length (by omega),List.take_of_length_le (by omega),uF e hl,fU];show aw (E (d,([]:List Int))) _=_;rw[fU,if_neg hs]
def cG:Int->List (List o)->List Int
 |_,[]=>[]
 |now,a::c=>ag now a++cG (fE now a) c
def jh:Int->List (List o)->Prop
 |_,[]=>True
 |now,a::c=>(dy now a/\a.length<9223372036854775808)/\jh (fE now a) c
def iz:Int->List (List o)->Int
 |now,[]=>now
 |now,a::c=>iz (fE now a) c
theorem yI(now:Int) (es:List o):2<=(ag now es).length:=by
 have:=(dk (es.length:Int)).1;unfold ag;simp only[aJ,dP,im];omega
theorem uG:∀(a:List (List o)) (now:Int),a.length<=(cG now a).length
 |[],_=>by simp[cG]
 |c::a,now=>by
  have d:=yI now c;have e:=uG a (fE now c);simp only[cG,aJ,dP];omega
theorem pk(now:Int) (a:Nat):gO a now []=([],true):=by
 cases a
 ·rfl
 ·unfold gO;rw[if_pos rfl]
theorem uH:∀(a:List (List o)) (now:Int),jh now a->∀(c:Nat) (e:List Int),gO (a.length+c) now (cG now a++e)=((a.map λd=>d.map canon).flatten++(gO c (iz now a) e).1,(gO c (iz now a) e).2)
 |[],now,_,c,e=>by simp[cG,iz]
 |d::a,now,i,c,e=>by
  have k:=uH a (fE now d) i.2 c e;rw[show(d::a).length+c=(a.length+c)+1 by simp;omega]
  rw[pj,if_neg (by
   intro f
   have f:=congrArg List.length f
   have:=yI now d
   simp only[cG,aJ,im] at f
   omega)]
  show(match fO now (ag now d++cG (fE now d) a++e) with
   |none=>([],false)
   |some ((es,j),d)=>(es++(gO (a.length+c) j d).1,(gO (a.length+c) j d).2))=_
  rw[bI,Fy i.1.1 i.1.2];simp only;rw[k];simp[iz]
theorem uI{now:Int} {c:List Int} {i:List o×Int} {e:List Int} (a:fO now c=E (i,e)):e.length<c.length:=by
 unfold fO at a;rcases d:oe now c with _|⟨j,f⟩
 ·rw[d] at a;cases a
 ·rw[d,fU] at a;obtain⟨n,rfl,_⟩:=yG now c j f d
  cases f with
  |nil=>cases a
  |cons k m=>
   have a:(if k=229 then E (j,m) else F)=E (i,e):=a;split at a
   ·injection a with a;injection a with _ a;subst a;simp;omega
   ·cases a
theorem yJ:∀(c j:Nat) (now:Int) (a:List Int),a.length<=c->a.length<=j->gO c now a=gO j now a
 |0,j,now,a,d,_=>by
  obtain rfl:=fS (Nat.le_zero.1 d);rw[pk,pk]
 |c+1,0,now,a,_,d=>by
  obtain rfl:=fS (Nat.le_zero.1 d);rw[pk,pk]
 |c+1,j+1,now,a,k,m=>by
  rw[pj,pj];by_cases hl:a=[]
  ·rw[if_pos hl,if_pos hl]
  ·rw[if_neg hl,if_neg hl];rcases e:fO now a with _|⟨⟨es,f⟩,i⟩
   ·rfl
   ·have:=uI e;simp only;rw[yJ c j f i (by omega) (by omega)]
def jM(a:List Int):List o×Bool:=gO a.length 0 a
theorem uJ{rs:List (List o)} (c:jh 0 rs):jM (cG 0 rs)=((rs.map λd=>d.map canon).flatten,true):=by
 have a:=uH rs 0 c ((cG 0 rs).length - rs.length) [];have e:=uG rs 0;rw[dR,show rs.length+((cG 0 rs).length - rs.length)=(cG 0 rs).length by omega,pk] at a;unfold jM;rw[a];simp
theorem yK{rs:List (List o)} (f:jh 0 rs) {a:List Int} (d:a≠[]) (j:fO (iz 0 rs) a=F):jM (cG 0 rs++a)=((rs.map λk=>k.map canon).flatten,false):=by
 have c:=uH rs 0 f ((cG 0 rs++a).length - rs.length) a;have m:=uG rs 0;have n:0<a.length:=List.length_pos_iff.2 d;rw[show rs.length+((cG 0 rs++a).length - rs.length)=(cG 0 rs++a).length by simp;omega] at c;obtain⟨e,i⟩:∃e,(cG 0 rs++a).length - rs.length=e+1:=⟨(cG 0 rs++a).length - rs.length - 1,by simp;omega⟩;rw[i] at c;unfold jM;rw[c,pj,if_neg d,j];simp
end Go.Proofs.YthhibagcpjeihaaGreat
