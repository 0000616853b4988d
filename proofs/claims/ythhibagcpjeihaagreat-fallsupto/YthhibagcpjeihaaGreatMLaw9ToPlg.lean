import Derived.Test.YthhibagcpjeihaaGreatMRef39ToLaw8
import Derived.Test.YthhibagcpjeihaaGreatMRef26ToFol4
import Derived.Test.YthhibagcpjeihaaGreatMBook7NToBook8
open Go.Proofs.Tryz
open Go.Value renaming int->y,pointer->b,slice->C,bool->W,agg->l
open Go.IntKind renaming i64->K
open Option renaming none->F,some->E
open Go renaming World->U,Value->V
open Go.Proofs.Tryz renaming prog->T
open Go.Ending renaming returned->g
open Go.Obj renaming cells->v
open Nat renaming lt_of_lt_of_le->aG,zero_add->bg
open List renaming getElem?_eq_getElem->cK,take_length->eA,length_nil->im,take_add_one->lq
open Go.World renaming size_alloc->bj
open Array renaming getElem?_toList->dE
open Go.Addr renaming add_mid->dx
namespace Go.Proofs.YthhibagcpjeihaaGreat
open Go.RowKit
open M
set_option linter.unusedVariables false
set_option linter.unusedSimpArgs false
set_option maxRecDepth 100000
set_option maxHeartbeats 4000000
structure oH (P:Nat->z->Prop) (B:U->(Nat->Prop)->Prop) (w0 w':U) (yb:Nat) (av bv:V) (n:Nat):Prop where
 ex:∃who' lv' os',dM P B w0 w' who' yb lv' av bv os' (n+1)
structure BZ (w w5:U) (bb tb wb tob ob:Nat) (S:Array V) (room:Int):Prop where
 box:X w5 bb S 45
 tape:ae w5 (λk=>k=tb) tb ⟨λ_=>[],λ_=>0,room, -1⟩
 aR:X w5 wb #[C F 0 0,y K 0] 72
 told:X w5 tob #[C F 0 0,C F 0 0,C F 0 0,C F 0 0,C F 0 0,C F 0 0,C F 0 0,C F 0 0,W false,W false,W false,W false,W false,W false,W false,W false] 76
 one:X w5 ob #[b (E ⟨tb,0,F⟩),b F,b (E ⟨wb,0,F⟩),b F,b (E ⟨tob,0,F⟩),y K 200,y K 0,W false,y K 0,y K 0,y K 0] 55
 ord:w.heap.size=bb/\tb=bb+1/\wb=bb+2/\tob=bb+3/\ob=bb+4/\w5.heap.size=bb+5
 mod:G No w w5
theorem LU(a:U) (S:Array V) (c:Int):BZ a (((((a.alloc (v S 45)).alloc (v (⟨⟨C F 0 0,[],0⟩,⟨C F 0 0,[],0⟩,⟨C F 0 0,[],0⟩,⟨C F 0 0,[],0⟩,c, -1⟩:D).cells 108)).alloc (v #[C F 0 0,y K 0] 72)).alloc (v #[C F 0 0,C F 0 0,C F 0 0,C F 0 0,C F 0 0,C F 0 0,C F 0 0,C F 0 0,W false,W false,W false,W false,W false,W false,W false,W false] 76)).alloc (v #[b (E ⟨a.heap.size+1,0,F⟩),b F,b (E ⟨a.heap.size+1+1,0,F⟩),b F,b (E ⟨a.heap.size+1+1+1,0,F⟩),y K 200,y K 0,W false,y K 0,y K 0,y K 0] 55)) a.heap.size (a.heap.size+1) (a.heap.size+1+1) (a.heap.size+1+1+1) (a.heap.size+1+1+1+1) S c:=by
 have p:G No (a.alloc (v S 45)) ((a.alloc (v S 45)).alloc (v (⟨⟨C F 0 0,[],0⟩,⟨C F 0 0,[],0⟩,⟨C F 0 0,[],0⟩,⟨C F 0 0,[],0⟩,c, -1⟩:D).cells 108)):=(G.refl _ _).alloc _
 have i:G No ((a.alloc (v S 45)).alloc (v (⟨⟨C F 0 0,[],0⟩,⟨C F 0 0,[],0⟩,⟨C F 0 0,[],0⟩,⟨C F 0 0,[],0⟩,c, -1⟩:D).cells 108)) (((a.alloc (v S 45)).alloc (v (⟨⟨C F 0 0,[],0⟩,⟨C F 0 0,[],0⟩,⟨C F 0 0,[],0⟩,⟨C F 0 0,[],0⟩,c, -1⟩:D).cells 108)).alloc (v #[C F 0 0,y K 0] 72)):=(G.refl _ _).alloc _
 have f:G No (((a.alloc (v S 45)).alloc (v (⟨⟨C F 0 0,[],0⟩,⟨C F 0 0,[],0⟩,⟨C F 0 0,[],0⟩,⟨C F 0 0,[],0⟩,c, -1⟩:D).cells 108)).alloc (v #[C F 0 0,y K 0] 72)) ((((a.alloc (v S 45)).alloc (v (⟨⟨C F 0 0,[],0⟩,⟨C F 0 0,[],0⟩,⟨C F 0 0,[],0⟩,⟨C F 0 0,[],0⟩,c, -1⟩:D).cells 108)).alloc (v #[C F 0 0,y K 0] 72)).alloc (v #[C F 0 0,C F 0 0,C F 0 0,C F 0 0,C F 0 0,C F 0 0,C F 0 0,C F 0 0,W false,W false,W false,W false,W false,W false,W false,W false] 76)):=(G.refl _ _).alloc _
 have d:G No ((((a.alloc (v S 45)).alloc (v (⟨⟨C F 0 0,[],0⟩,⟨C F 0 0,[],0⟩,⟨C F 0 0,[],0⟩,⟨C F 0 0,[],0⟩,c, -1⟩:D).cells 108)).alloc (v #[C F 0 0,y K 0] 72)).alloc (v #[C F 0 0,C F 0 0,C F 0 0,C F 0 0,C F 0 0,C F 0 0,C F 0 0,C F 0 0,W false,W false,W false,W false,W false,W false,W false,W false] 76)) (((((a.alloc (v S 45)).alloc (v (⟨⟨C F 0 0,[],0⟩,⟨C F 0 0,[],0⟩,⟨C F 0 0,[],0⟩,⟨C F 0 0,[],0⟩,c, -1⟩:D).cells 108)).alloc (v #[C F 0 0,y K 0] 72)).alloc (v #[C F 0 0,C F 0 0,C F 0 0,C F 0 0,C F 0 0,C F 0 0,C F 0 0,C F 0 0,W false,W false,W false,W false,W false,W false,W false,W false] 76)).alloc (v #[b (E ⟨a.heap.size+1,0,F⟩),b F,b (E ⟨a.heap.size+1+1,0,F⟩),b F,b (E ⟨a.heap.size+1+1+1,0,F⟩),y K 200,y K 0,W false,y K 0,y K 0,y K 0] 55)):=(G.refl _ _).alloc _
 have j:=X.new a S 45;have k:=DB (a.alloc (v S 45)) c;have m:=X.new ((a.alloc (v S 45)).alloc (v (⟨⟨C F 0 0,[],0⟩,⟨C F 0 0,[],0⟩,⟨C F 0 0,[],0⟩,⟨C F 0 0,[],0⟩,c, -1⟩:D).cells 108)) #[C F 0 0,y K 0] 72
 have n:=X.new (((a.alloc (v S 45)).alloc (v (⟨⟨C F 0 0,[],0⟩,⟨C F 0 0,[],0⟩,⟨C F 0 0,[],0⟩,⟨C F 0 0,[],0⟩,c, -1⟩:D).cells 108)).alloc (v #[C F 0 0,y K 0] 72)) #[C F 0 0,C F 0 0,C F 0 0,C F 0 0,C F 0 0,C F 0 0,C F 0 0,C F 0 0,W false,W false,W false,W false,W false,W false,W false,W false] 76
 have o:=X.new ((((a.alloc (v S 45)).alloc (v (⟨⟨C F 0 0,[],0⟩,⟨C F 0 0,[],0⟩,⟨C F 0 0,[],0⟩,⟨C F 0 0,[],0⟩,c, -1⟩:D).cells 108)).alloc (v #[C F 0 0,y K 0] 72)).alloc (v #[C F 0 0,C F 0 0,C F 0 0,C F 0 0,C F 0 0,C F 0 0,C F 0 0,C F 0 0,W false,W false,W false,W false,W false,W false,W false,W false] 76)) #[b (E ⟨a.heap.size+1,0,F⟩),b F,b (E ⟨a.heap.size+1+1,0,F⟩),b F,b (E ⟨a.heap.size+1+1+1,0,F⟩),y K 200,y K 0,W false,y K 0,y K 0,y K 0] 55
 simp only[bj] at j k m n o;refine⟨(((p.trans i).trans f).trans d).has j (λe=>e),k.aD ((i.trans f).trans d),(f.trans d).has m (λe=>e),d.has n (λe=>e),o,⟨rfl,rfl,rfl,rfl,rfl,by simp only[bj]⟩,(((((G.refl No a).alloc _).trans p).trans i).trans f).trans d⟩
def B7(tb c e d:Nat) (f:Int):z:=
 {kb:=E c,W:=⟨e,λa=>if a=e then 1 else 0,C F 0 0,[],0,eO⟩,mb:=F,tob:=d,okp:=λa=>if a=c then 1 else if a=tb then 30 else 0,owt:=λa=>if a=d then 1 else 0,om:=λ_=>0,now:=0,fl:=eO,
  K:=⟨tb,0,false,true,⟨λ_=>[],λ_=>0,f, -1⟩⟩,most:=200,ch:=0,sh:=false,n0:=0,n1:=0,n2:=0,tl:=λ_=>F,vs:=λ_=>C F 0 0,ns:=λ_=>[],bs:=λ_=>false }
theorem B8:(T.info? 48).map (λa=>(a.zero,a.size,a.bytes))=E (E (b F),1,8):=by kernel_rfl
theorem B9(a:U) (d:TypeId) (c:Nat):Reads (a.alloc (v #[ptrTo c] d)) (C (E ⟨a.heap.size,0,F⟩) 1 1) 1 [ptrTo c]:=
 .inr ⟨⟨a.heap.size,0,F⟩,1,rfl,λf i hu=>by
  have e:=X.new a #[ptrTo c] d
  rw[dx,bg,e.cell,<-dE]
  exact hu⟩
theorem tK:(T.info? 45).map (·.size)=E 25:=by kernel_rfl
theorem wh:(T.underlying 45).map (·.isRow)=E true:=by kernel_rfl
theorem LV:(T.info? 41).map (·.size)=E 16:=by kernel_rfl
theorem j3.oI{S:Array V} (e:j3 S):∃(n a i k:Int) (c:N),lZ S n i k/\S[1]? =E (y K a)/\(-9223372036854775808<=a/\a<=9223372036854775807)/\(∀j d,(Q c).toList[j]? =E d->S[4+j]? =E d)/\(-9223372036854775808<=c.time/\c.time<=9223372036854775807):=by
 have m:=e.size;obtain⟨q,r,H,I,J,L,M,O,P,R,s,t,u,w,x,z,A,B,D,G,aa,ab,ad,X,Y,rfl,o,p⟩:=e.lits;refine⟨q,r,H,I,⟨J,L,M,O,P,R,s,t,u,⟨w,x,z,A,B,D,G,0⟩⟩,⟨m,rfl,rfl,rfl⟩,rfl,o,λj d f=>?_,p⟩;have hl:j<16:=by
  have:=(List.getElem?_eq_some_iff.1 f).1;simpa [Q] using this
 have:j=0\/j=1\/j=2\/j=3\/j=4\/j=5\/j=6\/j=7\/j=8\/j=9\/j=10\/j=11\/j=12\/j=13\/j=14\/j=15:=by omega
 obtain rfl|rfl|rfl|rfl|rfl|rfl|rfl|rfl|rfl|rfl|rfl|rfl|rfl|rfl|rfl|rfl:=this<;>exact f
theorem LW{d:Nat->z->Prop} {B:U->(Nat->Prop)->Prop} (A:me B) (D:∀a I,d a I->d (a+1) I) {p c:U} {who:Nat->Nat} {f:Nat} {lv m n:V} {a:Nat} (q:dM d B p c who f lv m n [] a) {S:Array V} {o t u:Int} (hS:lZ S o t u) (H:o≠1):Calls T 10 #[b (E ⟨f,0,F⟩),l S] c λx w'=>x=g (W true)/\oH d B p w' f m n a:=by
 have j:=X.new c S 45;have b0:=(j.cell 0).trans hS.eJ;have L:=j.lt;have e:=q.still A ((G.refl No c).alloc (v S 45));obtain⟨s,w,rfl⟩:=aC e.row;have J:(c.alloc (v S 45)).cell? ⟨f,0,F⟩=E (C s ([]:List Nat).length w):=e.has.cell 0;simp only[im] at J;have N:=e.has.lt;have r:=i (show oH d B p (c.alloc (v S 45)) f m n a from⟨⟨_,_,_,e.more D⟩⟩);have M:(o==1)=false:=by simpa using H
 clear q j e hS;go_enter func10,ntmps10;go_wp2;go_ret;exact⟨rfl,k r⟩
theorem dM.at{i:Nat->z->Prop} {B:U->(Nat->Prop)->Prop} {p d:U} {who:Nat->Nat} {q:Nat} {lv k m:V} {os:List Nat} {o:Nat} (a:dM i B p d who q lv k m os o) (u:0<os.length):∃c cap,lv=C (E ⟨c,0,F⟩) os.length cap/\c<d.heap.size/\∀j (f:j<os.length),d.cell? ⟨c,j,F⟩=E (ptrTo os[j]):=by
 have n:=a.row;obtain⟨s,t|⟨e,cap,r,hv,_⟩⟩:=a.row
 ·omega
 ·refine⟨e,cap,hv,iX a.row e (by rw[hv];rfl),λj f=>?_⟩;have:=n.cells (by rw[hv];rfl) j (ptrTo os[j]) (by rw[List.getElem?_map,cK f];rfl);rw[dx,bg] at this;exact this
set_option maxHeartbeats 8000000
def jP(c:Int) (a:List Int):Bool:=a.any (λd=>c==d)
theorem LX(d:Int) (a:List Int) (c:Nat) (e:c<a.length):jP d (a.take (c+1))=(jP d (a.take c)||(d==a[c])):=by
 unfold jP;rw[lq,cK e,Option.toList_some,List.any_append];simp only[List.any_cons,List.any_nil,Bool.or_false]
theorem kd.back{k m w':U} {a:Nat->Prop} {n j:Nat} {c:z} {R:fG} {lv d e:V} {i:List Nat} (q:kd m w' a n j c R lv d e i) (f:G No k m):kd k w' a n j c R lv d e i:=by
 obtain⟨⟨o,A,r,s,t⟩,u,w⟩:=q;have:=f.size;exact⟨⟨o,A,r,s,λp x=>(t p x).imp id (λD=>by omega)⟩,u,(f.mono (λ_ _ B=>B.elim)).trans w⟩
structure oJ (w:U) (F:Nat->Prop) (yb ob:Nat) (I:l7) (J:z) (lv av bv:V) (la:List Nat):Prop where
 ask:ny w ob I
 one:X w ob (dA J) 55
 gL:X w yb #[lv,av,bv] 34
 book:fH w F av la
 Ca:F yb
 mJ:F ob
 lt:∀k,F k->k<w.heap.size
 len:la.length<=1099511627776
theorem oJ.mod{w w':U} {e:Nat->Prop} {n m:Nat} {I:l7} {f:z} {lv i j:V} {k:List Nat} (c:oJ w e n m I f lv i j k) (d:G No w w'):oJ w' e n m I f lv i j k:=
 ⟨c.ask.mod d (λ_ a _=>a),d.has c.one (λa=>a),d.has c.gL (λa=>a),c.book.mod (d.mono (λ_ _ a=>a.elim)) (λ_ _ a=>a),c.Ca,c.mJ,λp o=>aG (c.lt p o) d.size,c.len⟩
theorem oJ.cq{j:U} {m:Nat->Prop} {k f:Nat} {I:l7} {n:z} {lv o p:V} {q:List Nat} (a:oJ j m k f I n lv o p q) (e i c d size:Int):Calls T 38 #[b (E ⟨k,0,F⟩),b (E ⟨f,0,F⟩),y K e,l #[y K i,y K c,y K d],y K size] j λr w'=>r=g (W true)/\kd j w' m k f n (iY I.fl e i c d size) lv o p q:=
 LM (n:=e) (r:=i) (c:=c) (e:=d) (size:=size) a.ask a.one a.gL a.book a.Ca a.mJ a.lt a.len
theorem L4{c:U} {q:Nat->Prop} {p n:Nat} {I:l7} {r:z} {lv s t:V} {B:List Nat} (u:oJ c q p n I r lv s t B) {S:Array V} {e f o j m:Int} (hS:lZ S 6 e f) (w:S[20]? =E (y K o)) (x:S[21]? =E (y K j)) (A:S[22]? =E (y K m)):Calls T 17 #[b (E ⟨p,0,F⟩),b (E ⟨n,0,F⟩),l S] c λL w'=>L=g (W true)/\kd c w' q p n r (iY I.fl e o j m f) lv s t B:=by
 have d:=(G.refl No c).alloc (v S 45);have a:=X.new c S 45;have M:=(a.cell 0).trans hS.eJ;have N:=(a.cell 2).trans hS.eS;have R:=(a.cell 3).trans hS.c3;have O:=(a.cell 20).trans w;have P:=(a.cell 21).trans x;have Q:=(a.cell 22).trans A;have J:=a.lt;have CALL:=i ((u.mod d).cq e o j m f);have H:=i d;clear u hS w x A d a;go_enter func17,ntmps17;go_wp2_with fail;refine(k CALL).mono ?_
 rintro Y aa ⟨rfl,hd⟩;have D:=i (hd.back (k H));clear hd CALL M N R O P Q J;go_wp2;go_ret;exact⟨rfl,k D⟩
set_option maxHeartbeats 4000000
def qT(d f:V) (e:Nat):U->(Nat->Prop)->Prop:=λk c=>∃i j,i.length<=e/\j.length<=e/\fH k (λa=>c a\/f.ownBlock=E a) d i/\iH k (λa=>c a\/d.ownBlock=E a) f j
theorem nC(f j:V) (i:Nat):me (qT f j i):=λu w' s t k e hF=>by
 obtain⟨q,r,m,n,o,p⟩:=k;exact⟨q,r,m,n,o.mod (e.mono (λ_ _ a=>.inl a)) (λd c a=>a.imp (hF d c) id),p.mod (e.mono (λ_ _ a=>.inl a)) (λd c a=>a.imp (hF d c) id)⟩
theorem dM.L6{k:Nat->z->Prop} {B r:U->(Nat->Prop)->Prop} (H:∀i I,k i I->k (i+1) I) {q p w':U} {who:Nat->Nat} {m:Nat} {lv w x s t:V} {os:List Nat} {i j:Nat} (c:dM k B q p who m lv w x os i) (Q:j<os.length) {S:Nat->Prop} (n:G S p w') (hS:∀a,S a->a<p.heap.size->a=m\/who a=j+1\/(q.heap.size<=a/\who a=0/\lv.ownBlock≠E a)) (J:X w' m #[lv,s,t] 34) {I':z} (A:ai w' (λa=>who a=j+1) os[j] I') (D:k (i+1) I') (hb:r w' (ma who m lv)):dM k r q w' who m lv s t os (i+1):=by
 have L:=n.size;refine⟨J,n.owns c.row (λa d hs=>?_),λo hi=>?_,λa d=>⟨(c.ik a d).1,aG (c.ik a d).2 L⟩,c.ke,c.jw,by have:=c.nz;omega,c.top,c.mod.trans' n (λa d hl=>?_),hb⟩
 ·obtain⟨R,Y,M⟩:=c.jw a d;obtain f|f|f:=hS a hs (iX c.row a d)
  ·exact M f
  ·omega
  ·exact f.2.2 d
 ·by_cases f:o=j
  ·subst f;exact⟨I',A,D⟩
  ·obtain⟨u,N,O⟩:=c.pN o hi;refine⟨u,N.mod n (λa d hs=>?_),H _ _ O⟩;have d:who a=o+1:=d;obtain e|e|e:=hS a hs (c.ik a (by omega)).2
   ·subst e;have:=c.ke.1;omega
   ·omega
   ·omega
 ·have P:=c.mod.size;obtain e|e|e:=hS a d (by omega)
  ·subst e;have:=c.ke.2;omega
  ·have:=(c.ik a (by omega)).1;omega
  ·have:=e.1;omega
theorem ai.oI{B w':U} {n S:Nat->Prop} {m:Nat} {I I':z} (d:ai B n m I) (i:G S B w') (hs:∀a,n a->S a->a=m) (ad:X w' m (dA I') 55) (aa:I'.kb=I.kb/\I'.okp=I.okp/\I'.om=I.om/\I'.now=I.now/\I'.fl=I.fl/\I'.K=I.K/\I'.tl=I.tl) (ab:I'.owt=I.owt/\I'.tob=I.tob/\I'.vs=I.vs/\I'.ns=I.ns/\I'.bs=I.bs) (j:I'.W=I.W/\I'.mb=I.mb):ai w' n m I':=by
 obtain⟨A,Y,r,s,t,u,w,x⟩:=d.ex;obtain⟨D,o,p,H,J,L,N⟩:=aa;obtain⟨q,O,P,Q,R⟩:=ab;have f:∀a k,A a=k->k≠0->k≠1->¬S a:=λa k af ag ah ae=>by
  have:=hs a (x a (by omega)) ae;subst this;omega
 refine⟨ad,?_,?_,?_,?_,?_,λa c=>aG (d.lt a c) i.size⟩
 ·rw[D,o,p,H,J,L,N];exact d.keep.mod i (λa c=>f a _ (r a c) (by omega) (by omega)) (λa c=>f a _ (u a c) (by omega) (by omega))
 ·rw[j.1];exact d.aR.mod i (λa c=>f a _ (s a c) (by omega) (by omega))
 ·intro M e;rw[j.2] at e;exact(d.may M e).mod i (λa c=>f a _ (w M e a c) (by omega) (by omega))
 ·rw[q,O,P,Q,R];exact d.told.mod i (λa c=>f a _ (t a c) (by omega) (by omega))
 ·refine⟨A,Y,?_,?_,?_,?_,?_,x⟩
  ·rw[o];exact r
  ·rw[j.1];exact s
  ·rw[q];exact t
  ·rw[p];exact u
  ·intro M e;rw[j.2] at e;exact w M e
theorem dM.ju{m:Nat->z->Prop} (H:∀i I,m i I->m (i+1) I) {t q w':U} {who:Nat->Nat} {k:Nat} {lv f d:V} {os:List Nat} {i j r:Nat} {s x:List Nat} (u:dM m (qT f d r) t q who k lv f d os i) (M:j<os.length) {I:z} {R:fG} (A:ai q (λc=>who c=j+1) os[j] I) (J:m (i+1) (I.ju R))
  (N:s.length<=r/\x.length<=r/\fH q (λc=>ma who k lv c\/d.ownBlock=E c) f s/\iH q (λc=>ma who k lv c\/f.ownBlock=E c) d x) (B:∀e,f.ownBlock=E e->t.heap.size<=e) (hd:kd q w' (λc=>ma who k lv c\/d.ownBlock=E c) k os[j] I R lv f d s):∃n,dM m (qT n d (r+1)) t w' who k lv n d os (i+1)/\∀e,n.ownBlock=E e->t.heap.size<=e:=by
 obtain⟨ab,ad,P,Q⟩:=N;obtain⟨⟨n,S,d1,d2,d3⟩,d4,d5⟩:=hd;obtain⟨Y,X,_,_,_,_,_,G⟩:=A.ex;have O:who os[j]=j+1:=G _ (by omega);have aa:=u.mod.size;have w:=P.nh;refine⟨n,?_,λe L=>(d3 e L).elim (B e) (λp=>by omega)⟩;refine u.L6 H M d5 (λc o hl=>?_) d2 (I':=I.ju R) ?_ J ⟨s++[S],x,by simp;omega,by omega,d1,Q.mod (d5.mono (λc _ a=>?_)) (λc o a=>?_)⟩
 ·obtain a|a|a:=o
  ·exact .inl a
  ·exact .inr (.inl (by rw[a];exact O))
  ·refine .inr (.inr ⟨B c a,?_,λp=>w c a (.inl (.inr (.inr p)))⟩);by_cases D:who c=0
   ·exact D
   ·exact absurd (.inl (.inl D)) (w c a)
 ·refine A.oI d5 (λc o hs=>?_) d4 ?_ ?_ ?_
  ·have o:who c=j+1:=o;obtain a|a|a:=hs
   ·subst a;have:=u.ke.1;omega
   ·exact a
   ·exact absurd (.inl (.inl (by omega))) (w c a)
  all_goals
   unfold z.ju;split<;>simp
 ·obtain a|a|a:=a
  ·exact .inl (.inr (.inl a))
  ·exact .inl (.inl (by rw[a];omega))
  ·exact .inr a
 ·obtain a|a:=a
  ·exact .inl a
  ·obtain p|p:=d3 c a
   ·exact .inr p
   ·omega
theorem j3.cur{S:Array V} (d:j3 S):∃e a c:Int,S[20]? =E (y K e)/\S[21]? =E (y K a)/\S[22]? =E (y K c):=by
 obtain⟨n,o,B,D,G,H,I,J,L,M,p,q,r,s,t,u,w,x,z,A,f,i,j,k,m,rfl,_⟩:=d.lits;exact⟨f,i,j,rfl,rfl,rfl⟩
set_option maxHeartbeats 8000000
def nD(I I':z):Prop:=I'.kb=I.kb/\I'.tl=I.tl/\I'.ns=I.ns/\I'.bs=I.bs
theorem bZ.okp{c:Nat} {I:z} (a:bZ c I) (d:Nat->Nat):bZ c { I with okp:=d }:=⟨⟨a.b.same,a.b.ok,a.b.may,a.b.most,a.b.ch,a.b.room,a.b.dU,a.b.file⟩,a.live,a.dead⟩
theorem Cb{c:aO} {a:List Int} (d:c.file<2):(iw c a).2.file<2:=by
 unfold iw;simp only
 repeat' split
 all_goals first|exact d|(show 1 - c.file<2;omega)
theorem Cc{a:aO} {c:List Int} (d:a.file<2):(gp a c).2.file<2:=by
 unfold gp;split<;>exact d
theorem L7{d:aO} {a e:List Int} (c:d.file<2):(cV d a e).2.file<2:=by
 unfold cV
 repeat' split
 ·exact Cc (Cb c)
 ·exact Cb c
 ·exact Cc c
theorem L8{a:aO} {R:Int×u} (c:a.file<2):(cv a R).file<2:=by
 unfold cv;show(if R.1=0 then 1 - a.file else a.file)<2;split<;>omega
theorem Ma{c:aO} {now:Int} {d:Y} (a:c.file<2):(eR now d c).2.file<2:=by
 unfold eR
 repeat' split
 ·exact a
 ·exact a
 ·exact L8 a
theorem Cd(now:Int) (c:Y) (a:aO):(eR now c a).2.tb=a.tb:=by
 unfold eR cv
 repeat' split
 all_goals rfl
theorem Mb{aa:U} {ab:Nat->Prop} {Y q X:Nat} {I:z} (L:ai aa ab Y I) (w:bZ q I) (u:q+1<=1048577) (t:I.kb=E X) (a:N) (S: -9223372036854775808<=a.time/\a.time<=9223372036854775807):Calls T 15 #[b (E ⟨Y,0,F⟩),l (Q a)] aa λe w'=>e=g (W true)/\gR aa w' ab Y (λI'=>bZ (q+1) I'/\nD I I'):=by
 have c:=w.b;have au:=c.most;have ar:=c.tG;have ap:=c.ch;have aq:=c.dU;have av:=c.ok.time;have s:0<=I.now/\I.now<=4611686018427387000:=by omega
 have aj:=λah (hi:ah<4)=>(L.ij.last ah hi).1
 cases hl:I.K.live with
 |true=>
  obtain⟨_,n,P,x⟩:=w.live hl;have O:=vZ c.ok x;have am:=x.size;have ao:((ay I.now I.fl).length:Int)<=I.most:=by have:=tw c.ok;omega
  by_cases H:(aA I.now I.fl a).1=0
  ·obtain⟨n',r,hd⟩:∃n' r,aA I.now I.fl a=(0,n',r):=⟨_,_,by rw[<-H]⟩;have cH:vX I.K (da I a).2 (da I a).1 I.now n' I.fl r (I.most+60* I.ch) I.most:=Lq (C:=I.most) x hl c.ok hd ao (by omega) aj;have af:=c.ok.step hd (by omega);refine(vU L t a S s (by omega) (by omega) (by rw[n,hl];rfl) c.same (λad pt D=>tm D s O (by omega) a) (λ_ e J=>?_) (λ_ e=>(cH.dead e).2.1)).mono ?_
   ·have:=(cH.space e).2.2;rw[cH.room] at J;omega
   ·rintro e w' ⟨B,⟨I',p,A⟩,G⟩;refine⟨B,⟨I',p,?_⟩,G⟩;have ag:=vM p.aR.aR;have R:=p.aR.same.weight;obtain⟨d,_⟩|⟨_,d,_⟩|⟨_,_,d,o,f,m,k,rfl⟩|⟨_,_,d,o,rfl⟩|⟨_,_,d,o,f,m,k,rfl⟩:=A
    ·exact absurd H d
    ·rw[n] at d;cases d
    ·obtain⟨t1,t2⟩:=cH.ok d;have ag:200<=bB f.xs/\bB f.xs<=100000:=ag;have R:bB f.xs=dL f.fl 21:=R;rw[hd] at m k;have m:f.now=n':=m;have k:f.fl=r:=k;rw[k] at R;refine⟨⟨⟨?_,?_,λM i=>?_,?_,?_,?_,u,t2.hf⟩,λ_=>⟨⟨X,t⟩,n,P,?_⟩,λj=>?_⟩,rfl,rfl,rfl,rfl⟩
     ·show f.now=(aA I.now I.fl a).2.1/\f.fl=(aA I.now I.fl a).2.2;rw[hd];exact⟨m,k⟩
     ·show bh ((q+1:Nat):Int) (aA I.now I.fl a).2.1 (aA I.now I.fl a).2.2;rw[hd];exact af
     ·have i:I.mb=E M:=i;rw[P] at i;cases i
     ·show dL (aA I.now I.fl a).2.2 21<=max I.most (bB f.xs)/\max I.most (bB f.xs)<=1000000;rw[hd];show dL r 21<=_/\_;omega
     ·show 0<=I.ch+1/\I.ch+1<=((q+1:Nat):Int);omega
     ·show ¬(da I a).2.T.room<200;rw[cH.room];exact c.room
     ·show cP (da I a).2.T (da I a).2.file (da I a).2.torn (aA I.now I.fl a).2.1 (aA I.now I.fl a).2.2 (max I.most (bB f.xs)+60* (I.ch+1));rw[hd];exact t2.more (by omega)
     ·have j:(da I a).2.live=false:=j;rw[t1] at j;cases j
    ·obtain⟨t1,t2,_⟩:=cH.space d;refine⟨⟨⟨c.same,c.ok.more (by omega) (by omega),λM i=>?_,c.most,?_,?_,u,t2.hf⟩,λ_=>⟨⟨X,t⟩,n,P,t2⟩,λj=>?_⟩,rfl,rfl,rfl,rfl⟩
     ·have i:I.mb=E M:=i;rw[P] at i;cases i
     ·show 0<=I.ch/\I.ch<=((q+1:Nat):Int);omega
     ·show ¬(da I a).2.T.room<200;rw[cH.room];exact c.room
     ·have j:(da I a).2.live=false:=j;rw[t1] at j;cases j
    ·obtain⟨t1,t2,t3⟩:=cH.dead d;rw[hd] at m k;have m:f.now=n':=m;have k:f.fl=r:=k;refine⟨⟨⟨c.same,c.ok.more (by omega) (by omega),λM i=>?_,c.most,?_,?_,u,?_⟩,λj=>?_,λ_=>⟨?_,.inr rfl⟩⟩,rfl,rfl,rfl,rfl⟩
     ·have i:E f=E M:=i;injection i with i;subst i;rw[m,k];exact⟨af,a,hd⟩
     ·show 0<=I.ch+1/\I.ch+1<=((q+1:Nat):Int);omega
     ·show ¬(da I a).2.T.room<200;rw[cH.room];exact c.room
     ·show(da I a).2.file<2;exact L7 c.file
     ·have j:(da I a).2.live=true:=j;rw[t1] at j;cases j
     ·show dv (da I a).2.T I.now I.fl (E (f.now,f.fl)) (I.most+60* (I.ch+1)) I.most;rw[m,k];exact t3.more (by omega) (Int.le_refl _)
  ·refine(vU L t a S s (by omega) (by omega) (by rw[n,hl];rfl) c.same (λad pt D=>tm D s O (by omega) a) (λJ=>absurd J H) (λJ=>absurd J H)).mono ?_;rintro e w' ⟨B,⟨I',p,A⟩,G⟩;refine⟨B,⟨I',p,?_⟩,G⟩;obtain⟨_,o,rfl⟩|⟨d,_⟩|⟨d,_⟩|⟨d,_⟩|⟨d,_⟩:=A
   ·exact⟨(w.more u).okp o,rfl,rfl,rfl,rfl⟩
   all_goals exact absurd d H
 |false=>
  obtain⟨x,ak⟩:=w.dead hl;have n:I.sh=true:=by
   obtain e|e:=ak
   ·rw[t] at e;cases e
   ·exact e
  obtain⟨O,am⟩:=BL c.ok x c.file (by omega) (by omega);have ae:da I a=(17,I.K):=Bq hl;refine(vU L t a S s (by omega) (by omega) (by rw[n,hl];rfl) c.same (λad pt D=>tm D s O (by omega) a) (λ_ e=>by rw[ae] at e;cases e) (λ_ e=>by rw[ae] at e;cases e)).mono ?_;rintro e w' ⟨B,⟨I',p,A⟩,G⟩;refine⟨B,⟨I',p,?_⟩,G⟩;obtain⟨_,o,rfl⟩|⟨_,_,o,rfl⟩|⟨_,d,_⟩|⟨_,d,_⟩|⟨_,d,_⟩:=A
  ·exact⟨(w.more u).okp o,rfl,rfl,rfl,rfl⟩
  ·exact⟨(w.more u).okp o,rfl,rfl,rfl,rfl⟩
  all_goals rw[n] at d;cases d
structure qU (w wx:U) (O:Nat->Prop) (ob n:Nat) (I I1:z) (e:Int):Prop where
 one:ai wx (grow O w wx) ob I1
 mod:G O w wx
 oK:kS (n+1) I1
 Ce:nD I I1/\I1.sh=I.sh/\I1.most=I.most/\I1.ch=I.ch/\I1.W=I.W/\I1.K.tb=I.K.tb/\I1.mb=I.mb
 err:e=if I.sh=true then 17 else(eR I.now I.fl I.K).1
 shut:I.sh=true->bZ (n+1) I1
 ok:I.sh=false->e=0->I1.K.live=true/\I1.mb=F/\cP I1.K.T I1.K.file I1.K.torn I1.now I1.fl (dL I1.fl 21)
 space:I.sh=false->e=15->bZ (n+1) I1/\¬(2* I.most+60* (I.ch+1)+180<=I1.K.T.room)
 dead:I.sh=false->e=16->I1.K.live=false/\I1.K.T.fuse=0/\I1.mb=F/\dv I1.K.T I1.now I1.fl F (I1.most+60* I1.ch) I1.most
 alt:I.sh=false->e=0\/e=15\/e=16
theorem Mc{k:U} {r:Nat->Prop} {B i f:Nat} {I:z} (p:ai k r B I) (d:bZ i I) (w:i+1<=1048577) (e:I.kb=E f):Calls T 30 #[b (E ⟨f,0,F⟩)] k λa w'=>∃o:Int,a=g (y K o)/\∃j,qU k w' r B i I { I with okp:=j,K:=(eR I.now I.fl I.K).2 } o:=by
 have c:=d.b;have N:=c.most;have ae:=c.tG;have ab:=c.ch;have ad:=c.dU;have s:=λn (hi:n<4)=>(p.ij.last n hi).1;obtain⟨⟨pt,u⟩,_⟩:=p.keep.some f e;have L:nn I.now I.fl I.K:=by
  cases hl:I.K.live with
  |true=>exact vZ c.ok (d.live hl).2.2.2
  |false=>exact(BL c.ok (d.dead hl).1 c.file (by omega) (by omega)).1
 refine(KD u L).mono ?_;rintro a w' ⟨rfl,⟨P,Q,R,S,X⟩,Y⟩;have hd:gH k w' I.okp f pt I.now I.fl (eR I.now I.fl I.K).2:=⟨⟨P,Q,R,S,λn aa D=>X n D⟩,Y⟩;obtain⟨j,o,O,_,_⟩:=p.kept e (G.refl No k) u hd (Cd _ _ _);have A:(eR I.now I.fl I.K).2.T.room=I.K.T.room:=by
  cases hl:I.K.live with
  |true=>
   have cH:=BD (C:=dL I.fl 21) (d.live hl).2.2.2 hl c.ok (tw c.ok) s;exact cH.room
  |false=>
   unfold eR;rw[if_pos hl]
 have x:kS (i+1) { I with okp:=j,K:=(eR I.now I.fl I.K).2 }:=⟨c.same,c.ok.more (by omega) (by omega),λM t=>⟨(c.may M t).1.more (by omega) (by omega),(c.may M t).2⟩,c.most,by show 0<=I.ch/\I.ch<=((i+1:Nat):Int);omega,by show ¬(eR I.now I.fl I.K).2.T.room<200;rw[A];exact c.room,w,Ma c.file⟩;refine⟨_,rfl,j,o,O,x,⟨⟨rfl,rfl,rfl,rfl⟩,rfl,rfl,rfl,rfl,Cd _ _ _,rfl⟩,?_,?_,?_,?_,?_,?_⟩
 ·cases hl:I.K.live with
  |true=>rw[if_neg (by rw[(d.live hl).2.1];simp)]
  |false=>
   have:I.sh=true:=by
    obtain a|a:=(d.dead hl).2
    ·rw[e] at a;cases a
    ·exact a
   rw[if_pos this];unfold eR;rw[if_pos hl]
 ·intro hs;have hl:I.K.live=false:=by
   cases hl:I.K.live with
   |true=>have:=(d.live hl).2.1;rw[hs] at this;cases this
   |false=>rfl
  have J:(eR I.now I.fl I.K).2=I.K:=by unfold eR;rw[if_pos hl]
  rw[J];exact(d.more w).okp j
 all_goals intro hs
 all_goals
  have hl:I.K.live=true:=by
   cases hl:I.K.live with
   |true=>rfl
   |false=>
    obtain a|a:=(d.dead hl).2
    ·rw[e] at a;cases a
    ·rw[hs] at a;cases a
  obtain⟨_,_,q,H⟩:=d.live hl;have cH:=BD (C:=dL I.fl 21) H hl c.ok (tw c.ok) s
 ·intro a;obtain⟨t1,t2⟩:=cH.ok a;exact⟨t1,q,t2⟩
 ·intro a;obtain⟨t1,t2,t3⟩:=cH.space a;refine⟨⟨x,λ_=>⟨⟨f,e⟩,hs,q,t2⟩,λm=>?_⟩,?_⟩
  ·have m:(eR I.now I.fl I.K).2.live=false:=m;rw[t1] at m;cases m
  ·show ¬(2* I.most+60* (I.ch+1)+180<=(eR I.now I.fl I.K).2.T.room);rw[A];omega
 ·intro a;obtain⟨t1,t2,t3⟩:=cH.dead a;exact⟨t1,t2,q,(t3 F).more (Int.le_refl _) N.1⟩
 ·exact cH.err
theorem Md{a:Nat->Prop} {d e f:U} (k:e.heap.size<=f.heap.size) (c:Nat) (i:grow a d e c):grow a d f c:=i.imp id (λj=>⟨j.1,by omega⟩)
theorem ai.wj{d i e:U} {f:Nat->Prop} {j:Nat} {I:z} (k:ai e (grow f d i) j I) (hl:∀c,f c->c<d.heap.size) (n:d.heap.size<=i.heap.size) (m:i.heap.size<=e.heap.size):ai e (grow f d e) j I:=
 k.iI (λc a=>Md m c a) (λc a=>by
  obtain a|a:=a
  ·have:=hl c a;omega
  ·exact a.2)
theorem qU.still{e o p:U} {c:Nat->Prop} {n m:Nat} {I i:z} {j:Int} (a:qU e o c n m I i j) (hl:∀k,c k->k<e.heap.size) (d:G No o p):qU e p c n m I i j:=
 ⟨(a.one.mod d (λ_ _ f=>f)).wj hl a.mod.size d.size,a.mod.trans (d.mono (λ_ _ f=>f.elim)),a.oK,a.Ce,a.err,a.shut,a.ok,a.space,a.dead,a.alt⟩
theorem Me{p:U} {s:Nat->Prop} {c m ao:Nat} {I:z} (A:ai p s c I) (aR:bZ m I) (a0:m+1<=1048577) (ak:I.kb=E ao):Calls T 16 #[b (E ⟨c,0,F⟩)] p λf w'=>f=g (W true)/\gR p w' s c (λI'=>bZ (m+1) I'/\nD I I'):=by
 have ax:=i (Mc A aR a0 ak);have H:=A.has.cell 1;rw[show(dA I)[1]? =E (fj I.kb) from rfl,ak] at H;have H:p.cell? ⟨c,1,F⟩=E (b (E ⟨ao,0,F⟩)):=H;have a4:=A.has.lt;have ae:=i A.lt;have aw:=i A.qS;clear A aR;go_enter func16,ntmps16;go_wp2_with fail;refine(k ax).mono ?_;rintro f w ⟨bb,rfl,a3,o⟩;obtain⟨a,aE⟩:∃a,a={ I with okp:=a3,K:=(eR I.now I.fl I.K).2 }:=⟨_,rfl⟩;rw[<-aE] at o;clear aE ax H a4
 have j:=o.one.has;have t0:w.cell? ⟨c,0,F⟩=E (b (E ⟨a.K.tb,0,F⟩)):=j.cell 0;have t5:w.cell? ⟨c,5,F⟩=E (y K a.most):=j.cell 5;have t6:w.cell? ⟨c,6,F⟩=E (y K a.ch):=j.cell 6;have a6:=j.lt;obtain⟨aY,aM,aN⟩:=o.one.ij.room;have aL:0<=a.most/\a.most<=1000000:=⟨by have:=o.oK.tG;omega,o.oK.most.2⟩;have aF:0<=a.ch/\a.ch<=1099511627776:=by have:=o.oK.ch;have:=o.oK.dU;omega
 have ay:=i λm=>rC a.K.tb a.K.T.room (w.drewN m) aY (aM.drewN m) aN;have au:=i λm=>vg a.most a.ch a.K.T.room aL aF (w.drewN m);have aB:=i o;clear o j aM aN aL aF;go_upto_region 2 with fail;go_cut [4] (λa5 ba=>a5=W (decide (2* a.most+60* (a.ch+1)+180<=a.K.T.room))/\Hid (∃m,ba=w.drewN m))
 case first=>
  go_quiet (first|(go_at_call 28;exact Calls.quiet_of_same ((k ay) _))|(go_at_call 21;exact Calls.quiet_of_same ((k au) _)));go_wp2;go_meet;exact⟨rfl,_,rfl⟩
 case rest=>
  obtain⟨rfl,aQ⟩:=hcut
  apply_assumption
  have d:=i (show qU p wc s c m I a bb from by
   obtain⟨a2,rfl⟩:=k aQ
   exact(k aB).still (k ae) ((G.refl No w).drewN a2))
  clear t0 t5 t6 a6 ay au aB aQ;have j:=(k d).one.has;have aa:wc.cell? ⟨c,7,F⟩=E (W a.sh):=j.cell 7;have aT:=j.lt;have aS:=j.frozen;obtain⟨⟨O,P,Q,R⟩,t,aj,ah,aK,aI,aH⟩:=(k d).Ce;have ag:=(k d).err
  cases q:I.sh with
  |true=>
   rw[q] at t;rw[t] at aa;rw[if_pos q] at ag;subst ag;have r:=i (show gR p wc s c (λI'=>bZ (m+1) I'/\nD I I') from⟨⟨a,(k d).one,(k d).shut q,O,P,Q,R⟩,(k d).mod⟩);clear d j O P Q R t aj ah aK aI aH q;go_wp2;go_ret;exact⟨rfl,k r⟩
  |false=>
   rw[q] at t;rw[t] at aa;have af:=i q;have ad:=i (show nD I a from⟨O,P,Q,R⟩);have av:=i (show a.most=I.most/\a.ch=I.ch from⟨aj,ah⟩);have aW:=i t;have halt:=(k d).alt q;clear O P Q R t aj ah aK aI aH q ag;obtain rfl|rfl|rfl:=halt
   ·have a7:wc.cell? ⟨c,2,F⟩=E (b (E ⟨a.W.wb,0,F⟩)):=j.cell 2;have a8:wc.cell? ⟨c,5,F⟩=E (y K a.most):=j.cell 5;have a9:wc.cell? ⟨c,6,F⟩=E (y K a.ch):=j.cell 6;have u:G (λe=>e=c) wc (wc.setCell ⟨c,6,F⟩ (y K 0)):=(G.refl _ wc).at 6 _;have J:=j.set 6 (y K 0)
    have am:iZ (wc.setCell ⟨c,6,F⟩ (y K 0)) a.W:=(k d).one.aR.mod u (λe S (f:e=c)=>by
     obtain⟨bd,H,_,aX,_⟩:=(k d).one.ex
     have:=aX e S
     rw[f] at this;omega)
    have aA:=i (AV am.aR am.tidy);have aq:=i J;have x:=i u;clear u J am j;go_wp2_with fail;refine(k aA).mono ?_;rintro f D ⟨rfl,B⟩;have L:=B.has (k aq) (λap=>ap);have bh:D.cell? ⟨c,5,F⟩=E (y K a.most):=L.cell 5;have bk:=L.lt;have bi:=L.frozen;have aD:=L.set 5 (y K (bB a.W.xs));have Y:G (λe=>e=c) wc (D.setCell ⟨c,5,F⟩ (y K (bB a.W.xs))):=((k x).trans (B.mono (λ_ _ ap=>ap.elim))).at 5 _
    have aV:=(k d).one.oI (I':={ a with ch:=0,most:=bB a.W.xs }) Y (λe _ f=>f) aD ⟨rfl,rfl,rfl,rfl,rfl,rfl,rfl⟩ ⟨rfl,rfl,rfl,rfl,rfl⟩ ⟨rfl,rfl⟩;have aO:=(k d).one.aR.same.weight;have a1:=vM (k d).one.aR.aR
    have r:=i (show gR p (D.setCell ⟨c,5,F⟩ (y K (bB a.W.xs))) s c (λI'=>bZ (m+1) I'/\nD I I') from by
     have n:=(k d).oK
     obtain⟨t1,t2,t3⟩:=(k d).ok (k af) rfl
     rw[n.same.2] at aO
     obtain⟨f1,f2,f3,f4⟩:=k ad
     refine⟨⟨_,aV.wj (k ae) (k d).mod.size Y.size,⟨⟨n.same,n.ok,n.may,?_,?_,n.room,n.dU,n.file⟩,λhl=>⟨?_,k aW,t2,?_⟩,λhl=>?_⟩,f1,f2,f3,f4⟩,(k d).mod.trans (Y.mono (λe _ (f:e=c)=>by rw[f];exact k aw))⟩
     ·show dL a.fl 21<=bB a.W.xs/\bB a.W.xs<=1000000
      omega
     ·show(0:Int)<=0/\(0:Int)<=((m+1:Nat):Int)
      omega
     ·exact⟨ao,f1.trans ak⟩
     ·show cP a.K.T a.K.file a.K.torn a.now a.fl (bB a.W.xs+60* 0)
      exact t3.more (by omega)
     ·have hl:a.K.live=false:=hl
      rw[t1] at hl;cases hl)
    clear B L aD Y aV aA d aO a1 aq x a7 a8 a9 aa aT aS;go_wp2;go_ret;exact⟨rfl,k r⟩
   ·obtain⟨t1,t2⟩:=(k d).space (k af) rfl;rw[<-(k av).1,<-(k av).2] at t2;have bf:decide (2* a.most+60* (a.ch+1)+180<=a.K.T.room)=false:=by simpa using t2
    have r:=i (show gR p wc s c (λI'=>bZ (m+1) I'/\nD I I') from⟨⟨a,(k d).one,t1,k ad⟩,(k d).mod⟩);clear d j t1 t2;go_wp2;go_ret;exact⟨rfl,k r⟩
   ·obtain⟨t1,t2,t3,t4⟩:=(k d).dead (k af) rfl;have u:G (λe=>e=c) wc (wc.setCell ⟨c,7,F⟩ (W true)):=(G.refl _ wc).at 7 _;have J:=j.set 7 (W true);have ab:=(k d).one.oI (I':={ a with sh:=true }) u (λe _ f=>f) J ⟨rfl,rfl,rfl,rfl,rfl,rfl,rfl⟩ ⟨rfl,rfl,rfl,rfl,rfl⟩ ⟨rfl,rfl⟩;have N:=i ab;have x:=i u;have ar:=i (tB (tb:=a.K.tb) ab.has rfl ab.ij t2)
    have aC:=i (show bZ (m+1) { a with sh:=true } from by
     have n:=(k d).oK
     refine⟨⟨n.same,n.ok,n.may,n.most,n.ch,n.room,n.dU,n.file⟩,λhl=>?_,λ_=>⟨?_,.inr rfl⟩⟩
     ·have hl:a.K.live=true:=hl
      rw[t1] at hl;cases hl
     ·show dv a.K.T a.now a.fl (a.mb.map λM=>(M.now,M.fl)) (a.most+60* a.ch) a.most
      rw[t3]
      exact t4)
    clear u J ab t1 t2 t3 t4 j;go_wp2_with fail;refine(k ar).mono ?_;rintro f D ⟨rfl,t7,B⟩;have aZ:a.okp a.K.tb=30:=(k N).ij.cd;have X:G (λe=>a.okp e=30) (wc.setCell ⟨c,7,F⟩ (W true)) D:=B.mono (λe _ (f:e=a.K.tb)=>by rw[f];exact aZ);have aU:=(k N).pJ t7 X
    have r:=i (show gR p D s c (λI'=>bZ (m+1) I'/\nD I I') from by
     have bc:=(k d).mod.size
     have bl:=(k x).size
     have bm:=X.size
     refine⟨⟨{ a with sh:=true },ai.wj aU (k ae) bc (by omega),k aC,k ad⟩,((k d).mod.trans ((k x).mono (λe _ (f:e=c)=>by rw[f];exact k aw))).trans' X (λe S hl=>?_)⟩
     obtain f|f:=(k N).kT e (by have S:a.okp e=30:=S;show a.okp e≠0;omega)
     ·exact f
     ·omega)
    clear t7 B X aU N x ar d aC aa aT aS;go_wp2;go_ret;exact⟨rfl,k r⟩
def Mf(i:U->Array V->Prop) (n:U) (a:Option Addr) (m:Nat):Prop:=∀d,G No n d->∀f,f<m->∃(e off:Nat) (c:Array V) (k j:Int),a=E ⟨e,off,F⟩/\d.rangeAt e (off+f* 25) c.toList/\e<d.heap.size/\c.size=25/\c[0]? =E (y K k)/\c[4]? =E (y K j)/\i d c
theorem Mg{X:U->Array V->Prop} (ab:∀e u S,X e S->G No e u->X u S) {w:U} (a:Option Addr) (r cap:Nat) (a8:r<=651562446089) (av:Mf X w a r) (af aX:Nat) (d:List Int) (au:∀c (a2:c<d.length),w.cell? ⟨af,c,F⟩=E (y K d[c])) (aU:af<w.heap.size) (a5:d.length<=100) (B:Bool)
  (p:Nat->U->Prop) (J:p 0 (w.alloc (v #[C F 0 0,C F 0 0,C F 0 0] 34))) (H:∀n e,p n e->G No w e) (O:∀n e,p n e->p (n+1) e) (N:∀n e u,p n e->G No e u->p n u) (I:∀n e (S:Array V) (f q:Int),n<r->p n e->X e S->S[0]? =E (y K f)->S[4]? =E (y K q)->jP f d=true->(B=true\/¬(f=2/\q=9))->Calls T 10 #[ptrTo w.heap.size,l S] e λo w'=>o=g (W true)/\p (n+1) w')
  (P:∀n e,p n e->Calls T 11 #[b (E ⟨w.heap.size,1,F⟩)] e λo w'=>o=g (W true)/\p n w'):Calls T 8 #[C a r cap,C (E ⟨af,0,F⟩) d.length aX,W B] w λo w'=>o=g (W true)/\G No w w':=by
 have aK:=i av;have aH:=i au;have J:=i J;have ab:=i ab;have H:=i H;have O:=i O;have N:=i N;have I:=i I;have P:=i P;unfold ptrTo at I;clear av au;go_enter func8,ntmps8;go_wp2_with fail;go_loopw [8] (λaZ wr=>∃j:Nat,aZ=y K j/\j<=r/\Hid (p j wr)) (λah _=>r - (intOf ah).toNat)
 case atStart=>exact⟨0,rfl,by omega,J⟩
 case round=>
  obtain⟨j,rfl,hi,t⟩:=hrel;clear J;by_cases ax:j<r
  ·have aT:(j:Int)<(r:Int):=by omega
   have a6:(0:Int)<=j:=by omega
   have a7:K.wrap ((j:Int)+1)=((j+1:Nat):Int):=by rw[aB _ (by omega) (by omega)];rfl
   have ag:=(k H) _ _ (k t);obtain⟨R,off,S,f,q,rfl,M,hb,aC,ae,ad,aw⟩:=(k aK) wr ag j ax;have aq:=i aw;clear aw;have s:wr.cell? ⟨R,off+j* 25,F⟩=E (y K f):=by
    have:=M 0 (y K f) (by rw[dE];exact ae);rw[Nat.add_zero] at this;exact this
   have x:wr.cell? ⟨R,off+j* 25+4,F⟩=E (y K q):=M 4 (y K q) (by rw[dE];exact ad);have ak:=i M;have aI:=i ae;have aF:=i ad;have aN:=i aC;have Q:=i ag;clear M ae ad aC ag;go_upto_block 2 with fail;go_cut [9,10] from 20 to 38 (λai A D=>ai=W (jP f d)/\A=y K (d.length:Nat)/\Hid (G No wr D))
   case first=>
    go_wp2_with fail;go_loopw [9,10] (λai A D=>∃c:Nat,A=y K c/\c<=d.length/\ai=W (jP f (d.take c))/\Hid (G No wr D)) (λ_ A _=>d.length - (intOf A).toNat)
    case atStart=>exact⟨0,rfl,by omega,rfl,G.refl _ _⟩
    case round=>
     obtain⟨c,rfl,z,rfl,m⟩:=hrel;by_cases ay:c<d.length
     ·have aV:(c:Int)<(d.length:Int):=by omega
      have a9:(0:Int)<=c:=by omega
      have ba:K.wrap ((c:Int)+1)=((c+1:Nat):Int):=by rw[aB _ (by omega) (by omega)];rfl
      have a1:=fF ((k Q).trans (k m)) ((k aH) c ay);have a0:=fF (k m) s;have ao:=i (LX f d c ay);have ar:=aG hb (k m).size;have bb:=aG (aG aU (k Q).size) (k m).size;clear s x;generalize d[c]=bc at *;generalize jP f (d.take c)=aY at *
      cases aY with
      |true=>
       go_wp2_with fail;go_quiet (fail);go_wp2;exact⟨⟨c+1,rfl,by omega,by rw[k ao];rfl,(k m).drewN _⟩,by simp[intOf];omega⟩
      |false=>
       go_wp2_with fail;go_quiet (fail);go_wp2;exact⟨⟨c+1,rfl,by omega,by rw[k ao];simp,(k m).drewN _⟩,by simp[intOf];omega⟩
     ·have aV:¬(c:Int)<(d.length:Int):=by omega
      obtain rfl:c=d.length:=by omega
      rw[eA];go_wp2;go_meet;exact⟨rfl,rfl,m⟩
   case rest=>
    obtain⟨rfl,rfl,m⟩:=hcut
    apply_assumption
    have s:=fF (k m) s;have x:=fF (k m) x;have ar:=aG hb (k m).size;have L:=i ((k N) _ _ _ (k t) (k m));have aL:=i (qG (k m) (k ak));have aO:=i ((k ab) _ _ _ (k aq) (k m));clear t ak m Q aq;go_upto_region 10 with fail;go_cut [61] from 20 to 61 (λah D=>ah=W (!jP f d||(!B&&(f==2&&q==9)))/\D=wc)
    case first=>
     generalize jP f d=aW at *
     cases aW with
     |false=>
      go_wp2;go_meet;exact⟨rfl,rfl⟩
     |true=>
      cases B with
      |true=>
       go_wp2;go_meet;exact⟨rfl,rfl⟩
      |false=>
       by_cases Y:f=2
       ·subst Y;by_cases aa:q=9
        ·subst aa;go_wp2;go_meet;exact⟨rfl,rfl⟩
        ·have a4:(q==9)=false:=by simp[aa]
         go_wp2;go_meet;exact⟨by simp[aa],rfl⟩
       ·have a3:(f==2)=false:=by simp[Y]
        go_wp2;go_meet;exact⟨by simp[Y],rfl⟩
    case rest=>
     obtain⟨rfl,rfl⟩:=hcut
     apply_assumption
     generalize aA:(!jP f d||(!B&&(f==2&&q==9)))=skip at *;have aM:=i aA;clear aA
     cases skip with
     |true=>
      have aR:=i ((k O) _ _ (k L));clear L s x;go_wp2;exact⟨⟨j+1,rfl,by omega,aR⟩,by simp[intOf];omega⟩
     |false=>
      have z:=k aM;simp only[Bool.or_eq_false_iff,Bool.not_eq_false',Bool.and_eq_false_iff,beq_eq_false_iff_ne,Bool.not_eq_false'] at z
      have am:=i ((k I) j _ S f q ax (k L) (k aO) (k aI) (k aF) z.1 (by
       obtain o|o|o:=z.2
       ·exact .inl o
       ·exact .inr (λaj=>o aj.1)
       ·exact .inr (λaj=>o aj.2)))
      clear z;go_wp2_with (refine wpList_load_mid rfl 45 _ rfl R (off+j* 25) rfl S.toList _ (k aL) underlying45 rfl (by rw[Array.length_toList,k aN];exact tK) ?_);refine(k am).mono ?_;rintro o bd ⟨rfl,aD⟩;have ap:=i ((k P) _ _ aD);clear am aD L s x ar;go_wp2_with fail;refine(k ap).mono ?_;rintro o bf ⟨rfl,aE⟩;have aQ:=i aE;clear ap aE;go_wp2;exact⟨⟨j+1,rfl,by omega,aQ⟩,by simp[intOf];omega⟩
  ·have aT:¬(j:Int)<(r:Int):=by omega
   have aS:=i ((k H) _ _ (k t));clear t;go_wp2;go_ret;exact⟨rfl,k aS⟩
end Go.Proofs.YthhibagcpjeihaaGreat
