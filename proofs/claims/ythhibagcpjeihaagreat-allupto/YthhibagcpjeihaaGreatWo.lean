import Derived.Test.YthhibagcpjeihaaGreatWm
open Go.Proofs.Tryz
open Go.Addr renaming mk->u,add_mid->dE
open Go.Value renaming int->F,pointer->g,slice->C,bool->L,agg->t,tuple->aq
open Go.IntKind renaming i64->K
open Option renaming none->J,some->E
open Go renaming World->U,Value->V
open Go.Proofs.Tryz renaming prog->h
open Go.Ending renaming returned->q
open Go.Obj renaming cells->m
open Go.Act renaming eval->aM,put->bN
set_option linter.unusedVariables false
set_option linter.unusedSimpArgs false
set_option maxRecDepth 100000
set_option maxHeartbeats 8000000
namespace Go.Proofs.YthhibagcpjeihaaGreat
open Go.RowKit
open M
variable {o j:U} {p S:Nat} {w Q P:Int} {k I:V} {v W:Nat->Prop} {N:Nat->aG->Prop} {B:Nat->Nat}
theorem Sr{aC:Nat}{I:mT}(ah:pr o p I){S:Array V}(hS:ly S 5 w Q):Calls h 17 #[g (E (u aC 0 J)),g (E (u p 0 J)),t S] o λag w'=>ag=q (L true)/\G No o w':=by
 have O:=(G.refl No o).alloc (m S 45);have ai:=ah.mod O (λ_ _ j=>j);have s:=l λa (i:G No (o.alloc (m S 45)) a)=>ai.mod i (λ_ _ j=>j);have z:=X.new o S 45;have au:=(z.T 0).trans hS.fL
 have M:=l λa (i:G No (o.alloc (m S 45)) a)=>(show a.cell? (u o.heap.size 2 J)=E (F K w)/\o.heap.size<a.heap.size from
  ⟨((i.e z (λj=>j)).T 2).trans hS.fU,(i.e z (λj=>j)).lt⟩)
 have af:=l λa (i:G No (o.alloc (m S 45)) a)=>O.trans i;have aH:=z.lt;clear ah ai hS O z;obtain⟨c,d,e,ak⟩:=AE I.fl w;have ad:=l ak;generalize aj:(iY I.fl w).2=v at *;have aa:=l aj;clear ak aj;go_enter func17,ntmps17;go_upto_region 9 with fail;generalize o.alloc (m S 45)=x at *;generalize o.heap.size=aG at *;have aw:x.cell? (u p 1 J)=E (g (E (u I.kb 0 J))):=((b s) _ (G.refl _ _)).vc
 have aA:=((b s) _ (G.refl _ _)).lt;obtain⟨ap,_⟩:=(b M) _ (G.refl _ _);have A:=l λa (i:G No x a)=>En ((b s) _ i).keep w;have B:=l λa (i:G No x a)=>Gw ((b s) _ i).bM ((b s) _ i).same w;rw[b ad,b aa] at A B;unfold dI at A B;go_cut [11,12] (λT W Z=>∃P,T=g (E (u P 0 J))/\W=F K v/\Hid (lu x Z P c d e))
 case first=>
  have k:=l (G.refl No x)
  go_region_law (first
   |(refine fP rfl 35 _ _ rfl #[g (E (u I.kb 0 J)),F K w] (by simp[aM,bN]) (λa=>by kernel_rfl) (aq #[t #[F K (c 0),F K (c 1),F K (c 2),F K (c 3),F K (d 0),F K (d 1),F K (d 2),F K (d 3),F K (e 0),F K (e 1),F K (e 2),F K (e 3)],F K v]) _ ((b A) x.drew (b k).drew) ?_;intro Y n)
   |(refine fP rfl 35 _ _ rfl #[g (E (u I.kb 0 J)),F K w] (by simp[aM,bN]) (λa=>by kernel_rfl) (aq #[t #[F K (c 0),F K (c 1),F K (c 2),F K (c 3),F K (d 0),F K (d 1),F K (d 2),F K (d 3),F K (e 0),F K (e 1),F K (e 2),F K (e 3)],F K v]) _ ((b A) _ ((b k).alloc _).drew) ?_;intro Y n;have r:=(n.e (show X (x.alloc (m #[F K 0,F K 0,F K 0,F K 0,F K 0,F K 0,F K 0,F K 0,F K 0,F K 0,F K 0,F K 0] 91)).drew x.heap.size #[F K 0,F K 0,F K 0,F K 0,F K 0,F K 0,F K 0,F K 0,F K 0,F K 0,F K 0,F K 0] 91 from(X.new _ _ _).drew) (λj=>j));have aD:=r.T;have aE:=r.aC;have aF:=r.lt;clear r))
  all_goals go_wp2
  all_goals go_meet
  all_goals first
   |with_reducible exact⟨_,rfl,rfl,l (lu.one (b k) n)⟩
   |with_reducible exact⟨_,rfl,rfl,l (lu.two (b k) n)⟩
 case rest=>
  obtain⟨P,rfl,rfl,y⟩:=hcut
  apply_assumption
  have N:=l λa (i:G No wc a)=>(b B) a ((b y).mod.trans i);have ax:wc.cell? (u p 2 J)=E (g (E (u I.wb 0 J))):=((b s) _ (b y).mod).vd;have aB:=((b s) _ (b y).mod).lt;obtain⟨ar,av⟩:=(b M) _ (b y).mod;clear aw aA ap A B au;go_upto_region 10 with fail;go_cut [13,14] (λT W Z=>∃R,T=g (E (u R 0 J))/\W=F K v/\Hid (lu wc Z R c d e))
  case first=>
   have k:=l (G.refl No wc)
   go_region_law (first
    |(refine fP rfl 36 _ _ rfl #[g (E (u I.wb 0 J)),F K w] (by simp[aM,bN]) (λa=>by kernel_rfl) (aq #[t #[F K (c 0),F K (c 1),F K (c 2),F K (c 3),F K (d 0),F K (d 1),F K (d 2),F K (d 3),F K (e 0),F K (e 1),F K (e 2),F K (e 3)],F K v]) _ ((b N) wc.drew (b k).drew) ?_;intro Y n)
    |(refine fP rfl 36 _ _ rfl #[g (E (u I.wb 0 J)),F K w] (by simp[aM,bN]) (λa=>by kernel_rfl) (aq #[t #[F K (c 0),F K (c 1),F K (c 2),F K (c 3),F K (d 0),F K (d 1),F K (d 2),F K (d 3),F K (e 0),F K (e 1),F K (e 2),F K (e 3)],F K v]) _ ((b N) _ ((b k).alloc _).drew) ?_;intro Y n;have r:=(n.e (show X (wc.alloc (m #[F K 0,F K 0,F K 0,F K 0,F K 0,F K 0,F K 0,F K 0,F K 0,F K 0,F K 0,F K 0] 91)).drew wc.heap.size #[F K 0,F K 0,F K 0,F K 0,F K 0,F K 0,F K 0,F K 0,F K 0,F K 0,F K 0,F K 0] 91 from(X.new _ _ _).drew) (λj=>j));have aD:=r.T;have aE:=r.aC;have aF:=r.lt;clear r))
   all_goals go_wp2
   all_goals go_meet
   all_goals first
    |with_reducible exact⟨_,rfl,rfl,l (lu.one (b k) n)⟩
    |with_reducible exact⟨_,rfl,rfl,l (lu.two (b k) n)⟩
  case rest=>
   obtain⟨R,rfl,rfl,H⟩:=hcut
   apply_assumption
   have t1:=((b y).still (b H).mod).e;have t2:=(b H).e;have d1:=t1.T;have d2:=t2.T;have ay:=t1.lt;have az:=t2.lt;have ab:=l λa=>QN c d e a;have ae:=l (((b af) _ (b y).mod).trans (b H).mod);have aI:(v==v)=true:=by simp
   unfold dI at d1 d2 ab;clear t1 t2 y H ax aB ar av N s M af ad aa;go_wp2_with fail;refine((b ab) _).mono ?_;rintro ag aJ ⟨rfl,am⟩;have ao:=l ((b ae).trans am);clear am ae d1 d2 ay az;go_wp2;go_ret;exact⟨rfl,b ao⟩
def ptrTo(a:Nat):V:=g (E (u a 0 J))
def kR(b:Nat->Nat)(c:Nat)(lv:V):Nat->Prop:=λa=>b a≠0\/a=c\/lv.ownBlock=E a
structure eV (P:Nat->aG->Prop) (B:U->(Nat->Prop)->Prop) (w0 w:U) (who:Nat->Nat) (yb:Nat) (lv av bv:V) (os:List Nat) (n:Nat):Prop where
 e:X w yb #[lv,av,bv] 34
 row:w.ownsRow 0 48 1 lv os.length (os.map ptrTo)
 rG:∀j (hj:j<os.length),∃I,aO w (λk=>who k=j+1) os[j] I/\P n I
 iA:∀k,who k≠0->w0.heap.size<=k/\k<w.heap.size
 j1:who yb=0/\w0.heap.size<=yb
 ku:∀k,lv.ownBlock=E k->who k=0/\w0.heap.size<=k/\k≠yb
 px:os.length<=n
 top:∀k,who k<=os.length
 mod:G No w0 w
 book:B w (kR who yb lv)
def py(B:U->(Nat->Prop)->Prop):Prop:=∀c w' a d,B c a->G a c w'->(∀b,b<c.heap.size->d b->a b)->B w' d
theorem eV.still{B:U->(Nat->Prop)->Prop}(s:py B){w':U}{i:Nat->Nat}{lv:V}{os:List Nat}(a:eV N B o j i p lv k I os S)(c:G No j w'):eV N B o w' i p lv k I os S:=
 ⟨c.e a.e (λb=>b),c.owns a.row (λ_ _ b=>b),λw v=>by
  obtain⟨l,n,r⟩:=a.rG w v
  exact⟨l,n.mod c (λ_ _ b=>b),r⟩,λe d=>⟨(a.iA e d).1,bj (a.iA e d).2 c.size⟩,a.j1,a.ku,a.px,a.top,a.mod.trans c,s _ _ _ _ a.book (c.mono (λ_ _ b=>b.elim)) (λ_ _ b=>b)⟩
theorem eV.more{B:U->(Nat->Prop)->Prop}(i:∀S I,N S I->N (S+1) I){c:Nat->Nat}{lv b:V}{os:List Nat}(a:eV N B o j c p lv k b os S):eV N B o j c p lv k b os (S+1):=
 ⟨a.e,a.row,λn l=>by
  obtain⟨I,d,e⟩:=a.rG n l
  exact⟨I,d,i _ _ e⟩,a.iA,a.j1,a.ku,by have:=a.px;omega,a.top,a.mod,a.book⟩
theorem aO.owns{I:aG}(b:aO o v p I)(c:∀a,v a↔W a):aO o W p I:=by
 have:v=W:=funext λa=>propext (c a);rw[<-this];exact b
theorem eV.step{B:U->(Nat->Prop)->Prop}(G:py B)(H:∀S I,N S I->N (S+1) I){d w':U}{i:Nat->Nat}{lv v:V}{os:List Nat}{j:Nat}(b:eV N B o d i p lv k v os S)(T:j<os.length){R:aG->Prop}(M:∀I',R I'->N (S+1) I')(hd:jL d w' (λa=>i a=j+1) os[j] R):∃x,eV N B o w' x p lv k v os (S+1)/\∀a,a<d.heap.size->x a=i a:=by
 obtain⟨⟨I',z,A⟩,l⟩:=hd;have O:∀a,d.heap.size<=a->i a=0:=λa c=>by
  by_cases n:i a=0
  .exact n
  .have:=(b.iA a n).2;omega
 have Y:=b.e.lt
 refine⟨λa=>if d.heap.size<=a/\a<w'.heap.size then j+1 else i a,⟨l.e b.e (by rw[b.j1.1];omega),l.owns b.row (λa c=>by rw[(b.ku a c).1];omega),λw hi=>?_,λa c=>?_,?_,λa c=>?_,by have:=b.px;omega,λa=>?_,b.mod.trans' l (λa c W=>by have:=(b.iA a (by rw[c];omega)).1;omega),G _ _ _ _ b.book (l.mono (λa _ (n:i a=j+1)=>Or.inl (by omega))) (λa c=>by unfold kR;simp only[f (show ¬(d.heap.size<=a/\a<w'.heap.size) by omega)];exact id)⟩,λa c=>f (by omega)⟩
 .by_cases n:w=j
  .subst n;refine⟨I',z.owns (λa=>?_),M _ A⟩;unfold grow;by_cases e:d.heap.size<=a/\a<w'.heap.size
   .simp only[D e];exact⟨λ_=>trivial,λ_=>.inr e⟩
   .simp only[f e];exact⟨λr=>r.elim (λs=>s) (λs=>absurd s e),λr=>.inl r⟩
  .obtain⟨y,P,Q⟩:=b.rG w hi;refine⟨y,(P.mod l (λa c r=>by omega)).owns (λa=>?_),H _ _ Q⟩;by_cases e:d.heap.size<=a/\a<w'.heap.size
   .simp only[D e];have:=O a e.1;omega
   .simp only[f e]
 .have c:(if d.heap.size<=a/\a<w'.heap.size then j+1 else i a)≠0:=c;by_cases e:d.heap.size<=a/\a<w'.heap.size
  .exact⟨by have:=b.mod.size;omega,e.2⟩
  .rw[f e] at c;exact⟨(b.iA a c).1,bj (b.iA a c).2 l.size⟩
 .rw[f (by omega)];exact b.j1
 .have X:=fE b.row a c;show(if d.heap.size<=a/\a<w'.heap.size then j+1 else i a)=0/\_;rw[f (by omega)];exact b.ku a c
 .show(if d.heap.size<=a/\a<w'.heap.size then j+1 else i a)<=_;have:=b.top a;split<;>omega
theorem eV.add{B:U->(Nat->Prop)->Prop}(T:py B)(Y:∀l I,N l I->N (l+1) I){w':U}{i:Nat->Nat}{lv w x:V}{os:List Nat}{l:Nat}(c:eV N B o j i p lv w x os l){I:aG}(W:N (l+1) I)(z:aO w' v S I)(n:∀a,v a->j.heap.size<=a)(s:G (λa=>a=p\/lv.ownBlock=E a) j w')(Z:X w' p #[k,w,x] 34)(ad:w'.ownsRow 0 48 1 k (os.length+1) (os.map ptrTo++[ptrTo S]))(r:∀a,k.ownBlock=E a->¬v a/\(lv.ownBlock=E a\/j.heap.size<=a)):
  ∃M,eV N B o w' M p k w x (os++[S]) (l+1)/\∀a,a<j.heap.size->M a=i a:=by
 classical
 have A:∀a,j.heap.size<=a->i a=0:=λa d=>by
  by_cases b:i a=0
  .exact b
  .have:=(c.iA a b).2;omega
 have ag:=c.e.lt;have ab:∀a,i a≠0->¬(a=p\/lv.ownBlock=E a):=λa d b=>by
  obtain rfl|b:=b
  .exact d c.j1.1
  .exact d (c.ku a b).1
 refine⟨λa=>if v a then os.length+1 else i a,⟨Z,?_,λy hi=>?_,λa d=>?_,?_,λa d=>?_,?_,λa=>?_,?_,T _ _ _ _ c.book (s.mono (λa _ b=>Or.inr b)) (λa d b=>by
  have aa:¬v a:=λb=>by have:=n a b;omega
  unfold kR at b ⊢
  simp only[f aa] at b
  obtain b|b|b:=b
  .exact .inl b
  .exact .inr (.inl b)
  .obtain H|H:=(r a b).2
   .exact .inr (.inr H)
   .omega)⟩,λa d=>f (λb=>by have:=n a b;omega)⟩
 .rw[bG,qK];exact ad
 .by_cases b:y<os.length
  .obtain⟨P,ae,af⟩:=c.rG y b;rw[sW b];refine⟨P,(ae.mod s (λa d=>ab a (by rw[d];omega))).owns (λa=>?_),Y _ _ af⟩;by_cases e:v a
   .simp only[D e];have:=A a (n a e);omega
   .simp only[f e]
  .have Q:y=os.length:=by simp at hi;omega
   subst Q;have R:(os++[S])[os.length]'hi=S:=by simp
   rw[R];refine⟨I,z.owns (λa=>?_),W⟩;by_cases e:v a
   .simp only[D e];exact⟨λ_=>trivial,λ_=>e⟩
   .simp only[f e];refine⟨λO=>absurd O e,λO=>?_⟩;exfalso;have:=c.top a;omega
 .have d:(if v a then os.length+1 else i a)≠0:=d;by_cases e:v a
  .exact⟨by have:=n a e;have:=c.mod.size;omega,z.lt a e⟩
  .rw[f e] at d;exact⟨(c.iA a d).1,bj (c.iA a d).2 s.size⟩
 .rw[f (λb=>by have:=n p b;omega)];exact c.j1
 .show(if v a then os.length+1 else i a)=0/\_;rw[f (r a d).1];obtain b|b:=(r a d).2
  .exact c.ku a b
  .exact⟨A a b,by have:=c.mod.size;omega,by omega⟩
 .have:=c.px;simp only[bG,eL,iR];omega
 .show(if v a then os.length+1 else i a)<=_;have:=c.top a;simp only[bG,eL,iR];split<;>omega
 .refine c.mod.trans' s (λa d r=>?_);obtain rfl|b:=d
  .have:=c.j1.2;omega
  .have:=(c.ku a b).2.1;omega
structure rH (P:Nat->aG->Prop) (B:U->(Nat->Prop)->Prop) (w0 w':U) (yb:Nat) (av bv:V) (n:Nat):Prop where
 ex:∃who' lv' os',eV P B w0 w' who' yb lv' av bv os' (n+1)
structure Ha (w w5:U) (bb tb wb tob ob:Nat) (S:Array V) (ay:Int):Prop where
 box:X w5 bb S 45
 tape:aS w5 (λk=>k=tb) tb ⟨λ_=>[],λ_=>0,ay, -1⟩
 bM:X w5 wb #[C J 0 0,F K 0] 72
 told:X w5 tob #[C J 0 0,C J 0 0,C J 0 0,C J 0 0,C J 0 0,C J 0 0,C J 0 0,C J 0 0,L false,L false,L false,L false,L false,L false,L false,L false] 76
 one:X w5 ob #[g (E (u tb 0 J)),g J,g (E (u wb 0 J)),g J,g (E (u tob 0 J)),F K 200,F K 0,L false,F K 0,F K 0,F K 0] 55
 ord:w.heap.size=bb/\tb=bb+1/\wb=bb+2/\tob=bb+3/\ob=bb+4/\w5.heap.size=bb+5
 mod:G No w w5
theorem Ss(a:U)(S:Array V)(b:Int):Ha a (((((a.alloc (m S 45)).alloc (m (⟨⟨C J 0 0,[],0⟩,⟨C J 0 0,[],0⟩,⟨C J 0 0,[],0⟩,⟨C J 0 0,[],0⟩,b, -1⟩:aL).cells 108)).alloc (m #[C J 0 0,F K 0] 72)).alloc (m #[C J 0 0,C J 0 0,C J 0 0,C J 0 0,C J 0 0,C J 0 0,C J 0 0,C J 0 0,L false,L false,L false,L false,L false,L false,L false,L false] 76)).alloc (m #[g (E ⟨a.heap.size+1,0,J⟩),g J,g (E ⟨a.heap.size+1+1,0,J⟩),g J,g (E ⟨a.heap.size+1+1+1,0,J⟩),F K 200,F K 0,L false,F K 0,F K 0,F K 0] 55)) a.heap.size (a.heap.size+1) (a.heap.size+1+1) (a.heap.size+1+1+1) (a.heap.size+1+1+1+1) S b:=by
 have p:G No (a.alloc (m S 45)) ((a.alloc (m S 45)).alloc (m (⟨⟨C J 0 0,[],0⟩,⟨C J 0 0,[],0⟩,⟨C J 0 0,[],0⟩,⟨C J 0 0,[],0⟩,b, -1⟩:aL).cells 108)):=(G.refl _ _).alloc _
 have i:G No ((a.alloc (m S 45)).alloc (m (⟨⟨C J 0 0,[],0⟩,⟨C J 0 0,[],0⟩,⟨C J 0 0,[],0⟩,⟨C J 0 0,[],0⟩,b, -1⟩:aL).cells 108)) (((a.alloc (m S 45)).alloc (m (⟨⟨C J 0 0,[],0⟩,⟨C J 0 0,[],0⟩,⟨C J 0 0,[],0⟩,⟨C J 0 0,[],0⟩,b, -1⟩:aL).cells 108)).alloc (m #[C J 0 0,F K 0] 72)):=(G.refl _ _).alloc _
 have e:G No (((a.alloc (m S 45)).alloc (m (⟨⟨C J 0 0,[],0⟩,⟨C J 0 0,[],0⟩,⟨C J 0 0,[],0⟩,⟨C J 0 0,[],0⟩,b, -1⟩:aL).cells 108)).alloc (m #[C J 0 0,F K 0] 72)) ((((a.alloc (m S 45)).alloc (m (⟨⟨C J 0 0,[],0⟩,⟨C J 0 0,[],0⟩,⟨C J 0 0,[],0⟩,⟨C J 0 0,[],0⟩,b, -1⟩:aL).cells 108)).alloc (m #[C J 0 0,F K 0] 72)).alloc (m #[C J 0 0,C J 0 0,C J 0 0,C J 0 0,C J 0 0,C J 0 0,C J 0 0,C J 0 0,L false,L false,L false,L false,L false,L false,L false,L false] 76)):=(G.refl _ _).alloc _
 have c:G No ((((a.alloc (m S 45)).alloc (m (⟨⟨C J 0 0,[],0⟩,⟨C J 0 0,[],0⟩,⟨C J 0 0,[],0⟩,⟨C J 0 0,[],0⟩,b, -1⟩:aL).cells 108)).alloc (m #[C J 0 0,F K 0] 72)).alloc (m #[C J 0 0,C J 0 0,C J 0 0,C J 0 0,C J 0 0,C J 0 0,C J 0 0,C J 0 0,L false,L false,L false,L false,L false,L false,L false,L false] 76)) (((((a.alloc (m S 45)).alloc (m (⟨⟨C J 0 0,[],0⟩,⟨C J 0 0,[],0⟩,⟨C J 0 0,[],0⟩,⟨C J 0 0,[],0⟩,b, -1⟩:aL).cells 108)).alloc (m #[C J 0 0,F K 0] 72)).alloc (m #[C J 0 0,C J 0 0,C J 0 0,C J 0 0,C J 0 0,C J 0 0,C J 0 0,C J 0 0,L false,L false,L false,L false,L false,L false,L false,L false] 76)).alloc (m #[g (E ⟨a.heap.size+1,0,J⟩),g J,g (E ⟨a.heap.size+1+1,0,J⟩),g J,g (E ⟨a.heap.size+1+1+1,0,J⟩),F K 200,F K 0,L false,F K 0,F K 0,F K 0] 55)):=(G.refl _ _).alloc _
 have j:=X.new a S 45;have k:=KH (a.alloc (m S 45)) b;have l:=X.new ((a.alloc (m S 45)).alloc (m (⟨⟨C J 0 0,[],0⟩,⟨C J 0 0,[],0⟩,⟨C J 0 0,[],0⟩,⟨C J 0 0,[],0⟩,b, -1⟩:aL).cells 108)) #[C J 0 0,F K 0] 72
 have n:=X.new (((a.alloc (m S 45)).alloc (m (⟨⟨C J 0 0,[],0⟩,⟨C J 0 0,[],0⟩,⟨C J 0 0,[],0⟩,⟨C J 0 0,[],0⟩,b, -1⟩:aL).cells 108)).alloc (m #[C J 0 0,F K 0] 72)) #[C J 0 0,C J 0 0,C J 0 0,C J 0 0,C J 0 0,C J 0 0,C J 0 0,C J 0 0,L false,L false,L false,L false,L false,L false,L false,L false] 76
 have o:=X.new ((((a.alloc (m S 45)).alloc (m (⟨⟨C J 0 0,[],0⟩,⟨C J 0 0,[],0⟩,⟨C J 0 0,[],0⟩,⟨C J 0 0,[],0⟩,b, -1⟩:aL).cells 108)).alloc (m #[C J 0 0,F K 0] 72)).alloc (m #[C J 0 0,C J 0 0,C J 0 0,C J 0 0,C J 0 0,C J 0 0,C J 0 0,C J 0 0,L false,L false,L false,L false,L false,L false,L false,L false] 76)) #[g (E ⟨a.heap.size+1,0,J⟩),g J,g (E ⟨a.heap.size+1+1,0,J⟩),g J,g (E ⟨a.heap.size+1+1+1,0,J⟩),F K 200,F K 0,L false,F K 0,F K 0,F K 0] 55
 simp only[bW] at j k l n o;refine⟨(((p.trans i).trans e).trans c).e j (λd=>d),k.bC ((i.trans e).trans c),(e.trans c).e l (λd=>d),c.e n (λd=>d),o,⟨rfl,rfl,rfl,rfl,rfl,by simp only[bW]⟩,(((((G.refl No a).alloc _).trans p).trans i).trans e).trans c⟩
def Hb(tb b d c:Nat)(e:Int):aG:=
 {kb:=E b,W:=⟨d,λa=>if a=d then 1 else 0,C J 0 0,[],0,gJ⟩,mb:=J,tob:=c,okp:=λa=>if a=b then 1 else if a=tb then 30 else 0,owt:=λa=>if a=c then 1 else 0,om:=λ_=>0,now:=0,fl:=gJ,
  K:=⟨tb,0,false,true,⟨λ_=>[],λ_=>0,e, -1⟩⟩,most:=200,ch:=0,sh:=false,n0:=0,n1:=0,n2:=0,tl:=λ_=>J,vs:=λ_=>C J 0 0,ns:=λ_=>[],bs:=λ_=>false }
theorem Hc:(h.info? 48).map (λa=>(a.zero,a.size,a.bytes))=E (E (g J),1,8):=by kernel_rfl
theorem Hd(a:U)(c:TypeId)(b:Nat):Reads (a.alloc (m #[ptrTo b] c)) (C (E (u a.heap.size 0 J)) 1 1) 1 [ptrTo b]:=
 .inr ⟨(u a.heap.size 0 J),1,rfl,λe i hu=>by
  have d:=X.new a #[ptrTo b] c
  rw[dE,bK,d.T,<-dy]
  exact hu⟩
theorem xW:(h.info? 45).map (·.size)=E 25:=by kernel_rfl
theorem AP:(h.underlying 45).map (·.isRow)=E true:=by kernel_rfl
theorem St:(h.info? 41).map (·.size)=E 16:=by kernel_rfl
theorem mH.rI{S:Array V}(d:mH S):∃(n a i k:Int) (b:aK),ly S n i k/\S[1]? =E (F K a)/\(-9223372036854775808<=a/\a<=9223372036854775807)/\(∀j c,(aw b).toList[j]? =E c->S[4+j]? =E c)/\(-9223372036854775808<=b.time/\b.time<=9223372036854775807):=by
 have l:=d.size;obtain⟨r,s,M,N,O,P,Q,R,T,W,v,w,x,y,z,A,B,G,H,I,aa,ab,ad,Y,Z,rfl,o,p⟩:=d.lits;refine⟨r,s,M,N,⟨O,P,Q,R,T,W,v,w,x,⟨y,z,A,B,G,H,I,0⟩⟩,⟨l,rfl,rfl,rfl⟩,rfl,o,λj c e=>?_,p⟩;have X:j<16:=by
  have:=(List.getElem?_eq_some_iff.1 e).1;simpa [aw] using this
 have:j=0\/j=1\/j=2\/j=3\/j=4\/j=5\/j=6\/j=7\/j=8\/j=9\/j=10\/j=11\/j=12\/j=13\/j=14\/j=15:=by omega
 obtain rfl|rfl|rfl|rfl|rfl|rfl|rfl|rfl|rfl|rfl|rfl|rfl|rfl|rfl|rfl|rfl:=this<;>exact e
theorem Su{B:U->(Nat->Prop)->Prop}(x:py B)(y:∀a I,N a I->N (a+1) I){A:Nat->Nat}{lv e:V}{a:Nat}(i:eV N B o j A p lv k e [] a){S:Array V}(hS:ly S w Q P)(z:w≠1):Calls h 10 #[g (E (u p 0 J)),t S] j λv w'=>v=q (L true)/\rH N B o w' p k e a:=by
 have d:=X.new j S 45;have M:=(d.T 0).trans hS.fL;have O:=d.lt;have c:=i.still x ((G.refl No j).alloc (m S 45));obtain⟨r,s,rfl⟩:=aR c.row;have H:(j.alloc (m S 45)).cell? (u p 0 J)=E (C r ([]:List Nat).length s):=c.e.T 0;simp only[iR] at H;have T:=c.e.lt;have n:=l (show rH N B o (j.alloc (m S 45)) p k e a from⟨⟨_,_,_,c.more y⟩⟩);have R:(w==1)=false:=by simpa using z
 clear i d c hS;go_enter func10,ntmps10;go_wp2;go_ret;exact⟨rfl,b n⟩
theorem eV.at{B:U->(Nat->Prop)->Prop}{e:U}{r:Nat->Nat}{lv:V}{os:List Nat}(b:eV N B o e r p lv k I os S)(x:0<os.length):∃d a,lv=C (E (u d 0 J)) os.length a/\d<e.heap.size/\∀j (l:j<os.length),e.cell? (u d j J)=E (ptrTo os[j]):=by
 have n:=b.row;obtain⟨v,w|⟨i,a,s,c,_⟩⟩:=b.row
 .omega
 .refine⟨i,a,c,fE b.row i (by rw[c];rfl),λj l=>?_⟩;have:=n.cells (by rw[c];rfl) j (ptrTo os[j]) (by rw[qC,du l];rfl);rw[dE,bK] at this;exact this
def mU(b:Int)(a:List Int):Bool:=a.any (λc=>b==c)
theorem Sv(c:Int)(a:List Int)(b:Nat)(d:b<a.length):mU c (a.take (b+1))=(mU c (a.take b)||(c==a[b])):=by
 unfold mU;rw[mD,du d,qS,List.any_append];simp only[List.any_cons,List.any_nil,Bool.or_false]
def Sw(i:U->Array V->Prop)(n:U)(a:Option Addr)(l:Nat):Prop:=∀c,G No n c->∀e,e<l->∃(d off:Nat) (b:Array V) (k j:Int),a=E (u d off J)/\c.rangeAt d (off+e* 25) b.toList/\d<c.heap.size/\b.size=25/\b[0]? =E (F K k)/\b[4]? =E (F K j)/\i c b
theorem Sx{X:U->Array V->Prop}(ad:∀e y S,X e S->G No e y->X y S){w:U}(a:Option Addr)(s aS:Nat)(a9:s<=651562446089)(ax:Sw X w a s)(ag aY:Nat)(d:List Int)(aw:∀c (a3:c<d.length),w.cell? (u ag c J)=E (F K d[c]))(aU:ag<w.heap.size)(a6:d.length<=100)(H:Bool)(p:Nat->U->Prop)(O:p 0 (w.alloc (m #[C J 0 0,C J 0 0,C J 0 0] 34)))(M:∀n e,p n e->G No w e)(T:∀n e,p n e->p (n+1) e)(R:∀n e y,p n e->G No e y->p n y)
  (N:∀n e (S:Array V) (i r:Int),n<s->p n e->X e S->S[0]? =E (F K i)->S[4]? =E (F K r)->mU i d=true->(H=true\/¬(i=2/\r=9))->Calls h 10 #[ptrTo w.heap.size,t S] e λo w'=>o=q (L true)/\p (n+1) w')(W:∀n e,p n e->Calls h 11 #[g (E (u w.heap.size 1 J))] e λo w'=>o=q (L true)/\p n w'):
  Calls h 8 #[C a s aS,C (E (u ag 0 J)) d.length aY,L H] w λo w'=>o=q (L true)/\G No w w':=by
 have aJ:=l ax;have aH:=l aw;have O:=l O;have ad:=l ad;have M:=l M;have T:=l T;have R:=l R;have N:=l N;have W:=l W;unfold ptrTo at N;clear ax aw;go_enter func8,ntmps8;go_wp2_with fail;go_loopw [8] (λa0 wr=>∃j:Nat,a0=F K j/\j<=s/\Hid (p j wr)) (λai _=>s - (intOf ai).toNat)
 case atStart=>exact⟨0,rfl,by omega,O⟩
 case round=>
  obtain⟨j,rfl,hi,x⟩:=hrel;clear O;by_cases aA:j<s
  .have aT:(j:Int)<(s:Int):=by omega
   have a7:(0:Int)<=j:=by omega
   have a8:K.wrap ((j:Int)+1)=((j+1:Nat):Int):=by rw[bh _ (by omega) (by omega)];rfl
   have ah:=(b M) _ _ (b x);obtain⟨Z,off,S,i,r,rfl,Q,az,aD,af,ae,ay⟩:=(b aJ) wr ah j aA;have au:=l ay;clear ay;have v:wr.cell? ⟨Z,off+j* 25,J⟩=E (F K i):=by
    have:=Q 0 (F K i) (by rw[dy];exact af);rw[tP] at this;exact this
   have z:wr.cell? ⟨Z,off+j* 25+4,J⟩=E (F K r):=Q 4 (F K r) (by rw[dy];exact ae);have am:=l Q;have aI:=l af;have aG:=l ae;have aN:=l aD;have Y:=l ah;clear Q af ae aD ah;go_upto_block 2 with fail;go_cut [9,10] from 20 to 38 (λaj B I=>aj=L (mU i d)/\B=F K (d.length:Nat)/\Hid (G No wr I))
   case first=>
    go_wp2_with fail;go_loopw [9,10] (λaj B I=>∃c:Nat,B=F K c/\c<=d.length/\aj=L (mU i (d.take c))/\Hid (G No wr I)) (λ_ B _=>d.length - (intOf B).toNat)
    case atStart=>exact⟨0,rfl,by omega,rfl,G.refl _ _⟩
    case round=>
     obtain⟨c,rfl,A,rfl,k⟩:=hrel;by_cases aB:c<d.length
     .have aW:(c:Int)<(d.length:Int):=by omega
      have ba:(0:Int)<=c:=by omega
      have bb:K.wrap ((c:Int)+1)=((c+1:Nat):Int):=by rw[bh _ (by omega) (by omega)];rfl
      have a2:=eG ((b Y).trans (b k)) ((b aH) c aB);have a1:=eG (b k) v;have ap:=l (Sv i d c aB);have av:=bj az (b k).size;have bc:=bj (bj aU (b Y).size) (b k).size;clear v z;generalize d[c]=bd at *;generalize mU i (d.take c)=aZ at *
      cases aZ with
      |true=>
       go_wp2_with fail;go_quiet (fail);go_wp2;exact⟨⟨c+1,rfl,by omega,by rw[b ap];rfl,(b k).drewN _⟩,by simp[intOf];omega⟩
      |false=>
       go_wp2_with fail;go_quiet (fail);go_wp2;exact⟨⟨c+1,rfl,by omega,by rw[b ap];simp,(b k).drewN _⟩,by simp[intOf];omega⟩
     .have aW:¬(c:Int)<(d.length:Int):=by omega
      obtain rfl:c=d.length:=by omega
      rw[fN];go_wp2;go_meet;exact⟨rfl,rfl,k⟩
   case rest=>
    obtain⟨rfl,rfl,k⟩:=hcut
    apply_assumption
    have v:=eG (b k) v;have z:=eG (b k) z;have av:=bj az (b k).size;have P:=l ((b R) _ _ _ (b x) (b k));have aK:=l (uB (b k) (b am));have aO:=l ((b ad) _ _ _ (b au) (b k));clear x am k Y au;go_upto_region 10 with fail;go_cut [61] from 20 to 61 (λai I=>ai=L (!mU i d||(!H&&(i==2&&r==9)))/\I=wc)
    case first=>
     generalize mU i d=aX at *
     cases aX with
     |false=>
      go_wp2;go_meet;exact⟨rfl,rfl⟩
     |true=>
      cases H with
      |true=>
       go_wp2;go_meet;exact⟨rfl,rfl⟩
      |false=>
       by_cases aa:i=2
       .subst aa;by_cases ab:r=9
        .subst ab;go_wp2;go_meet;exact⟨rfl,rfl⟩
        .have a5:(r==9)=false:=by simp[ab]
         go_wp2;go_meet;exact⟨by simp[ab],rfl⟩
       .have a4:(i==2)=false:=by simp[aa]
        go_wp2;go_meet;exact⟨by simp[aa],rfl⟩
    case rest=>
     obtain⟨rfl,rfl⟩:=hcut
     apply_assumption
     generalize aC:(!mU i d||(!H&&(i==2&&r==9)))=skip at *;have aL:=l aC;clear aC
     cases skip with
     |true=>
      have aQ:=l ((b T) _ _ (b P));clear P v z;go_wp2;exact⟨⟨j+1,rfl,by omega,aQ⟩,by simp[intOf];omega⟩
     |false=>
      have A:=b aL;simp only[Bool.or_eq_false_iff,Sy,vy,tM,Sy] at A
      have ao:=l ((b N) j _ S i r aA (b P) (b aO) (b aI) (b aG) A.1 (by
       obtain o|o|o:=A.2
       .exact .inl o
       .exact .inr (λak=>o ak.1)
       .exact .inr (λak=>o ak.2)))
      clear A;go_wp2_with (refine wpList_load_mid rfl 45 _ rfl Z (off+j* 25) rfl S.toList _ (b aK) underlying45 rfl (by rw[BW,b aN];exact xW) ?_);refine(b ao).mono ?_;rintro o bf ⟨rfl,aE⟩;have ar:=l ((b W) _ _ aE);clear ao aE P v z av;go_wp2_with fail;refine(b ar).mono ?_;rintro o bg ⟨rfl,aF⟩;have aP:=l aF;clear ar aF;go_wp2;exact⟨⟨j+1,rfl,by omega,aP⟩,by simp[intOf];omega⟩
  .have aT:¬(j:Int)<(s:Int):=by omega
   have aR:=l ((b M) _ _ (b x));clear x;go_wp2;go_ret;exact⟨rfl,b aR⟩
end Go.Proofs.YthhibagcpjeihaaGreat
