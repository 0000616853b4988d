import Derived.Test.YthhibagcpjeihaaGreatW3
import Derived.Deep.MidRow
open Go.Proofs.Tryz
open Go.Addr renaming mk->u
open Go.Value renaming int->F,pointer->g,bool->L,agg->t,tuple->aq
open Go.IntKind renaming i64->K
open Option renaming none->J,some->E
open Go renaming World->U,Value->V
open Go.Proofs.Tryz renaming prog->h
open Go.Ending renaming returned->q
open Go.Obj renaming cells->m
open Go.Instr renaming index->iQ
open Go.Proofs.YthhibagcpjeihaaGreat.Rows renaming uptoBulk->nH
set_option linter.unusedVariables false
set_option linter.unusedSimpArgs false
set_option maxRecDepth 100000
set_option maxHeartbeats 2000000
namespace Go.Proofs.YthhibagcpjeihaaGreat
open Go.RowKit
open Go.ChangeMaps (setBlock)
open M
theorem Kf(o:Nat)(c:aK)(w:Int)(x y:V)(s:c.kind=2)(e:U)(hA:∀a,G No e a->Calls h 99 #[g (E (u o 0 J)),t #[F K c.aA,F K c.ac]] a λd w'=>d=q (L true)/\G No a w')(r:∀a,G No e a->Calls h 100 #[g (E (u o 0 J)),t (aw c),F K w] a λd w'=>d=q (aq #[x,y])/\G No a w'):
  Calls h 77 #[g (E (u o 0 J)),t (aw c),F K w] e λd w'=>d=q (aq #[x,y])/\G No e w':=by
 have z:=l hA;have n:=l r;have j:=l ((G.refl No e).alloc (m (aw c) 41));have i:=l (X.new e (aw c) 41);unfold aw at n j i ⊢;rw[s] at n j i ⊢;clear hA r s;go_enter func77,ntmps77;go_wp2_with fail;refine((b z) _ (b j)).mono ?_;rintro d I ⟨rfl,k⟩;have H:=(k.e (b i) (λx=>x)).T;have p:=l ((b j).trans k);have B:=l (k.e (b i) (λx=>x));clear k;go_wp2_with fail;refine((b n) _ (b p)).mono ?_
 rintro d w3 ⟨rfl,v⟩;have A:=l ((b p).trans v);clear v;go_wp2;go_ret2;exact⟨rfl,b A⟩
theorem Kg(o:Nat)(c:aK)(A:Int)(x w:V)(s:c.kind=3)(e:U)(hA:∀a,G No e a->Calls h 99 #[g (E (u o 0 J)),t #[F K c.aA,F K c.ac]] a λd w'=>d=q (L true)/\G No a w')(r:∀a,G No e a->Calls h 101 #[g (E (u o 0 J)),t (aw c)] a λd w'=>d=q (aq #[x,w])/\G No a w'):Calls h 77 #[g (E (u o 0 J)),t (aw c),F K A] e λd w'=>d=q (aq #[x,w])/\G No e w':=by
 have y:=l hA;have n:=l r;have j:=l ((G.refl No e).alloc (m (aw c) 41));have i:=l (X.new e (aw c) 41);unfold aw at n j i ⊢;rw[s] at n j i ⊢;clear hA r s;go_enter func77,ntmps77;go_wp2_with fail;refine((b y) _ (b j)).mono ?_;rintro d I ⟨rfl,k⟩;have H:=(k.e (b i) (λx=>x)).T;have p:=l ((b j).trans k);have B:=l (k.e (b i) (λx=>x));clear k;go_wp2_with fail;refine((b n) _ (b p)).mono ?_
 rintro d w3 ⟨rfl,v⟩;have z:=l ((b p).trans v);clear v;go_wp2;go_ret2;exact⟨rfl,b z⟩
theorem Kh(o:Nat)(c:aK)(A:Int)(x w:V)(s:c.kind=4)(e:U)(hA:∀a,G No e a->Calls h 99 #[g (E (u o 0 J)),t #[F K c.aA,F K c.ac]] a λd w'=>d=q (L true)/\G No a w')(r:∀a,G No e a->Calls h 102 #[g (E (u o 0 J)),t (aw c)] a λd w'=>d=q (aq #[x,w])/\G No a w'):Calls h 77 #[g (E (u o 0 J)),t (aw c),F K A] e λd w'=>d=q (aq #[x,w])/\G No e w':=by
 have y:=l hA;have n:=l r;have j:=l ((G.refl No e).alloc (m (aw c) 41));have i:=l (X.new e (aw c) 41);unfold aw at n j i ⊢;rw[s] at n j i ⊢;clear hA r s;go_enter func77,ntmps77;go_wp2_with fail;refine((b y) _ (b j)).mono ?_;rintro d I ⟨rfl,k⟩;have H:=(k.e (b i) (λx=>x)).T;have p:=l ((b j).trans k);have B:=l (k.e (b i) (λx=>x));clear k;go_wp2_with fail;refine((b n) _ (b p)).mono ?_
 rintro d w3 ⟨rfl,v⟩;have z:=l ((b p).trans v);clear v;go_wp2;go_ret2;exact⟨rfl,b z⟩
theorem Ki(k:Nat)(d:aK)(O:Int)(x A:V)(y:d.kind=5)(e:U)(hA:∀a,G No e a->Calls h 99 #[g (E (u k 0 J)),t #[F K d.aA,F K d.ac]] a λc w'=>c=q (L true)/\G No a w')(v:∀a,G No e a->Calls h 99 #[g (E (u k 0 J)),t #[F K d.dd,F K d.de]] a λc w'=>c=q (L true)/\G No a w')
  (w:∀a,G No e a->Calls h 103 #[g (E (u k 0 J)),t (aw d)] a λc w'=>c=q (aq #[x,A])/\G No a w'):Calls h 77 #[g (E (u k 0 J)),t (aw d),F K O] e λc w'=>c=q (aq #[x,A])/\G No e w':=by
 have H:=l hA;have o:=l w;have I:=l v;have j:=l ((G.refl No e).alloc (m (aw d) 41));have i:=l (X.new e (aw d) 41);unfold aw at o j i ⊢;rw[y] at o j i ⊢;clear hA w v y;go_enter func77,ntmps77;go_wp2_with fail;refine((b H) _ (b j)).mono ?_;rintro c Q ⟨rfl,n⟩;have N:=(n.e (b i) (λx=>x)).T;have r:=l ((b j).trans n);have B:=l (n.e (b i) (λx=>x));clear n;go_wp2_with fail;refine((b I) _ (b r)).mono ?_
 rintro c R ⟨rfl,p⟩;have P:=(p.e (b B) (λx=>x)).T;have s:=l ((b r).trans p);clear p N;go_wp2_with fail;refine((b o) _ (b s)).mono ?_;rintro c w3 ⟨rfl,z⟩;have M:=l ((b s).trans z);clear z;go_wp2;go_ret2;exact⟨rfl,b M⟩
theorem Kj(o:Nat)(c:aK)(A:Int)(x w:V)(s:c.kind=6)(e:U)(hA:∀a,G No e a->Calls h 99 #[g (E (u o 0 J)),t #[F K c.aA,F K c.ac]] a λd w'=>d=q (L true)/\G No a w')(r:∀a,G No e a->Calls h 104 #[g (E (u o 0 J)),t (aw c)] a λd w'=>d=q (aq #[x,w])/\G No a w'):Calls h 77 #[g (E (u o 0 J)),t (aw c),F K A] e λd w'=>d=q (aq #[x,w])/\G No e w':=by
 have y:=l hA;have n:=l r;have j:=l ((G.refl No e).alloc (m (aw c) 41));have i:=l (X.new e (aw c) 41);unfold aw at n j i ⊢;rw[s] at n j i ⊢;clear hA r s;go_enter func77,ntmps77;go_wp2_with fail;refine((b y) _ (b j)).mono ?_;rintro d I ⟨rfl,k⟩;have H:=(k.e (b i) (λx=>x)).T;have p:=l ((b j).trans k);have B:=l (k.e (b i) (λx=>x));clear k;go_wp2_with fail;refine((b n) _ (b p)).mono ?_
 rintro d w3 ⟨rfl,v⟩;have z:=l ((b p).trans v);clear v;go_wp2;go_ret2;exact⟨rfl,b z⟩
theorem Kk(o:Nat)(c:aK)(A:Int)(x w:V)(s:c.kind=7)(e:U)(hA:∀a,G No e a->Calls h 99 #[g (E (u o 0 J)),t #[F K c.aA,F K c.ac]] a λd w'=>d=q (L true)/\G No a w')(r:∀a,G No e a->Calls h 105 #[g (E (u o 0 J)),t (aw c)] a λd w'=>d=q (aq #[x,w])/\G No a w'):Calls h 77 #[g (E (u o 0 J)),t (aw c),F K A] e λd w'=>d=q (aq #[x,w])/\G No e w':=by
 have y:=l hA;have n:=l r;have j:=l ((G.refl No e).alloc (m (aw c) 41));have i:=l (X.new e (aw c) 41);unfold aw at n j i ⊢;rw[s] at n j i ⊢;clear hA r s;go_enter func77,ntmps77;go_wp2_with fail;refine((b y) _ (b j)).mono ?_;rintro d I ⟨rfl,k⟩;have H:=(k.e (b i) (λx=>x)).T;have p:=l ((b j).trans k);have B:=l (k.e (b i) (λx=>x));clear k;go_wp2_with fail;refine((b n) _ (b p)).mono ?_
 rintro d w3 ⟨rfl,v⟩;have z:=l ((b p).trans v);clear v;go_wp2;go_ret2;exact⟨rfl,b z⟩
theorem Kl(k:Nat)(a:aK)(r:Int)(d:U)(hA:∀i,G No d i->Calls h 99 #[g (E (u k 0 J)),t #[F K a.aA,F K a.ac]] i λc w'=>c=q (L false)/\G No i w'):(j:a.kind≠9)->Calls h 77 #[g (E (u k 0 J)),t (aw a),F K r] d λc w'=>c=q (refuse 5)/\G No d w':=by
 intro j;have o:=l hA;have hd:(a.kind==9)=false:=by simp[j]
 have e:=l ((G.refl No d).alloc (m (aw a) 41));unfold aw at e ⊢;clear hA j;go_enter func77,ntmps77;go_wp2_with fail;refine((b o) _ (b e)).mono ?_;rintro c s ⟨rfl,n⟩;have p:=l ((b e).trans n);clear n;go_wp2;go_ret2;exact⟨rfl,b p⟩
theorem Km(k:Nat)(a:aK)(z:Int)(r:a.kind=5)(e:U)(hA:∀c,G No e c->Calls h 99 #[g (E (u k 0 J)),t #[F K a.aA,F K a.ac]] c λd w'=>d=q (L true)/\G No c w')(p:∀c,G No e c->Calls h 99 #[g (E (u k 0 J)),t #[F K a.dd,F K a.de]] c λd w'=>d=q (L false)/\G No c w'):Calls h 77 #[g (E (u k 0 J)),t (aw a),F K z] e λd w'=>d=q (refuse 5)/\G No e w':=by
 have v:=l hA;have w:=l p;have i:=l ((G.refl No e).alloc (m (aw a) 41));have j:=l (X.new e (aw a) 41);unfold aw at i j ⊢;rw[r] at i j ⊢;clear hA p r;go_enter func77,ntmps77;go_wp2_with fail;refine((b v) _ (b i)).mono ?_;rintro d B ⟨rfl,n⟩;have y:=(n.e (b j) (λA=>A)).T;have o:=l ((b i).trans n);clear n;go_wp2_with fail;refine((b w) _ (b o)).mono ?_;rintro d H ⟨rfl,s⟩;have x:=l ((b o).trans s)
 clear s y;go_wp2;go_ret2;exact⟨rfl,b x⟩
def aZ(p:O)(b:List z)(c a:Int):z:=b.getD (p.idx c a) kT
def bH(p:O)(b:List z)(a:aK)(c:Int):Int:=
 if a.kind=9 then(if a.c.aY=true/\¬(a.c.rows* a.c.y<(cG b:Int)) then 0 else 4)
 else if p.e a.aA a.ac=false\/(a.kind=5/\p.e a.dd a.de=false) then 5
 else if a.kind=2 then(if dg a≠0 then dg a else if a.time<=c\/a.time>c+100 then 8 else ft (aZ p b a.aA a.ac).st (M.leftOf p b a.bF.toNat))
 else if a.kind=3 then(if dg a≠0 then dg a else if (aZ p b a.aA a.ac).st=1/\(aZ p b a.aA a.ac).pa=a.bJ/\(aZ p b a.aA a.ac).cl=a.bF then 0 else ft (aZ p b a.aA a.ac).st (M.leftOf p b a.bF.toNat))
 else if a.kind=4 then dK (aZ p b a.aA a.ac).st (aZ p b a.aA a.ac).pa a.bJ
 else if a.kind=5 then(if dK (aZ p b a.aA a.ac).st (aZ p b a.aA a.ac).pa a.bJ≠0 then dK (aZ p b a.aA a.ac).st (aZ p b a.aA a.ac).pa a.bJ else if (aZ p b a.dd a.de).st≠0 then 9 else 0)
 else if a.kind=6 then(if (aZ p b a.aA a.ac).st≠0 then 9 else 0)
 else(if (aZ p b a.aA a.ac).st≠3 then 10 else 0)
def ie(a:aK):V:=
 if a.kind=9 then pQ a.c
 else if a.kind=2 then gF a.aA a.ac 1 a.bJ a.bF a.time
 else if a.kind=3 then gF a.aA a.ac 2 a.bJ a.bF 0
 else if a.kind=5 then qQ a.aA a.ac a.dd a.de
 else if a.kind=6 then gF a.aA a.ac 3 0 0 0
 else oK a.aA a.ac
def eD(p:O)(b:List z)(a:aK):List z:=
 if a.kind=9 then gR (gG p a.c) b
 else if a.kind=2 then b.set (p.idx a.aA a.ac) ⟨a.aA,a.ac,1,a.bJ,a.bF,a.time⟩
 else if a.kind=3 then b.set (p.idx a.aA a.ac) ⟨a.aA,a.ac,2,a.bJ,a.bF,0⟩
 else if a.kind=5 then(b.set (p.idx a.aA a.ac) (aZ p b a.aA a.ac).bZ).set (p.idx a.dd a.de) ⟨a.dd,a.de,(aZ p b a.aA a.ac).st,(aZ p b a.aA a.ac).pa,(aZ p b a.aA a.ac).cl,(aZ p b a.aA a.ac).un⟩
 else if a.kind=6 then b.set (p.idx a.aA a.ac) ⟨a.aA,a.ac,3,0,0,0⟩
 else b.set (p.idx a.aA a.ac) (aZ p b a.aA a.ac).bZ
def iG(p:O)(a:aK):O:=if a.kind=9 then gG p a.c else p.next
def lM(p:O)(b:List z)(a:aK)(c:Int):V:=if bH p b a c=0 then ey (ie a) else refuse (bH p b a c)
variable {k:List z} {j:Int} {w Q P:Nat} {p:Nat->Option (O×List z)} {S:Nat->Option Nat} {o:Nat->Nat} {I:U} {v:Type}
theorem nF{p:O}(d:aJ p k){a:Int}(c:p.e j a=true):∃hi:p.idx j a<k.length,aZ p k j a=k[p.idx j a]/\k[p.idx j a].row=j/\k[p.idx j a].ae=a:=by
 have b:p.idx j a<k.length:=bV.wf.jP d c;have e:=bV.wf.qA d c;refine⟨b,?_,e⟩;unfold aZ;rw[qR,du b];rfl
theorem mE{a:aK}(b:dg a=0):0<=a.bF/\a.bF<4/\1<=a.bJ/\a.bJ<=1000:=by
 unfold dg at b;split at b
 .omega
 .split at b
  .omega
  .omega
theorem Kn{p:O}{ai:List az}(n:cK I w p k Q ai P)(Y:aJ p k)(a:aK)(i:Int)(aH:0<=i/\i<=4611686018427387000)(aP:2<=a.kind/\a.kind<=9/\a.kind≠8):Calls h 77 #[g (E (u w 0 J)),t (aw a),F K i] I λj w'=>j=q (lM p k a i)/\G No I w':=by
 have ae:∀ag ab b,G No I b->Calls h 99 #[g (E (u w 0 J)),t #[F K ag,F K ab]] b λj w'=>j=q (L (p.e ag ab))/\G No b w':=λag ab b d=>
  sH w ag ab p.rows p.y _ b (d.e n.e (λc=>c)) rfl rfl
 by_cases o:a.kind=9
 .have hval:∃c e,uo a.c (cG k)=aq #[c,e]:=by
   unfold uo;split<;>exact⟨_,_,rfl⟩
  obtain⟨c,e,l⟩:=hval;refine(Ke w a i c e o I (λb d=>?_)).mono ?_
  .have:=Kd w Q _ a.c (cG k) b (d.e n.e (λc=>c)) rfl (λs v ty=>by
    have aG:=(d.trans v).map n.map (λc=>c)
    have:=Kc s Q P ai aG ty
    rw[n.rel.size] at this
    exact this) (λR=>by
     simp only[O.aY,eA] at R
     have f1:0<=a.c.rows* a.c.y:=ky (by omega) (by omega)
     have f2:a.c.rows* a.c.y<=20* 6:=tL (by omega) (by omega) (by omega) (by omega)
     exact bh _ (by omega) (by omega))
   rw[l] at this;exact this
  .rintro j w' ⟨rfl,r⟩;refine⟨?_,r⟩;rw[<-l];congr 1;unfold lM uo;have A:bH p k a i=(if a.c.aY=true/\¬(a.c.rows* a.c.y<(cG k:Int)) then 0 else 4):=by unfold bH;rw[D o]
   have y:ie a=pQ a.c:=by unfold ie;rw[D o]
   rw[A,y];by_cases af:a.c.aY=true/\¬(a.c.rows* a.c.y<(cG k:Int))
   .rw[D af,D af,D rfl]
   .rw[f af,f af,f (by omega)]
 by_cases ad:p.e a.aA a.ac=true
 case neg=>
  have ao:p.e a.aA a.ac=false:=by simpa using ad
  refine(Kl w a i I (λb d=>by have:=ae a.aA a.ac b d;rw[ao] at this;exact this) o).mono ?_;rintro j w' ⟨rfl,r⟩;refine⟨?_,r⟩;simp[lM,bH,o,ao]
 have hA:=λb d=>by have:=ae a.aA a.ac b d;rw[ad] at this;exact this
 obtain⟨hi,ap,aB,aA⟩:=nF Y ad;have R:=n.sees Y _ hi;rw[aB,aA,<-ap] at R;have aL:(aZ p k a.aA a.ac).wf:=by rw[ap];exact Y.dX _ (eK hi)
 obtain⟨ah,aI⟩:∃ah:Nat,(aZ p k a.aA a.ac).st=ah:=⟨(aZ p k a.aA a.ac).st.toNat,by have:=aL.ou;omega⟩;have ak:∀b,G No I b->Calls h 119 #[t (aw a)] b λj w'=>j=q (F K (dg a))/\G No b w':=λb d=>JY a b;have hS:dg a=0->∀b,G No I b->Calls h 120 #[g (E (u w 0 J)),t (aw a)] b λj w'=>j=q (F K (ft (aZ p k a.aA a.ac).st (M.leftOf p k a.bF.toNat)))/\G No b w':=λx b d=>by
  have aO:=mE x;refine J3 w Q a.bF.toNat (by omega) _ a (by omega) _ _ _ _ _ b (d.e n.e (λc=>c)) rfl ?_ (R.on d);have:a.bF.toNat=0\/a.bF.toNat=1\/a.bF.toNat=2\/a.bF.toNat=3:=by omega
  obtain j|j|j|j:=this<;>(rw[j];rfl)
 have am:∀b,G No I b->Calls h 121 #[g (E (u w 0 J)),t (aw a)] b λj w'=>j=q (F K (dK (aZ p k a.aA a.ac).st (aZ p k a.aA a.ac).pa a.bJ))/\G No b w':=λb d=>by
  have au:=R.on d;rw[aI] at au ⊢;exact J4 w Q ah _ a _ _ _ b (d.e n.e (λc=>c)) rfl au
 have N:¬(p.e a.aA a.ac=false\/(a.kind=5/\p.e a.dd a.de=false))\/(a.kind=5/\p.e a.dd a.de=false):=by
  by_cases ay:a.kind=5/\p.e a.dd a.de=false
  .exact .inr ay
  .left;rintro(n|n);rw[ad] at n;exact absurd n (by simp);exact ay n
 obtain N|⟨aj,ar⟩:=N
 case inr=>
  refine(Km w a i aj I hA (λb d=>by have:=ae a.dd a.de b d;rw[ar] at this;exact this)).mono ?_;rintro j w' ⟨rfl,r⟩;refine⟨?_,r⟩;simp[lM,bH,aj,ar]
 by_cases B:a.kind=2
 .have hval:∃c e,kG a i (dg a) (ft (aZ p k a.aA a.ac).st (M.leftOf p k a.bF.toNat))=aq #[c,e]:=by
   unfold kG;(repeat' split)<;>exact⟨_,_,rfl⟩
  obtain⟨c,e,l⟩:=hval;refine(Kf w a i c e B I hA (λb d=>?_)).mono ?_
  .have:=J5 w a i _ _ aH b (λs v=>ak s (d.trans v)) (λx s v=>hS x s (d.trans v));rw[l] at this;exact this
  .rintro j w' ⟨rfl,r⟩;refine⟨?_,r⟩;rw[<-l];congr 1;have A:bH p k a i=(if dg a≠0 then dg a else if a.time<=i\/a.time>i+100 then 8 else ft (aZ p k a.aA a.ac).st (M.leftOf p k a.bF.toNat)):=by
    unfold bH;rw[f o,f N,D B]
   have y:ie a=gF a.aA a.ac 1 a.bJ a.bF a.time:=by unfold ie;rw[f o,D B]
   unfold lM kG;rw[A,y];by_cases x:dg a=0
   .by_cases T:a.time<=i\/a.time>i+100
    .simp only[x,ne_eq,si,jQ,D T];simp
    .simp only[x,ne_eq,si,jQ,f T];by_cases S:ft (aZ p k a.aA a.ac).st (M.leftOf p k a.bF.toNat)=0<;>simp[S]
   .simp[x]
 by_cases H:a.kind=3
 .have hval:∃c e,jo a (dg a) (aZ p k a.aA a.ac).st (aZ p k a.aA a.ac).pa (aZ p k a.aA a.ac).cl (ft (aZ p k a.aA a.ac).st (M.leftOf p k a.bF.toNat))=aq #[c,e]:=by
   unfold jo;(repeat' split)<;>exact⟨_,_,rfl⟩
  obtain⟨c,e,l⟩:=hval;refine(Kg w a i c e H I hA (λb d=>?_)).mono ?_
  .have:=Ka w Q _ a _ _ _ _ _ _ b (d.e n.e (λc=>c)) rfl (R.on d) (λs v=>ak s (d.trans v)) (λx s v=>hS x s (d.trans v));rw[l] at this;exact this
  .rintro j w' ⟨rfl,r⟩;refine⟨?_,r⟩;rw[<-l];congr 1;have A:bH p k a i=(if dg a≠0 then dg a else if (aZ p k a.aA a.ac).st=1/\(aZ p k a.aA a.ac).pa=a.bJ/\(aZ p k a.aA a.ac).cl=a.bF then 0 else ft (aZ p k a.aA a.ac).st (M.leftOf p k a.bF.toNat)):=by
    unfold bH;rw[f o,f N,f B,D H]
   have y:ie a=gF a.aA a.ac 2 a.bJ a.bF 0:=by unfold ie;rw[f o,f B,D H]
   unfold lM jo;rw[A,y];by_cases x:dg a=0
   .by_cases T:(aZ p k a.aA a.ac).st=1/\(aZ p k a.aA a.ac).pa=a.bJ/\(aZ p k a.aA a.ac).cl=a.bF
    .simp only[x,ne_eq,si,jQ,D T];simp
    .simp only[x,ne_eq,si,jQ,f T];by_cases S:ft (aZ p k a.aA a.ac).st (M.leftOf p k a.bF.toNat)=0<;>simp[S]
   .simp[x]
 by_cases Z:a.kind=4
 .have hval:∃c e,pM a (dK (aZ p k a.aA a.ac).st (aZ p k a.aA a.ac).pa a.bJ)=aq #[c,e]:=by
   unfold pM;(repeat' split)<;>exact⟨_,_,rfl⟩
  obtain⟨c,e,l⟩:=hval;refine(Kh w a i c e Z I hA (λb d=>?_)).mono ?_
  .have:=J7 w a _ b (λs v=>am s (d.trans v));rw[l] at this;exact this
  .rintro j w' ⟨rfl,r⟩;refine⟨?_,r⟩;rw[<-l];congr 1;have A:bH p k a i=dK (aZ p k a.aA a.ac).st (aZ p k a.aA a.ac).pa a.bJ:=by
    unfold bH;rw[f o,f N,f B,f H,D Z]
   have y:ie a=oK a.aA a.ac:=by unfold ie;rw[f o,f B,f H,f (by omega),f (by omega)]
   unfold lM pM;rw[A,y];by_cases S:dK (aZ p k a.aA a.ac).st (aZ p k a.aA a.ac).pa a.bJ=0<;>simp[S]
 by_cases W:a.kind=5
 .have ax:p.e a.dd a.de=true:=by
   by_cases T:p.e a.dd a.de=true
   .exact T
   .exact absurd (.inr ⟨W,by simpa using T⟩) N
  obtain⟨aC,aE,aF,aD⟩:=nF Y ax;have av:=n.sees Y _ aC;rw[aF,aD,<-aE] at av;have hval:∃c e,nD a (dK (aZ p k a.aA a.ac).st (aZ p k a.aA a.ac).pa a.bJ) (aZ p k a.dd a.de).st=aq #[c,e]:=by
   unfold nD;(repeat' split)<;>exact⟨_,_,rfl⟩
  obtain⟨c,e,l⟩:=hval;refine(Ki w a i c e W I hA (λb d=>by have:=ae a.dd a.de b d;rw[ax] at this;exact this) (λb d=>?_)).mono ?_
  .have:=J8 w Q _ a _ _ _ _ _ b (d.e n.e (λc=>c)) rfl (λ_=>av.on d) (λs v=>am s (d.trans v));rw[l] at this;exact this
  .rintro j w' ⟨rfl,r⟩;refine⟨?_,r⟩;rw[<-l];congr 1;have A:bH p k a i=(if dK (aZ p k a.aA a.ac).st (aZ p k a.aA a.ac).pa a.bJ≠0 then dK (aZ p k a.aA a.ac).st (aZ p k a.aA a.ac).pa a.bJ else if (aZ p k a.dd a.de).st≠0 then 9 else 0):=by
    unfold bH;rw[f o,f N,f B,f H,f Z,D W]
   have y:ie a=qQ a.aA a.ac a.dd a.de:=by unfold ie;rw[f o,f B,f H,D W]
   unfold lM nD;rw[A,y];by_cases S:dK (aZ p k a.aA a.ac).st (aZ p k a.aA a.ac).pa a.bJ=0
   .by_cases X:(aZ p k a.dd a.de).st=0<;>simp[S,X]
   .simp[S]
 by_cases aa:a.kind=6
 .have hval:∃c e,pN a (aZ p k a.aA a.ac).st=aq #[c,e]:=by
   unfold pN;(repeat' split)<;>exact⟨_,_,rfl⟩
  obtain⟨c,e,l⟩:=hval;refine(Kj w a i c e aa I hA (λb d=>?_)).mono ?_
  .have:=J9 w Q _ a _ _ _ _ b (d.e n.e (λc=>c)) rfl (R.on d);rw[l] at this;exact this
  .rintro j w' ⟨rfl,r⟩;refine⟨?_,r⟩;rw[<-l];congr 1;have A:bH p k a i=if (aZ p k a.aA a.ac).st≠0 then 9 else 0:=by
    unfold bH;rw[f o,f N,f B,f H,f Z,f W,D aa]
   have y:ie a=gF a.aA a.ac 3 0 0 0:=by unfold ie;rw[f o,f B,f H,f W,D aa]
   unfold lM pN;rw[A,y];by_cases X:(aZ p k a.aA a.ac).st=0<;>simp[X]
 have aN:a.kind=7:=by omega
 .have hval:∃c e,pO a (aZ p k a.aA a.ac).st=aq #[c,e]:=by
   unfold pO;(repeat' split)<;>exact⟨_,_,rfl⟩
  obtain⟨c,e,l⟩:=hval;refine(Kk w a i c e aN I hA (λb d=>?_)).mono ?_
  .have:=J' w Q _ a _ _ _ _ b (d.e n.e (λc=>c)) rfl (R.on d);rw[l] at this;exact this
  .rintro j w' ⟨rfl,r⟩;refine⟨?_,r⟩;rw[<-l];congr 1;have A:bH p k a i=if (aZ p k a.aA a.ac).st≠3 then 10 else 0:=by
    unfold bH;rw[f o,f N,f B,f H,f Z,f W,f aa]
   have y:ie a=oK a.aA a.ac:=by unfold ie;rw[f o,f B,f H,f W,f aa]
   unfold lM pO;rw[A,y];by_cases X:(aZ p k a.aA a.ac).st=3<;>simp[X]
def bL(x:Option Nat):V:=.pointer (x.map λa=>(u a 0 J))
def oM(a:Nat->Option Nat):Nat:=if (a 30).isSome then 1 else 0
def nG(a:Nat->Option Nat):Bool:=(a 31).isSome
def dA(b:Int)(a:Nat->Option Nat):Array V:=
 #[F K b,bL (a 0),bL (a 1),bL (a 2),bL (a 3),bL (a 4),bL (a 5),bL (a 6),bL (a 7),bL (a 8),bL (a 9),bL (a 10),bL (a 11),bL (a 12),bL (a 13),bL (a 14),bL (a 15),bL (a 16),bL (a 17),bL (a 18),bL (a 19),bL (a 20),.map (a 21),.map (a 22),.map (a 23),.map (a 24),.map (a 25),.map (a 26),.map (a 27),.map (a 28),bL (a 29),F K (oM a),L (nG a)]
theorem oN(d:Int)(c:Nat->Option Nat)(a:Nat)(e:a<21):(dA d c)[1+a]? =E (bL (c a)):=by
 have:a=0\/a=1\/a=2\/a=3\/a=4\/a=5\/a=6\/a=7\/a=8\/a=9\/a=10\/a=11\/a=12\/a=13\/a=14\/a=15\/a=16\/a=17\/a=18\/a=19\/a=20:=by omega
 obtain b|b|b|b|b|b|b|b|b|b|b|b|b|b|b|b|b|b|b|b|b:=this<;>(subst b;rfl)
theorem lN(d:Int)(c:Nat->Option Nat)(a:Nat)(hi:a<8):(dA d c)[22+a]? =E (.map (c (21+a))):=by
 have:a=0\/a=1\/a=2\/a=3\/a=4\/a=5\/a=6\/a=7:=by omega
 obtain b|b|b|b|b|b|b|b:=this<;>(subst b;rfl)
def gH(d:Nat->Option Nat)(c b:Nat):Nat->Option Nat:=λa=>if a=c then E b else d a
theorem Ko(d:Int)(e:Nat->Option Nat)(a c:Nat)(i:a<21):(dA d e).setIfInBounds (1+a) (bL (E c))=dA d (gH e a c):=by
 have:a=0\/a=1\/a=2\/a=3\/a=4\/a=5\/a=6\/a=7\/a=8\/a=9\/a=10\/a=11\/a=12\/a=13\/a=14\/a=15\/a=16\/a=17\/a=18\/a=19\/a=20:=by omega
 obtain b|b|b|b|b|b|b|b|b|b|b|b|b|b|b|b|b|b|b|b|b:=this<;>(subst b;rfl)
structure cI (w:U) (ow:Nat->Nat) (kb:Nat) (now:Int) (dS:Nat->Option Nat) (fl:Nat->Option (O×List z)):Prop where
 e:X w kb (dA now dS) 121
 bw:ow kb=1
 bg:∀k,ow k≠0->k<w.heap.size
 gone:∀n,n<21->fl n=J->dS n=J
 here:∀n p l,n<21->fl n=E (p,l)->∃b,dS n=E b/\aJ p l/\cF w (λk=>ow k=n+2) b p l
theorem yN(a:cI I o w j S p):Calls h 32 #[g (E (u w 0 J))] I λc w'=>c=q (F K j)/\w'=I:=by
 have b:=a.e.T 0;rw[show(dA j S)[0]? =E (F K j) from rfl] at b;have d:=a.e.lt;clear a;go_enter func32,ntmps32;go_wp2;go_ret;exact⟨rfl,rfl⟩
theorem yO(d:Nat)(a:Int)(j:¬(1<=a/\a<=20))(b:U):Calls h 59 #[g (E (u d 0 J)),F K a] b λc w'=>c=q (g J)/\w'=b:=by
 by_cases e:a<1
 .go_enter func59,ntmps59;go_wp2;go_ret;exact⟨rfl,rfl⟩
 .have i:a>20:=by omega
  go_enter func59,ntmps59;go_wp2;go_ret;exact⟨rfl,rfl⟩
theorem Kp(i:Nat)(a:Nat)(s:1<=a/\a<=20)(x:V)(d:Array V)(c:U)(b:X c i d 121)(e:d[1+a]? =E x):Calls h 59 #[g (E (u i 0 J)),F K a] c λk w'=>k=q x/\w'=c:=by
 have j:=b.T (1+a);rw[e] at j;have r:=b.lt;clear b e;have l:¬(a:Int)<1:=by omega
 have n:¬(a:Int)>20:=by omega
 have o:(a:Int)<21:=by omega
 have p:(0:Int)<=a:=by omega
 go_enter func59,ntmps59;go_wp2;go_ret;exact⟨rfl,rfl⟩
theorem wg(c:cI I o w j S p)(a:Nat)(d:1<=a/\a<=20):Calls h 59 #[g (E (u w 0 J)),F K a] I λb w'=>b=q (bL (S a))/\w'=I:=
 Kp w a d _ _ I c.e (oN j S a (by omega))
theorem cI.mod{w w':U}{i:Nat->Option Nat}(a:cI w o Q j i p){S:Nat->Prop}(c:G S w w')(e:∀b,o b≠0->¬S b):cI w' o Q j i p:=by
 refine⟨c.e a.e (e _ (by rw[a.bw];omega)),a.bw,λb d=>bj (a.bg b d) c.size,a.gone,λy A x v s=>?_⟩;obtain⟨k,l,n,r⟩:=a.here y A x v s;exact⟨k,l,n,r.mod c (λb d=>e b (by omega))⟩
theorem cI.aF{w':U}{r:Int}{l:Nat->Option (O×List z)}(c:cI I o w r S l){p:O}(i:G (λd=>o d=Q+2) I w')(A:S Q=E P)(B:aJ p k)(y:cF w' (λd=>o d=Q+2) P p k):cI w' o w r S (λj=>if j=Q then E (p,k) else l j):=by
 refine⟨i.e c.e (by rw[c.bw];omega),c.bw,λd n=>bj (c.bg d n) i.size,λj e a=>?_,λj M H e a=>?_⟩
 .by_cases b:j=Q
  .rw[D b] at a;exact absurd a (by simp)
  .rw[f b] at a;exact c.gone j e a
 .by_cases b:j=Q
  .rw[D b] at a;simp only[wh,qP] at a;obtain⟨rfl,rfl⟩:=a;subst b;exact⟨P,A,B,y⟩
  .rw[f b] at a;obtain⟨b',s,v,x⟩:=c.here j M H e a;exact⟨b',s,v,x.mod i (λd n N=>by omega)⟩
theorem cI.congr{fl':Nat->Option (O×List z)}(b:cI I o w j S p)(e:∀a,a<21->p a=fl' a):cI I o w j S fl':=
 ⟨b.e,b.bw,b.bg,λa c d=>b.gone a c (by rw[e a c];exact d),λa k i c d=>b.here a k i c (by rw[e a c];exact d)⟩
theorem cI.yP(a:cI I o w j S p)(b:Int):cI (I.setCell (u w 0 J) (F K b)) o w b S p:=by
 have e:G (λc=>c=w) I (I.setCell (u w 0 J) (F K b)):=(G.refl _ I).at 0 _;refine⟨?_,a.bw,λc d=>bj (a.bg c d) e.size,a.gone,λy A x v s=>?_⟩
 .have:=a.e.set 0 (F K b);rw[show(dA j S).setIfInBounds 0 (F K b)=dA b S from rfl] at this;exact this
 .obtain⟨i,l,n,r⟩:=a.here y A x v s;exact⟨i,l,n,r.mod e (λc d k=>by subst k;rw[a.bw] at d;omega)⟩
def jV(a:Int)(x:O×List z):O×List z:=(nz a x.1 x.2,eC a x.2)
theorem yQ{p:O}(a:aJ p k)(j:Int):aJ p (eC j k):=by
 refine⟨a.aY,a.bI,by simpa [eC] using a.len,λc hi=>?_,λl b=>?_⟩
 .have e:c<k.length:=by simpa [eC] using hi
  have:=a.place c e;simp only[eC,sF] at this ⊢;split
  .exact this
  .exact this
 .simp only[eC,kA] at b;obtain⟨d,i,rfl⟩:=b;split
  .exact qN d
  .exact a.dX d i
theorem Cz{p:O}(b:aJ p k)(a:Int):aJ (nz a p k) (eC a k):=by
 unfold nz;split
 .exact(yQ b a).next
 .exact yQ b a
theorem Kq{S:Nat->Prop}{p:O}(l:cF I S w p k)(x:aJ p k)(b:Int):Calls h 95 #[t #[F K b],g (E (u w 0 J))] I λc w'=>c=q (aq #[])/\cF w' S w (nz b p k) (eC b k)/\G S I w':=by
 obtain⟨y,A,i,n,o,r,s,d,e⟩:=l;refine(JX ⟨n,o,r,s⟩ x b).mono ?_;rintro c w' ⟨rfl,⟨j,a⟩,v⟩;exact⟨rfl,⟨y,j,i,a.e,a.map,a.ok,a.rel,d,e⟩,v.mono (by rintro B _ (rfl|rfl);exact d;exact e)⟩
theorem CA:h.underlying 115=E (.array 21 114):=by kernel_rfl
theorem CC:(h.info? 115).map (·.size)=E 21:=by kernel_rfl
def uq(a:Nat->Option Nat):List V:=[bL (a 0),bL (a 1),bL (a 2),bL (a 3),bL (a 4),bL (a 5),bL (a 6),bL (a 7),bL (a 8),bL (a 9),bL (a 10),bL (a 11),bL (a 12),bL (a 13),bL (a 14),bL (a 15),bL (a 16),bL (a 17),bL (a 18),bL (a 19),bL (a 20)]
theorem CD(c:Nat->Option Nat)(a:Nat)(e:a<21)(d:U):(iQ 115 (t (uq c).toArray) (F K (a:Int))).run h d=.ok (bL (c a)) d:=by
 have:a=0\/a=1\/a=2\/a=3\/a=4\/a=5\/a=6\/a=7\/a=8\/a=9\/a=10\/a=11\/a=12\/a=13\/a=14\/a=15\/a=16\/a=17\/a=18\/a=19\/a=20:=by omega
 obtain b|b|b|b|b|b|b|b|b|b|b|b|b|b|b|b|b|b|b|b|b:=this<;>(subst b;rfl)
theorem CG(a:X I w (dA j S) 121):I.rangeAt w 1 (uq S):=by
 intro b e c;rw[a.T];by_cases d:b<21
 .rw[oN j S b d];have:b=0\/b=1\/b=2\/b=3\/b=4\/b=5\/b=6\/b=7\/b=8\/b=9\/b=10\/b=11\/b=12\/b=13\/b=14\/b=15\/b=16\/b=17\/b=18\/b=19\/b=20:=by omega
  obtain a|a|a|a|a|a|a|a|a|a|a|a|a|a|a|a|a|a|a|a|a:=this<;>(subst a;exact c)
 .rw[tU (by simp[uq];omega)] at c;exact absurd c (by simp)
theorem yR(k:cI I o w j S p)(d:Int):Calls h 72 #[g (E (u w 0 J)),t #[F K d]] I λe w'=>e=q (aq #[])/\cI w' o w d S (λc=>(p c).map (jV d))/\G (λa=>o a≠0/\o a<30) I w':=by
 have aD:=k.e.lt;have ad:=k.e.T 0;rw[show(dA j S)[0]? =E (F K j) from rfl] at ad;have av:=k.e.aC;have x:=l k;clear k;go_enter func72,ntmps72;go_upto_region 2 with fail;have H:cI ((I.setCell (u w 0 J) (F K d)).alloc (m #[F K d] 159)) o w d S p:=((b x).yP d).mod ((G.refl No _).alloc _) (λ_ _ R=>R)
 have aj:G (λa=>o a≠0/\o a<30) I ((I.setCell (u w 0 J) (F K d)).alloc (m #[F K d] 159)):=((G.refl _ I).setCell (p:=u w 0 J) (.inl (by show o w≠0/\o w<30;rw[(b x).bw];omega)) _).alloc _;have ab:X ((I.setCell (u w 0 J) (F K d)).alloc (m #[F K d] 159)) I.heap.size #[F K d] 159:=by
  have:=X.new (I.setCell (u w 0 J) (F K d)) #[F K d] 159;rw[ny] at this;exact this
 have az:=l (show o I.heap.size=0 from by
  by_cases ai:o I.heap.size=0
  .exact ai
  .exact absurd ((b x).bg _ ai) (by omega))
 have ah:=CG H.e;have ax:=H.e.lt;have Y:=l H;have Z:=l aj;have T:=l ab;clear H aj ab x ad av;generalize (I.setCell (u w 0 J) (F K d)).alloc (m #[F K d] 159)=aF at *;go_wp2_with (refine wpList_load_mid rfl 115 _ rfl w 1 rfl (uq S) (.array 21 114) ah CA rfl CC ?_)
 go_loopw [15] (λQ wr=>∃a:Nat,Q=F K a/\a<=21/\Hid (cI wr o w d S (λc=>if c<a then(p c).map (jV d) else p c))/\Hid (G (λa=>o a≠0/\o a<30) I wr)/\Hid (X wr I.heap.size #[F K d] 159)) (λQ _=>21 - (intOf Q).toNat)
 case atStart=>exact⟨0,rfl,by omega,(b Y).congr (λc _=>by rw[f (by omega)]),Z,T⟩
 case round=>
  obtain⟨a,rfl,aB,i,y,s⟩:=hrel;clear ah Y Z T ax;by_cases N:a<21
  .have aw:(a:Int)<21:=by omega
   have aC:K.wrap ((a:Int)+1)=((a+1:Nat):Int):=by rw[bh _ (by omega) (by omega)];rfl
   have A:=CD S a N wr
   cases n:p a with
   |none=>
    have r:=(b i).gone a N (by simp[n]);rw[r] at A;rw[show bL J=g J from rfl] at A
    have M:=l ((b i).congr (fl':=λc=>if c<a+1 then(p c).map (jV d) else p c) (λc ag=>by
     by_cases e:c=a
     .subst e;simp[n]
     .by_cases v:c<a
      .simp only[D v,D (show c<a+1 by omega)]
      .simp only[f v,f (show ¬c<a+1 by omega)]))
    clear n r i;go_wp2;exact⟨⟨a+1,rfl,by omega,M,y,s⟩,by simp[intOf];omega⟩
   |some R=>
    obtain⟨aA,ay⟩:=R;obtain⟨aa,r,P,ae⟩:=(b i).here a aA ay N (by simp[n]);rw[r] at A;rw[show bL (E aa)=g (E (u aa 0 J)) from rfl] at A;have au:=(b s).T;have aE:=(b s).lt;have W:=l (Kq ae P d);have ap:=l P;have ao:=l r;have am:=l n;clear n r P ae;go_wp2_with fail;refine(b W).mono ?_;rintro e aG ⟨rfl,af,B⟩
    have M:=l (((b i).aF B (b ao) (Cz (b ap) d) af).congr (fl':=λc=>if c<a+1 then(p c).map (jV d) else p c) (λc ag=>by
     by_cases e:c=a
     .subst e;simp[b am,jV]
     .by_cases v:c<a
      .simp only[f e,D v,D (show c<a+1 by omega)]
      .simp only[f e,f v,f (show ¬c<a+1 by omega)]))
    have ar:=l ((b y).trans (B.mono (λ_ _ (k:o _=a+2)=>by show o _≠0/\o _<30;omega)));have ak:=l (B.e (b s) (by rw[b az];omega));clear af B i y s W au;go_wp2;exact⟨⟨a+1,rfl,by omega,M,ar,ak⟩,by simp[intOf];omega⟩
  .have aw:¬(a:Int)<21:=by omega
   go_wp2;go_end0;exact⟨rfl,(b i).congr (λc ag=>by rw[D (by omega)]),b y⟩
theorem Kr(a:DataW v):1<=nH a:=by
 cases a with
 |lit b=>cases b<;>simp[nH]
 |nil=>simp[nH]
 |ptr a=>simp[nH]
 |slice elems spare=>simp[nH]
 |agg parts=>simp[nH]
 |iface d a=>simp[nH]
 |map entries=>simp[nH]
 |held c=>simp[nH]
theorem Ks{c:DataW v}{b:List (DataW v)}(d:c∈b):nH c<=Rows.uptoBulkAll b:=by
 induction b with
 |nil=>cases d
 |cons j i e=>
  simp only[Rows.uptoBulkAll]
  cases List.mem_cons.1 d with
  |inl a=>subst a;omega
  |inr a=>have:=e a;omega
theorem Kt(a:List (DataW v)):a.length<=Rows.uptoBulkAll a:=by
 induction a with
 |nil=>simp[Rows.uptoBulkAll]
 |cons b d c=>have:=Kr b;simp only[Rows.uptoBulkAll,eL];omega
theorem Ku{es sp:List (DataW v)}{a:List (DataW v)}(b:(DataW.slice es sp:DataW v)∈a)(d:Rows.uptoSmall v a=true):es.length<=1048576:=by
 have e:Rows.uptoBulkAll a<=1048576:=rP d;have c:=Ks b;have i:=Kt es;simp only[nH] at c;omega
end Go.Proofs.YthhibagcpjeihaaGreat
