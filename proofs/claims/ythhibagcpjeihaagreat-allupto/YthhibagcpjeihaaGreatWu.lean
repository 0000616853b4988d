import Derived.Test.YthhibagcpjeihaaGreatWt
import Derived.Test.YthhibagcpjeihaaGreatWq
open Go.Proofs.Tryz
open Go.Addr renaming mk->u
open Go.Value renaming int->F,pointer->g,slice->C,bool->L,agg->t,ownBlock->aV
open Go.IntKind renaming i64->K
open Option renaming none->J,some->E
open Go renaming World->U,Value->V
open Go.Proofs.Tryz renaming prog->h
open Go.Ending renaming returned->q
open Go.Obj renaming cells->m
set_option linter.unusedVariables false
set_option linter.unusedSimpArgs false
set_option maxRecDepth 100000
set_option maxHeartbeats 4000000
namespace Go.Proofs.YthhibagcpjeihaaGreat
open Go.RowKit
open M
variable {P p:U} {S o:List Nat} {w Q:Nat}
theorem iz.TU{w':U}{i F':Nat->Prop}{n aa lv ah H:V}{Y:Array V}(s:iz P i n S)(X:G i P p)(hd:wQ p w' w S.length lv n ah H (S.map xD) aa Q Y)(hy:i w)(z:∀a,H.ownBlock=E a->P.heap.size<=a)(hF:∀d,F' d->(d<P.heap.size/\i d)\/(P.heap.size<=d/\d<p.heap.size/\H.ownBlock≠E d)):
  iz w' F' aa (S++[Q]):=by
 have ag:=λa e=>fE s.row a e;have ak:=X.size;have x:∀d,F' d->d<P.heap.size->i d:=λd o z=>by
  obtain c|c:=hF d o
  .exact c.2
  .omega
 have y:∀d,F' d->d<p.heap.size:=λd o=>by
  obtain c|c:=hF d o<;>omega
 have M:G (λa=>i a\/a=w\/n.ownBlock=E a) P w':=(X.mono (S':=λa=>i a\/a=w\/n.ownBlock=E a) (λ_ _ ai=>.inl ai)).trans' hd.mod (λd o aj=>by
  obtain c|c|c:=o
  .exact .inr (.inl c)
  .have:=z d c;omega
  .exact .inr (.inr c))
 refine⟨?_,λa e b=>?_,λk hi=>?_⟩
 .rw[bG,qK];exact hd.row
 .obtain c|c:=(hd.own a e).2
  .exact s.lZ a c (x a b (ag a c))
  .have:=y a b;omega
 .by_cases W:k<S.length
  .rw[sW W];obtain⟨v,R,af,T,ab,ad⟩:=s.each k W;have ae:=T.lt;have f1:¬(i S[k]\/S[k]=w\/n.ownBlock=E S[k]):=by
    rintro(b|b|b)
    .exact v b
    .exact v (b ▸ hy)
    .exact R b
   refine⟨λb=>v (x _ b ae),λb=>?_,af,M.e T f1,ab,λB r A=>?_⟩
   .obtain c|c:=(hd.own _ b).2
    .exact R c
    .omega
   .obtain⟨I,l,N,O,j⟩:=ad B r A;have f2:∀a,r.ownBlock=E a->¬(i a\/a=w\/n.ownBlock=E a):=λa e b=>by
     obtain b|b|b:=b
     .exact(j a e).1 b
     .exact(j a e).1 (b ▸ hy)
     .exact(j a e).2 b
    refine⟨I,l.mod M f2,N.mod M (λa e=>⟨l.lt a e,f2 a e⟩),O,λa e=>⟨λb=>(j a e).1 (x a b (l.lt a e)),λb=>?_⟩⟩;obtain c|c:=(hd.own _ b).2
    .exact(j a e).2 c
    .have:=l.lt a e;omega
  .obtain rfl:k=S.length:=by simp at hi;omega
   have a:(S++[Q])[S.length]'hi=Q:=by simp
   rw[a];refine⟨λb=>by have:=y Q b;have:=hd.uJ.1;omega,hd.uJ.2,Y,hd.box,hd.size,λB r A=>?_⟩;obtain⟨I,l,N,O,j⟩:=hd.each B r A;refine⟨I,l,N,O,λa e=>⟨λb=>?_,(j a e).2.2.1⟩⟩;obtain c|c:=(j a e).2.2.2
   .obtain Z|Z:=hF a b
    .have:=z a c;omega
    .exact Z.2.2 c
   .have:=y a b;omega
theorem eV.followed{B:Nat->aG->Prop}(ar:∀Q I,B Q I->B (Q+1) I){w':U}{l:Nat->Nat}{lv v s:V}{os:List Nat}{j N:Nat}(i:eV B (rL v s N) P p l w lv v s os Q)(aP:j<os.length){I:aG}{Z:List aN}{aa ab:Nat->Prop}(au:∀I',AX I I'->B (Q+1) I')(ax:S.length<=N/\o.length<=N/\gX p (λa=>kR l w lv a\/s.ownBlock=E a) v S/\iz p (λa=>kR l w lv a\/v.ownBlock=E a) s o)(af:∀c,s.ownBlock=E c->P.heap.size<=c)(hS:∀c,aa c\/ab c->l c=j+1)
  (hd:yc p w' aa ab (vj (p.heap.size+1) (λa=>l a=j+1) os[j] I) Z w lv v s o):∃aF y,eV B (rL v y (N+1)) P w' aF w lv v y os (Q+1)/\∀c,y.ownBlock=E c->P.heap.size<=c:=by
 classical
 obtain⟨aS,aT,ai,Y⟩:=ax;obtain⟨aI,ad,aE,y,aD,x,aO,T,am,ao,O,z⟩:=hd.ex;obtain⟨aL,I',n,ae,ap,A⟩:=am;have aR:=i.mod.size;have aX:=T.size;have aY:=z.mod.size;have ay:=i.e.lt;have az:∀a,p.heap.size<=a->l a=0:=λa e=>by
  by_cases b:l a=0
  .exact b
  .have:=(i.iA a b).2;omega
 have ah:∀a,(l a=j+1\/n a)->a<ad.heap.size:=ae.lt;have W:∀a,a<p.heap.size->¬n a:=λa e b=>by have:=(A a b).1;omega
 have R:∀c,s.ownBlock=E c->c<p.heap.size/\l c=0/\c≠w/\lv.ownBlock≠E c/\v.ownBlock≠E c:=λc r=>by
  have d:=Y.lZ c r;refine⟨fE Y.row c r,?_,λb=>d (.inl (.inr (.inl b))),λb=>d (.inl (.inr (.inr b))),λb=>d (.inr b)⟩;by_cases aj:l c=0
  .exact aj
  .exact absurd (.inl (.inl aj)) d
 have hu:∀c,aE.ownBlock=E c->¬n c:=λc r b=>by
  obtain⟨aJ,aK,_,av,_⟩:=bp.owns (m:=Z.length) ⟨_,ao⟩ r;obtain d|⟨d,_⟩:=(A c b).2
  .exact AW d av
  .have:=(O c r).2;omega
 have M:G (λa=>l a=j+1\/a=w\/s.ownBlock=E a) p w':=(T.mono (S':=λa=>l a=j+1\/a=w\/s.ownBlock=E a) (λc _ H=>.inl (hS c H))).trans' z.mod (λa e aw=>by
  obtain d|d|d:=e
  .exact .inr (.inl d)
  .have:=(O a d).1;omega
  .exact .inr (.inr d))
 have ag:∀c,y.ownBlock=E c->s.ownBlock=E c\/ad.heap.size<=c:=λc r=>(z.own c r).2;refine⟨λa=>if n a then j+1 else l a,y,⟨z.e,M.owns i.row (λa e x=>?_),λX hi=>?_,λa e=>?_,?_,λa e=>?_,by have:=i.px;omega,λa=>?_,i.mod.trans' M (λa e aw=>?_),?_⟩,λc r=>?_⟩
 .obtain⟨aU,aW,aA⟩:=i.ku a e;obtain b|b|b:=x
  .omega
  .exact aA b
  .exact(R a b).2.2.2.1 e
 .by_cases b:X=j
  .subst b;refine⟨I',(ae.mod z.mod (λa e x=>?_)).owns (λa=>?_),au I' ap⟩
   .obtain d|d:=e
    .have aQ:=(i.iA a (by omega)).2;obtain b|b|b:=x
     .subst b;have:=i.j1.1;omega
     .have:=(O a b).1;omega
     .have:=(R a b).2.1;omega
    .have:=(A a d).1;obtain b|b|b:=x
     .omega
     .exact hu a b d
     .have:=(R a b).1;omega
   .by_cases k:n a
    .simp only[D k];exact⟨λ_=>trivial,λ_=>.inr k⟩
    .simp only[f k];exact⟨λH=>H.elim id (λaH=>absurd aH k),λH=>.inl H⟩
  .obtain⟨ak,aB,aC⟩:=i.rG X hi;refine⟨ak,(aB.mod M (λa e x=>?_)).owns (λa=>?_),ar _ _ aC⟩
   .have e:l a=X+1:=e;obtain d|d|d:=x
    .omega
    .subst d;have:=i.j1.1;omega
    .have:=(R a d).2.1;omega
   .by_cases k:n a
    .simp only[D k];have:=az a (by have:=(A a k).1;omega);omega
    .simp only[f k]
 .have e:(if n a then j+1 else l a)≠0:=e;by_cases k:n a
  .have:=(A a k).1;have:=ah a (.inr k);omega
  .rw[f k] at e;have:=i.iA a e;omega
 .rw[f (W w ay)];exact i.j1
 .show(if n a then j+1 else l a)=0/\_;rw[f (W a (fE i.row a e))];exact i.ku a e
 .show(if n a then j+1 else l a)<=_;have:=i.top a;split<;>omega
 .obtain d|d|d:=e
  .have:=(i.iA a (by omega)).1;omega
  .subst d;have:=i.j1.2;omega
  .have:=af a d;omega
 .refine⟨S,o++[aD],by omega,by simp;omega,ai.mod (M.mono (λa _ b=>?_)) (λa e b=>?_),Y.TU (T.mono (λa _ b=>?_)) z (.inl (.inr (.inl rfl))) (λc r=>(O c r).1) (λa b=>?_)⟩
  .obtain b|b|b:=b
   .exact .inl (.inl (by omega))
   .exact .inl (.inr (.inl b))
   .exact .inr b
  .unfold kR at b;simp only[f (W a e)] at b;obtain b|b:=b
   .exact .inl b
   .obtain d|d:=ag a b
    .exact .inr d
    .omega
  .exact .inl (.inl (by have:=hS a b;omega))
  .by_cases k:n a
   .have:=(A a k).1;exact .inr ⟨by omega,ah a (.inr k),λd=>hu a d k⟩
   .unfold kR at b;simp only[f k] at b;refine .inl ⟨?_,b⟩;obtain(b|b|b)|b:=b
    .exact(i.iA a b).2
    .omega
    .exact fE i.row a b
    .exact fE ai.row a b
 .obtain d|d:=ag c r
  .exact af c d
  .omega
structure j3 (n:Nat) (I:aG):Prop where
 mV:dw n I
 mR:∀b,I.kb=E b->(∀k,k<8->pq (I.tl k) (I.ns k) (I.bs k))/\∀k,k<8->(I.ns k).length<=50* n
theorem j3.of{n:Nat}{I I':aG}(o:j3 n I)(r:dw (n+1) I')(p:Ie I I'):j3 (n+1) I':=by
 refine⟨r,λj d=>?_⟩;obtain⟨l,a,b,c⟩|⟨a,b,c⟩|k:=p
 .obtain⟨f1,f2⟩:=o.mR j (by rw[<-l];exact d);rw[a,b,c];exact⟨f1,λi e=>by have:=f2 i e;omega⟩
 .rw[a,b,c];exact⟨λi e=>.inl ⟨rfl,rfl,rfl⟩,λi e=>gr _⟩
 .rw[k] at d;cases d
theorem j3.fresh{I:aG}(k:dw w I)(i:Ba I):j3 w I:=by
 refine⟨k,λn a=>?_⟩;obtain⟨c,d,e⟩|b:=i
 .rw[c,d,e];exact⟨λl j=>.inl ⟨rfl,rfl,rfl⟩,λl j=>gr _⟩
 .rw[b] at a;cases a
theorem j3.more{I:aG}(a:j3 w I)(b:w+1<=1048577):j3 (w+1) I:=a.of (a.mV.more b) (.inl ⟨rfl,rfl,rfl,rfl⟩)
theorem j3.TV{I I':aG}(i:j3 w I)(l:w+1<=1048577)(d:∃c,I.kb=E c)(b:AX I I'):j3 (w+1) I':=by
 obtain⟨c,d⟩:=d;obtain⟨p,s,r,v,n,o,rfl,j,k⟩:=b;have a:=i.mV.more l;obtain⟨f1,f2⟩:=i.mR c d;exact⟨⟨⟨a.b.same,a.b.ok,a.b.may,a.b.most,a.b.ch,a.b.ay,a.b.fg,a.b.file⟩,a.live,a.dead⟩,λ_ _=>⟨j,λe b=>by have:=k e b;have:=f2 e b;show(n e).length<=_;omega⟩⟩
def kP(a:Nat)(I:aG):Prop:=a<=1048577->j3 a I
theorem kP.more(a:Nat)(I:aG)(b:kP a I):kP (a+1) I:=λc=>(b (by omega)).more c
def kS(e:U)(l:Nat)(i:Nat)(j:U):Prop:=∃k lv b d os c,(c<=i/\c<=1048577)/\eV kP (rL b d c) e j k l lv b d os i/\(∀a,b.ownBlock=E a->e.heap.size<=a)/\∀a,d.ownBlock=E a->e.heap.size<=a
theorem kS.start(w:U):kS w w.heap.size 0 (w.alloc (m #[C J 0 0,C J 0 0,C J 0 0] 34)):=
 ⟨λ_=>0,C J 0 0,C J 0 0,C J 0 0,[],0,by omega,⟨X.new w _ _,by simpa using dx _ _ _ _,λi e=>absurd e (fK _),λc b=>absurd rfl b,⟨rfl,cz _⟩,λc b=>by simp[aV] at b,gr _,λc=>gr _,(G.refl No w).alloc _,
  ⟨[],[],cz _,cz _,gX.nil _ _,iz.nil _ _⟩⟩,λd a=>by simp[aV] at a,λd a=>by simp[aV] at a⟩
theorem kS.whole(i:kS P w Q p):Calls h 11 #[g (E (u w 1 J))] p λb w'=>b=q (L true)/\kS P w Q w':=by
 obtain⟨v,lv,c,e,os,d,l,a,j,k⟩:=i;obtain⟨z,A,x,y,r,s⟩:=a.book;exact(SN a.e r s (by omega) (by omega)).mono λb w' ⟨n,o⟩=>⟨n,v,lv,c,e,os,d,l,a.still (qw _ _ _) o,j,k⟩
theorem TW(d:kS P w Q p)(bs:Q<=1048576){S:Array V}(X:mH S)(aU:rv P S){b:Int}(l:S[0]? =E (F K b))(bp:1<=b/\b<=13):Calls h 10 #[ptrTo w,t S] p λc w'=>c=q (L true)/\kS P w (Q+1) w':=by
 obtain⟨r,lv,s,o,os,A,bq,x,I,M⟩:=d;obtain⟨k',aa,bi,am,ao,hS,aY,a4,aS,a5⟩:=X.rI;obtain⟨bw,bk,bn,aP,aQ,aR⟩:=X.cur;have aZ:=X.pw (by omega) hS.fU;have a0:=X.pw (by omega) hS.c3;obtain⟨sp,af,a6,a7,ar,au,aA,a1,aB⟩:=aU.ex;have aC:∀Z,G No P Z->Reads Z (C a6 af.length a7) af.length (af.map (F K)):=λZ j=>by
  obtain l|⟨aI,am,c,l⟩:=a1
  .exact .inl l
  .exact .inr ⟨aI,am,c,λi bb hu=>eG j (l i bb hu)⟩
 have aN:k'=b:=by
  have:=hS.fL;rw[l] at this;injection this with c;injection c with _ c;exact c.symm
 subst aN;have aH:∀(w':U),rH kP (rL s o A) P w' w s o Q->kS P w (Q+1) w':=λw' hd=>by
  obtain⟨⟨T,a8,ba,e⟩⟩:=hd;exact⟨T,a8,s,o,ba,A,by omega,e,I,M⟩
 by_cases aD:k'=1
 .subst aD;exact(TQ (qw _ _ _) kP.more x (by omega) hS a0 ar au aA (aC _ x.mod) (λae b l=>by have:=aB ae b l;have:=x.mod.size;omega) (λk ah ab _=>j3.fresh ah ab)).mono λc w' ⟨n,hd⟩=>⟨n,aH w' hd⟩
 by_cases a2:0<os.length
 case neg=>
  obtain rfl:os=[]:=iC (by omega);exact(Su (qw _ _ _) kP.more x hS aD).mono λc w' ⟨n,hd⟩=>⟨n,aH w' hd⟩
 have a3:=Bc aa (os.length:Int) (by omega);obtain⟨i,az⟩:∃i:Nat,kz aa (os.length:Int)=(i:Int):=⟨(kz aa (os.length:Int)).toNat,by omega⟩;have N:i<os.length:=by rw[az] at a3;omega
 have j:=λa=>x.still (qw _ _ _) (((G.refl No p).alloc (m S 45)).drewN a);have ay:=λa=>(((G.refl No p).alloc (m S 45)).drewN a);obtain⟨k,ax,aW⟩:=x.rG i N;have B:j3 Q k:=aW (by omega);have H:=B.mV;have y:=λa=>ax.mod (ay a) (λ_ _ bc=>bc);have aj:∀a w',jL ((p.alloc (m S 45)).drewN a) w' (λb=>r b=i+1) os[i] (j3 (Q+1))->kS P w (Q+1) w':=λa w' hd=>by
  obtain⟨T,R,_⟩:=(j a).step (qw _ _ _) kP.more N (R:=j3 (Q+1)) (λ_ e _=>e) hd;exact⟨T,_,_,_,_,A,by omega,R,I,M⟩
 refine TS (qw _ _ _) x (by omega) a2 hS aY a4 (by omega) (aw ao) rfl aS i N az ax (Q:=λw'=>kS P w (Q+1) w') (λc a=>?_) (λ_ _ a=>?_) (λ_ O z a=>?_) (λ_ O z a=>?_) (λc bo O z bu a=>?_)
 .refine(Tx (y a) (H.more (by omega)) hS aZ (by omega) ar au aA (aC _ (x.mod.trans (ay a))) (λae b l c=>by
   have:=aB ae b l
   have:=(x.iA b (by have c:r b=i+1:=c;omega)).1
   omega)).mono ?_
  rintro v w' ⟨n,⟨⟨ak,bd,ah,ab⟩,a9⟩⟩;exact⟨n,aj a w' ⟨⟨ak,bd,B.of ah ab⟩,a9⟩⟩
 .exact⟨r,lv,s,o,os,A,by omega,(j a).more kP.more,I,M⟩
 .exact(TF (y a) H (by omega) z ao a5).mono λc w' ⟨n,hd⟩=>⟨n,aj a w' (hd.imp (λ_ e=>B.of e.1 (.inl e.2)))⟩
 .exact(TI (y a) H (by omega) z).mono λc w' ⟨n,hd⟩=>⟨n,aj a w' (hd.imp (λ_ e=>B.of e.1 (.inl e.2)))⟩
 .have hA:=(y a).ask z H.b.same;have ad:∀ {v:Ending} {w':U},v=q (L true)/\G No ((p.alloc (m S 45)).drewN a) w'->v=q (L true)/\kS P w (Q+1) w':=λ{v w'} d=>⟨d.1,r,lv,s,o,os,A,by omega,((j a).still (qw _ _ _) d.2).more kP.more,I,M⟩;obtain⟨aG,bv,aE,aF,ag,Y⟩:=(j a).book;obtain⟨bm,bl,_,_,_,_,_,aL⟩:=(y a).ex;have bt:r os[i]=i+1:=aL _ (by omega)
  have av:qv ((p.alloc (m S 45)).drewN a) (λb=>kR r w lv b\/o.ownBlock=E b) w os[i] ⟨O,k.okp,k.W.wb,k.W.ow,k.W.v,k.W.xs,k.now,k.fl⟩ k lv s o aG:=
   ⟨hA,(y a).e,(j a).e,ag,.inl (.inr (.inl rfl)),.inl (.inl (by omega)),λb l=>by
    obtain(e|e|e)|e:=l
    .exact((j a).iA b e).2
    .subst e;exact(j a).e.lt
    .exact fE (j a).row b e
    .exact fE Y.row b e,by omega⟩
  have ap:∀ {W:gT} {v:Ending} {w':U},v=q (L true)/\me ((p.alloc (m S 45)).drewN a) w' (λb=>kR r w lv b\/o.ownBlock=E b) w os[i] k W lv s o aG->v=q (L true)/\kS P w (Q+1) w':=λ{W v w'} d=>by
   obtain⟨aJ,R,ai⟩:=(j a).jB kP.more N (y a) (λ_=>B.of ((H.more (by omega)).jB W) (.inl (k.TT W))) ⟨aE,aF,ag,Y⟩ I d.2;exact⟨d.1,r,lv,aJ,o,os,A+1,by omega,R,ai,M⟩
  have:k'=3\/k'=4\/k'=5\/k'=6\/k'=7\/k'=8:=by omega
  obtain rfl|rfl|rfl|rfl|rfl|rfl:=this
  .exact(Rt hA hS).mono λc w' d=>ad d
  .exact(Ru hA hS).mono λc w' d=>ad d
  .exact(Sr hA hS).mono λc w' d=>ad d
  .exact(Ty av hS aP aQ aR).mono λc w' d=>ap d
  .exact(Tz av hS).mono λc w' d=>ap d
  .obtain⟨f1,f2⟩:=B.mR O z;refine(Te (F:=λb=>kR r w lv b\/s.ownBlock=E b) hS (y a) z H.b.same f1 (λb l=>by have:=f2 b l;omega) (j a).e Y (.inl (.inr (.inl rfl))) (λaO (br:r aO=i+1)=>.inl (.inl (by omega))) (by rw[(j a).j1.1];omega) (by omega)).mono ?_;rintro v w' ⟨n,bg,bh,bf,aX,hd⟩;obtain⟨T,aK,R,ai⟩:=(j a).followed kP.more N (I:=k) (λak aT _=>B.TV (by omega) ⟨O,z⟩ aT) ⟨aE,aF,ag,Y⟩ M aX hd
   exact⟨n,T,lv,s,aK,os,A+1,by omega,R,I,ai⟩
theorem TX(a:Option Addr)(r H:Nat)(am:r<=1048576)(d:U)(R:uO d a r):Calls h 7 #[C a r H] d λI w'=>I=q (L true)/\G No d w':=by
 have y:G No d (d.alloc (m #[F K 1,F K 2,F K 3,F K 4,F K 5,F K 6,F K 7,F K 8,F K 9,F K 10,F K 11,F K 12,F K 13] 3)):=(G.refl _ _).alloc _;have x:=X.new d #[F K 1,F K 2,F K 3,F K 4,F K 5,F K 6,F K 7,F K 8,F K 9,F K 10,F K 11,F K 12,F K 13] 3;have S:=R.mod y
 have A:=l (Sx (X:=λ_ j=>mH j/\rv (d.alloc (m #[F K 1,F K 2,F K 3,F K 4,F K 5,F K 6,F K 7,F K 8,F K 9,F K 10,F K 11,F K 12,F K 13] 3)) j) (λ_ _ _ e _=>e) (w:=d.alloc (m #[F K 1,F K 2,F K 3,F K 4,F K 5,F K 6,F K 7,F K 8,F K 9,F K 10,F K 11,F K 12,F K 13] 3)) a r H (by omega)
  (λk M ah hi=>by
   obtain⟨n,off,j,o,i,Z,aa,ab⟩:=S ah hi
   obtain⟨T,_,_,_,Y,hS,_,_,ad,_⟩:=i.rI
   exact⟨n,off,j,T,Y.kind,o,uB M Z,bj ab M.size,i.size,hS.fL,ad 0 _ rfl,i,aa⟩)
  d.heap.size 13 [1,2,3,4,5,6,7,8,9,10,11,12,13] (λc ag=>by
   have:c=0\/c=1\/c=2\/c=3\/c=4\/c=5\/c=6\/c=7\/c=8\/c=9\/c=10\/c=11\/c=12:=by simp at ag;omega
   rw[x.T]
   obtain rfl|rfl|rfl|rfl|rfl|rfl|rfl|rfl|rfl|rfl|rfl|rfl|rfl:=this<;>rfl) x.lt (by simp) true (kS _ _) (kS.start _)
  (λp k e=>by obtain⟨_,_,_,_,_,_,_,c,_⟩:=e;exact c.mod) (λp k e=>by obtain⟨z,lv,s,v,os,n,O,c,o,i⟩:=e;exact⟨z,lv,s,v,os,n,by omega,c.more kP.more,o,i⟩) (λp k ai e P=>by obtain⟨z,lv,s,v,os,n,O,c,o,i⟩:=e;exact⟨z,lv,s,v,os,n,O,c.still (qw _ _ _) P,o,i⟩)
  (λp k j T aj P w N af ak ae ao=>TW w (by omega) N.1 N.2 af (by
    simp[mU] at ae
    omega))
  (λp k w=>w.whole))
 have B:=l y;clear R S y x;go_enter func7,ntmps7;go_wp2_with fail;refine(b A).mono ?_;rintro I ap ⟨rfl,Q⟩;have W:=l ((b B).trans Q);clear Q A B;go_wp2;go_ret;exact⟨rfl,b W⟩
end Go.Proofs.YthhibagcpjeihaaGreat
