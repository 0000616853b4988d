import Derived.Test.YthhibagcpjeihaaGreatMCellsToEnc
import Derived.Test.YthhibagcpjeihaaGreatMPg3ToAsk
import Derived.Test.YthhibagcpjeihaaGreatMRef28ToRef32
import Derived.Test.YthhibagcpjeihaaGreatMFMapToBook4S
import Derived.Test.YthhibagcpjeihaaGreatMPg6ToBook6N
import Derived.Test.YthhibagcpjeihaaGreatMPg5ToBook6S
import Derived.Test.YthhibagcpjeihaaGreatMRef10ToOpArgs
import Derived.Test.YthhibagcpjeihaaGreatMBaseToPut2
import Derived.Deep.MidRow
import Derived.Deep.DeepCutAuto
import Derived.Deep.CutBlock
open Go.Proofs.Tryz
open Go.Value renaming int->y,pointer->b,slice->C,bool->W,agg->l,tuple->h
open Go.IntKind renaming i64->K
open Option renaming none->F,some->E
open Go renaming World->U,Value->V
open Go.Proofs.Tryz renaming prog->T
open Go.Ending renaming returned->g
open Go.Obj renaming cells->v
open Nat renaming lt_of_lt_of_le->aG,zero_add->bg,le_trans->bF
open Go.World renaming size_alloc->bj
open Option.some renaming inj->br
open Go.Region renaming binds->fP
open List renaming foldl_cons->kE,setIfInBounds_toArray->sD
namespace Go.Proofs.YthhibagcpjeihaaGreat
open Go.RowKit
open M
set_option linter.unusedVariables false
set_option linter.unusedSimpArgs false
set_option maxRecDepth 100000
set_option maxHeartbeats 8000000
theorem Bm{m:U} {a:List B} {P Q:V} {r c e:Int} {more:Bool} (J:m.ownsRow 0 63 6 P a.length (a.flatMap aX)) (L:m.ownsRow 0 63 6 Q a.length (a.flatMap aX)) (hl:a.length<=120):Calls T 65 #[l #[P,y K r,y K c,y K e,W more],l #[Q,y K r,y K c,y K e,W more]] m λe w'=>e=g (W true)/\G No m w':=by
 obtain⟨w,D,rfl⟩:=aC J;obtain⟨x,H,rfl⟩:=aC L;have O:G No m ((m.alloc (v #[C w a.length D,y K r,y K c,y K e,W more] 146)).alloc (v #[C x a.length H,y K r,y K c,y K e,W more] 146)):=((G.refl No m).alloc _).alloc _;have I:=i O;have u:=i ((X.new m #[C w a.length D,y K r,y K c,y K e,W more] 146).alloc (v #[C x a.length H,y K r,y K c,y K e,W more] 146))
 have p:=i (X.new (m.alloc (v #[C w a.length D,y K r,y K c,y K e,W more] 146)) #[C x a.length H,y K r,y K c,y K e,W more] 146);have ad:=i J;have ae:=i L;have af:=i hl;clear J L hl O;go_enter func65,ntmps65;rw[bj] at p;go_upto_region 1 with fail;generalize (m.alloc (v #[C w a.length D,y K r,y K c,y K e,W more] 146)).alloc (v #[C x a.length H,y K r,y K c,y K e,W more] 146)=n at *
 generalize m.heap.size+1=A at *;generalize m.heap.size=z at *;have R:n.cell? ⟨z,0,F⟩=E (C w a.length D):=(k u).cell 0;have am:n.cell? ⟨z,1,F⟩=E (y K r):=(k u).cell 1;have ao:n.cell? ⟨z,2,F⟩=E (y K c):=(k u).cell 2;have ap:n.cell? ⟨z,3,F⟩=E (y K e):=(k u).cell 3;have aq:n.cell? ⟨z,4,F⟩=E (W more):=(k u).cell 4;have S:=(k u).lt;have Y:n.cell? ⟨A,0,F⟩=E (C x a.length H):=(k p).cell 0
 have ar:n.cell? ⟨A,1,F⟩=E (y K r):=(k p).cell 1;have au:n.cell? ⟨A,2,F⟩=E (y K c):=(k p).cell 2;have av:n.cell? ⟨A,3,F⟩=E (y K e):=(k p).cell 3;have aw:n.cell? ⟨A,4,F⟩=E (W more):=(k p).cell 4;have aa:=(k p).lt;have aE:(more !=more)=false:=by cases more<;>rfl
 go_upto_region 3 with fail;clear R am ao ap aq S Y ar au av aw aa;go_wp2_with fail;go_loopw [5] (λf ak=>∃d:Nat,f=y K (d:Int)/\d<=a.length/\Hid (G No n ak)) (λf _=>a.length - (intOf f).toNat)
 case atStart=>exact⟨0,rfl,by omega,G.refl _ _⟩
 case round=>
  obtain⟨d,rfl,aF,q⟩:=hrel;have hl:=k af;have R:wr.cell? ⟨z,0,F⟩=E (C w a.length D):=((k q).has (k u) (λo=>o)).cell 0;have S:=((k q).has (k u) (λo=>o)).lt;have Y:wr.cell? ⟨A,0,F⟩=E (C x a.length H):=((k q).has (k p) (λo=>o)).cell 0;have aa:=((k q).has (k p) (λo=>o)).lt;by_cases j:d<a.length
  ·have aj:(d:Int)<(a.length:Int):=by omega
   have aH:(0:Int)<=d:=by omega
   have aI:K.wrap ((d:Int)+1)=((d+1:Nat):Int):=by rw[aB _ (by omega) (by omega)];rfl
   obtain⟨ax,ah,M⟩:=vK (k ad) (by omega);obtain⟨ay,ai,N⟩:=vK (k ae) (by omega);subst ah;subst ai;have s:=M.mod ((k I).trans (k q)) (λo=>o);have t:=N.mod ((k I).trans (k q)) (λo=>o);have aK:=s.row d j;have aL:=s.P d j;have aM:=s.st d j;have aN:=s.pa d j;have aO:=s.cl d j;have aQ:=s.un d j;have aR:=t.row d j;have aS:=t.P d j;have aT:=t.st d j;have aU:=t.pa d j;have aV:=t.cl d j;have aW:=t.un d j
   have aA:=s.lt;have aD:=t.lt;clear M N s t;generalize a[d]=f at *;have ag:=i (((k q).alloc (v #[y K f.row,y K f.P,y K f.st,y K f.pa,y K f.cl,y K f.un] 63)).alloc (v #[y K f.row,y K f.P,y K f.st,y K f.pa,y K f.cl,y K f.un] 63));go_wp2;exact⟨⟨d+1,rfl,by omega,ag⟩,by simp[intOf];omega⟩
  ·have aj:¬(d:Int)<(a.length:Int):=by omega
   have ab:=i ((k I).trans (k q));go_wp2;go_ret;exact⟨rfl,k ab⟩
theorem tA{ops:Array Oper} {j k:Nat} {d:Oper} {a:Act} (f:ops[j]? =E d) (e:d.after.any (λc=>c.on==k&&fP .any c)=true):ic ops j a k=dI ops k a:=by
 unfold ic;rw[f];simp only;rw[if_pos e]
def cI(a:V) (R:fG):Array V:=#[a,y K R.r,y K R.c,y K R.ep,W R.more]
def gy(e:U) (R:fG) (d:U) (c:V):Prop:=d.ownsRow 0 63 6 c R.S.length (R.S.flatMap aX)/\∀a,c.ownBlock=E a->e.heap.size<=a
structure bC (w:U) (R:fG) (W W':U):Prop where
 has:∀b cs T',T'≠146->X W b cs T'->X W' b cs T'
 Bn:∀b cs,X W b cs 146->cs.size=5->∃cs',X W' b cs' 146/\cs'.size=5/\(cs'=cs\/∃u,cs'=cI u R/\gy w R W' u)
theorem bC.mod{w:U} {R:fG} {d e:U} (f:G No d e):bC w R d e:=⟨λ_ _ _ _ a=>f.has a (λc=>c),λ_ _ a hs=>⟨_,f.has a (λc=>c),hs,.inl rfl⟩⟩
theorem gy.j2{a:U} {R:fG} {c d:U} {i:V} (e:gy a R c i) (hs:bC a R c d):gy a R d i:=by
 refine⟨?_,e.2⟩;obtain⟨f,m|⟨k,cap,j,hv,hb,n,o⟩⟩:=e.1
 ·exact⟨f,.inl m⟩
 ·exact⟨f,.inr ⟨k,cap,j,hv,hb,hs.has _ _ _ (by decide) n,o⟩⟩
def nt(f:U) (R:fG) (i m r:Nat) (o p j k size:Int) (n:Nat) (a:V) (q:Nat->V) (e:U):Prop:=
 match n with
 |0|1=>a=b (E ⟨i,0,F⟩)
 |2=>a=b (E ⟨i,m,F⟩)
 |3=>a=b (E ⟨r,0,F⟩)
 |4=>a=y K o
 |5=>a=l #[y K p,y K j,y K k]
 |6=>a=y K size
 |7|8=>∃c,a=h #[l (cI c R),y K R.err]/\gy f R e c
 |9=>∃c,a=l (cI c R)/\gy f R e c
 |10|13=>a=y K R.err
 |11=>∃d cs,a=b (E ⟨d,0,F⟩)/\X e d cs 146/\cs.size=5/\f.heap.size<=d
 |12=>∃d,q 11=b (E ⟨d,0,F⟩)/\f.heap.size<=d/\∃cs,X e d cs 146/\cs.size=5/\∃c,cs=cI c R/\gy f R e c
 |_=>True
theorem nt.j2{o:U} {R:fG} {x t D:Nat} {w z r s size:Int} (u:Nat) (B:V) (A:Nat->V) (p q:U) (hs:bC o R p q) (a:nt o R x t D w z r s size u B A p):nt o R x t D w z r s size u B A q:=by
 unfold nt at a ⊢;split at a
 all_goals first
  |exact a
  |(obtain⟨n,d,e⟩:=a;exact⟨n,d,e.j2 hs⟩)
  |(obtain⟨c,cs,d,e,i,j⟩:=a;obtain⟨cs',k,m,f⟩:=hs.Bn c cs e i;exact⟨c,cs',d,k,m,j⟩)
  |(obtain⟨c,d,e,cs,i,j,n,G,H⟩:=a
    obtain⟨cs',k,m,f⟩:=hs.Bn c cs i j
    refine⟨c,d,e,cs',k,m,?_⟩
    obtain rfl|f:=f
    ·exact⟨n,G,H.j2 hs⟩
    ·exact f)
noncomputable def vS:TypeDesc:=(T.underlying 43).getD (.slice 0)
theorem Bo:T.underlying 43=E vS:=by kernel_rfl
noncomputable def Bp(a:Nat):Code:=zg (f38.body.getD .skip) a
theorem K8{m:U} {t O P:Nat} {x u L p size:Int} {R:fG} (ao:∀a,G No m a->a.cell? ⟨t,1,F⟩=E (b (E ⟨O,0,F⟩))) (aq:X m P #[y K u,y K L,y K p] 43) (ap:∀a,G No m a->Calls T 63 #[b (E ⟨O,0,F⟩),y K x,l #[y K u,y K L,y K p],y K size] a λak w'=>Told a w' ak R) (ai:Exit->Act->U->Prop) (aA aL a7 bl bm bn aB bL bM aD aE aF bN bO bP bQ bR bS bT bU bV bW bY aH aI aK aM aN aO aQ aR aS aT aU aV aW aX aY aZ a0 a1 a2 a3 a4 a5 a6 a8 a9 ba bb bc bd bf bh bi bk:V)
  (ar:∀(b2 b3 b4 b5 b6 b7 b8 b9 b1 ca cb:V) (j:Nat) (f:V) (a:U),Hid (G No m a/\X a j (cI f R) 146/\gy m R a f/\m.heap.size<=j)->ai .normal ⟨#[aA,b (E ⟨t,0,F⟩),y K x,aL,y K size,a7,bl,bm,b (E ⟨P,0,F⟩),bn,aB,b (E ⟨j,0,F⟩),y K R.err,aD,aE,aF,b1,b2,b3,b4,b5,b6,b7,b8,b9,ca,cb,aH,aI,aK,aM,aN,aO,aQ,aR,aS,aT,aU,aV,aW,aX,aY,aZ,a0,a1,a2,a3,a4,a5,a6,a8,a9,ba,bb,bc,bd,bf,bh,bi,bk],[]⟩ a):
  Code.wp T (Bp 1) ai ⟨#[aA,b (E ⟨t,0,F⟩),y K x,aL,y K size,a7,bl,bm,b (E ⟨P,0,F⟩),bn,aB,bL,bM,aD,aE,aF,bN,bO,bP,bQ,bR,bS,bT,bU,bV,bW,bY,aH,aI,aK,aM,aN,aO,aQ,aR,aS,aT,aU,aV,aW,aX,aY,aZ,a0,a1,a2,a3,a4,a5,a6,a8,a9,ba,bb,bc,bd,bf,bh,bi,bk],[]⟩ m:=by
 conv=>arg 4;dsimp only
 conv=>arg 2;whnf
 have ah:=i ar;have H:=i ao;have J:=i aq;have I:=i ap;clear ar ao aq ap;refine uV (n:=60) (λa=>G No m a) (bC m R) (nt m R t 1 O x u L p size) (by kernel_rfl) rfl (by kernel_rfl) (λn bo bJ a bq hs w=>w.j2 n bo bJ a bq hs) ?_ ?_ (G.refl No m).drew
 ·intro n bG d a Y M c hd;have hi:n<14:=(Array.getElem?_eq_some_iff.1 Y).1;have z:d.eval (.tmp 1)=b (E ⟨t,0,F⟩):=M.rest 1 (by kernel_rfl);have A:d.eval (.tmp 2)=y K x:=M.rest 2 (by kernel_rfl);have B:d.eval (.tmp 4)=y K size:=M.rest 4 (by kernel_rfl);have D:d.eval (.tmp 8)=b (E ⟨P,0,F⟩):=M.rest 8 (by kernel_rfl);clear ah M
  have bB:n=0\/n=1\/n=2\/n=3\/n=4\/n=5\/n=6\/n=7\/n=8\/n=9\/n=10\/n=11\/n=12\/n=13:=by omega
  obtain rfl|rfl|rfl|rfl|rfl|rfl|rfl|rfl|rfl|rfl|rfl|rfl|rfl|rfl:=bB
  all_goals
   replace Y:=br (show E _=E bG from Y);subst Y
  ·refine ib _ rfl ?_;exact⟨_,rfl,c,bC.mod (G.refl _ _),z⟩
  ·have cc:d.tmps[17]?.getD undef=b (E ⟨t,0,F⟩):=by simpa using (show d.tmps.getD 17 undef=_ from hd ⟨0,.data⟩ (by simp) rfl)
   have e:=i c;clear hd c z A B D H J I;go_simp
   first|exact k e|exact⟨_,rfl,k e,bC.mod (G.refl _ _),rfl⟩|exact⟨k e,bC.mod (G.refl _ _),rfl⟩|exact⟨k e,bC.mod (G.refl _ _)⟩
  ·have cd:d.tmps[18]?.getD undef=b (E ⟨t,0,F⟩):=by simpa using (show d.tmps.getD 18 undef=_ from hd ⟨1,.data⟩ (by simp) rfl)
   have e:=i c;clear hd c z A B D H J I;go_simp
   first|exact k e|exact⟨_,rfl,k e,bC.mod (G.refl _ _),rfl⟩|exact⟨k e,bC.mod (G.refl _ _),rfl⟩|exact⟨k e,bC.mod (G.refl _ _)⟩
  ·have ce:d.tmps[19]?.getD undef=b (E ⟨t,1,F⟩):=by simpa using (show d.tmps.getD 19 undef=_ from hd ⟨2,.data⟩ (by simp) rfl)
   have cf:=(k H) a c;have e:=i c;clear hd c z A B D H J I;go_simp
   first|exact k e|exact⟨_,rfl,k e,bC.mod (G.refl _ _),rfl⟩|exact⟨k e,bC.mod (G.refl _ _),rfl⟩|exact⟨k e,bC.mod (G.refl _ _)⟩
  ·refine ib _ rfl ?_;exact⟨_,rfl,c,bC.mod (G.refl _ _),A⟩
  ·refine wp_load_mid _ _ rfl P 0 D [y K u,y K L,y K p] vS ((c.has (k J) (λbZ=>bZ)).range 0 _ (λch bo w=>by rw[bg];simpa using w)) Bo (by kernel_rfl) (by kernel_rfl) ?_;exact⟨_,rfl,c,bC.mod (G.refl _ _),rfl⟩
  ·refine ib _ rfl ?_;exact⟨_,rfl,c,bC.mod (G.refl _ _),B⟩
  ·have o:d.eval (.tmp 20)=b (E ⟨O,0,F⟩):=hd ⟨3,.data⟩ (by simp) rfl;have q:d.eval (.tmp 21)=y K x:=hd ⟨4,.data⟩ (by simp) rfl;have ae:d.eval (.tmp 22)=l #[y K u,y K L,y K p]:=hd ⟨5,.data⟩ (by simp) rfl;have af:d.eval (.tmp 23)=y K size:=hd ⟨6,.data⟩ (by simp) rfl;refine zi 63 _ _ rfl #[b (E ⟨O,0,F⟩),y K x,l #[y K u,y K L,y K p],y K size] (by simp[o,q,ae,af]) (λa=>by kernel_rfl) ((k I) a c) ?_
   rintro ak w' ⟨⟨f,rfl,hu,bE⟩,ax⟩;exact⟨_,rfl,_,rfl,c.trans ax,bC.mod ax,f,rfl,hu,λN av=>bF c.size (bE N av)⟩
  ·have o:∃f,d.eval (.tmp 24)=h #[l (cI f R),y K R.err]/\gy m R a f:=hd ⟨7,.data⟩ (by simp) rfl;refine ib _ rfl ?_;exact⟨_,rfl,c,bC.mod (G.refl _ _),o⟩
  ·obtain⟨f,o,q⟩:∃f,d.tmps.getD 16 undef=h #[l (cI f R),y K R.err]/\gy m R a f:=hd ⟨8,.data⟩ (by simp) rfl;have o:d.tmps[16]?.getD undef=h #[l (cI f R),y K R.err]:=by simpa using o
   have e:=i c;have bp:=i q;clear hd c z A B D H J I q;go_simp;exact⟨_,rfl,k e,bC.mod (G.refl _ _),f,rfl,k bp⟩
  ·obtain⟨f,o,q⟩:∃f,d.tmps.getD 16 undef=h #[l (cI f R),y K R.err]/\gy m R a f:=hd ⟨8,.data⟩ (by simp) rfl;have o:d.tmps[16]?.getD undef=h #[l (cI f R),y K R.err]:=by simpa using o
   have e:=i c;clear hd c z A B D H J I q;go_simp
   first|exact k e|exact⟨_,rfl,k e,bC.mod (G.refl _ _),rfl⟩|exact⟨k e,bC.mod (G.refl _ _),rfl⟩|exact⟨k e,bC.mod (G.refl _ _)⟩
  ·have ad:G No a (a.alloc (v iG 146)):=(G.refl No a).alloc _;have e:=i (c.trans ad);have aj:=i (bC.mod (w:=m) (R:=R) ad);have ag:=i (show nt m R t 1 O x u L p size 11 (b (E ⟨a.heap.size,0,F⟩)) (λ_=>undef) (a.alloc (v iG 146)) from⟨a.heap.size,iG,rfl,X.new a _ _,rfl,c.size⟩);clear hd c z A B D H J I ad;unfold iG at e aj ag;go_simp;exact⟨_,rfl,k e,k aj,k ag⟩
  ·obtain⟨j,cs,o,q,ae,af⟩:∃j cs,d.eval (.tmp 11)=b (E ⟨j,0,F⟩)/\X a j cs 146/\cs.size=5/\m.heap.size<=j:=hd ⟨11,.data⟩ (by simp) rfl;obtain⟨f,bH,aa⟩:∃f,d.eval (.tmp 25)=l (cI f R)/\gy m R a f:=hd ⟨9,.data⟩ (by simp) rfl;obtain⟨r,s,rfl⟩:=aC aa.1;refine wp_store_mid _ _ _ rfl j 0 (cI (C r R.S.length s) R) o bH (q.there 0 5 (by omega)) (by kernel_rfl) (by simp[cI,Value.oneCell']) ?_
   have am:X (a.setCells j 0 (cI (C r R.S.length s) R).toList) j (cI (C r R.S.length s) R) 146:=by
    have:=X.setCells (cI (C r R.S.length s) R).toList 0 a _ q
    rwa [tU _ _ (by rw[ae];rfl)] at this
   have ab:G (λN=>N=j) a (a.setCells j 0 (cI (C r R.S.length s) R).toList):=G.setCells (S:=λN=>N=j) (.inl rfl) _ 0 a (G.refl _ _);have hS:bC m R a (a.setCells j 0 (cI (C r R.S.length s) R).toList):=by
    have au:∀b' cs S,S≠146->X a b' cs S->X (a.setCells j 0 (cI (C r R.S.length s) R).toList) b' cs S:=λb' cs S bA w=>ab.has w (w.ne q bA);have bz:gy m R (a.setCells j 0 (cI (C r R.S.length s) R).toList) (C r R.S.length s):=by
     refine⟨?_,aa.2⟩;obtain⟨ay,Q|⟨bt,cap,bs,hv,hb,bD,u⟩⟩:=aa.1
     ·exact⟨ay,.inl Q⟩
     ·exact⟨ay,.inr ⟨bt,cap,bs,hv,hb,au _ _ _ (by decide) bD,u⟩⟩
    refine⟨au,λb' cs' w hs=>?_⟩;by_cases p:b'=j
    ·subst p;exact⟨_,am,rfl,.inr ⟨_,rfl,bz⟩⟩
    ·exact⟨cs',ab.has w p,hs,.inl rfl⟩
   refine⟨undef,rfl,c.trans' ab (λN av hl=>by omega),hS,j,?_,af,_,am,rfl,_,rfl,aa.j2 hS⟩;exact(tA (k:=11) rfl (by kernel_rfl)).trans o
  ·have o:d.eval (.tmp 26)=y K R.err:=hd ⟨10,.data⟩ (by simp) rfl;refine uT _ rfl ?_;exact⟨_,rfl,c,bC.mod (G.refl _ _),o⟩
 ·intro d a M c hF;obtain⟨j,Q,bv,cs,bw,cg,f,rfl,bx⟩:=hF 12 (by decide);have Q:d.tmps.getD 11 undef=b (E ⟨j,0,F⟩):=(tA (k:=11) rfl (by kernel_rfl)).symm.trans Q;have bu:d.tmps.getD 12 undef=y K R.err:=hF 13 (by decide);have aw:=M.lit;rw[aw];clear aw;simp only[List.filterMap_cons,List.filterMap_nil,kE,List.foldl_nil,sD,List.set_cons_zero,List.set_cons_succ,Q,bu]
  exact(k ah) _ _ _ _ _ _ _ _ _ _ _ j f a ⟨c,bw,bx,bv⟩
theorem K9{m:U} {t O P:Nat} {x u L p size:Int} {R:fG} (ao:∀a,G No m a->a.cell? ⟨t,2,F⟩=E (b (E ⟨O,0,F⟩))) (aq:X m P #[y K u,y K L,y K p] 43) (ap:∀a,G No m a->Calls T 64 #[b (E ⟨O,0,F⟩),y K x,l #[y K u,y K L,y K p],y K size] a λak w'=>Told a w' ak R) (ai:Exit->Act->U->Prop) (aA aU a7 bl bm bn aB aD aE bL bM aF aH aI aK aL aM aN aO aQ aR aS aT bN bO bP bQ bR bS bT bU bV bW bY aV aW aX aY aZ a0 a1 a2 a3 a4 a5 a6 a8 a9 ba bb bc bd bf bh bi bk:V)
  (ar:∀(b2 b3 b4 b5 b6 b7 b8 b9 b1 ca cb:V) (j:Nat) (f:V) (a:U),Hid (G No m a/\X a j (cI f R) 146/\gy m R a f/\m.heap.size<=j)->ai .normal ⟨#[aA,b (E ⟨t,0,F⟩),y K x,aU,y K size,a7,bl,bm,b (E ⟨P,0,F⟩),bn,aB,aD,aE,b (E ⟨j,0,F⟩),y K R.err,aF,aH,aI,aK,aL,aM,aN,aO,aQ,aR,aS,aT,b1,b2,b3,b4,b5,b6,b7,b8,b9,ca,cb,aV,aW,aX,aY,aZ,a0,a1,a2,a3,a4,a5,a6,a8,a9,ba,bb,bc,bd,bf,bh,bi,bk],[]⟩ a):
  Code.wp T (Bp 2) ai ⟨#[aA,b (E ⟨t,0,F⟩),y K x,aU,y K size,a7,bl,bm,b (E ⟨P,0,F⟩),bn,aB,aD,aE,bL,bM,aF,aH,aI,aK,aL,aM,aN,aO,aQ,aR,aS,aT,bN,bO,bP,bQ,bR,bS,bT,bU,bV,bW,bY,aV,aW,aX,aY,aZ,a0,a1,a2,a3,a4,a5,a6,a8,a9,ba,bb,bc,bd,bf,bh,bi,bk],[]⟩ m:=by
 conv=>arg 4;dsimp only
 conv=>arg 2;whnf
 have ah:=i ar;have H:=i ao;have J:=i aq;have I:=i ap;clear ar ao aq ap;refine uV (n:=60) (λa=>G No m a) (bC m R) (nt m R t 2 O x u L p size) (by kernel_rfl) rfl (by kernel_rfl) (λn bo bJ a bq hs w=>w.j2 n bo bJ a bq hs) ?_ ?_ (G.refl No m).drew
 ·intro n bG d a Y M c hd;have hi:n<14:=(Array.getElem?_eq_some_iff.1 Y).1;have z:d.eval (.tmp 1)=b (E ⟨t,0,F⟩):=M.rest 1 (by kernel_rfl);have A:d.eval (.tmp 2)=y K x:=M.rest 2 (by kernel_rfl);have B:d.eval (.tmp 4)=y K size:=M.rest 4 (by kernel_rfl);have D:d.eval (.tmp 8)=b (E ⟨P,0,F⟩):=M.rest 8 (by kernel_rfl);clear ah M
  have bB:n=0\/n=1\/n=2\/n=3\/n=4\/n=5\/n=6\/n=7\/n=8\/n=9\/n=10\/n=11\/n=12\/n=13:=by omega
  obtain rfl|rfl|rfl|rfl|rfl|rfl|rfl|rfl|rfl|rfl|rfl|rfl|rfl|rfl:=bB
  all_goals
   replace Y:=br (show E _=E bG from Y);subst Y
  ·refine ib _ rfl ?_;exact⟨_,rfl,c,bC.mod (G.refl _ _),z⟩
  ·have cc:d.tmps[28]?.getD undef=b (E ⟨t,0,F⟩):=by simpa using (show d.tmps.getD 28 undef=_ from hd ⟨0,.data⟩ (by simp) rfl)
   have e:=i c;clear hd c z A B D H J I;go_simp
   first|exact k e|exact⟨_,rfl,k e,bC.mod (G.refl _ _),rfl⟩|exact⟨k e,bC.mod (G.refl _ _),rfl⟩|exact⟨k e,bC.mod (G.refl _ _)⟩
  ·have cd:d.tmps[29]?.getD undef=b (E ⟨t,0,F⟩):=by simpa using (show d.tmps.getD 29 undef=_ from hd ⟨1,.data⟩ (by simp) rfl)
   have e:=i c;clear hd c z A B D H J I;go_simp
   first|exact k e|exact⟨_,rfl,k e,bC.mod (G.refl _ _),rfl⟩|exact⟨k e,bC.mod (G.refl _ _),rfl⟩|exact⟨k e,bC.mod (G.refl _ _)⟩
  ·have ce:d.tmps[30]?.getD undef=b (E ⟨t,2,F⟩):=by simpa using (show d.tmps.getD 30 undef=_ from hd ⟨2,.data⟩ (by simp) rfl)
   have cf:=(k H) a c;have e:=i c;clear hd c z A B D H J I;go_simp
   first|exact k e|exact⟨_,rfl,k e,bC.mod (G.refl _ _),rfl⟩|exact⟨k e,bC.mod (G.refl _ _),rfl⟩|exact⟨k e,bC.mod (G.refl _ _)⟩
  ·refine ib _ rfl ?_;exact⟨_,rfl,c,bC.mod (G.refl _ _),A⟩
  ·refine wp_load_mid _ _ rfl P 0 D [y K u,y K L,y K p] vS ((c.has (k J) (λbZ=>bZ)).range 0 _ (λch bo w=>by rw[bg];simpa using w)) Bo (by kernel_rfl) (by kernel_rfl) ?_;exact⟨_,rfl,c,bC.mod (G.refl _ _),rfl⟩
  ·refine ib _ rfl ?_;exact⟨_,rfl,c,bC.mod (G.refl _ _),B⟩
  ·have o:d.eval (.tmp 31)=b (E ⟨O,0,F⟩):=hd ⟨3,.data⟩ (by simp) rfl;have q:d.eval (.tmp 32)=y K x:=hd ⟨4,.data⟩ (by simp) rfl;have ae:d.eval (.tmp 33)=l #[y K u,y K L,y K p]:=hd ⟨5,.data⟩ (by simp) rfl;have af:d.eval (.tmp 34)=y K size:=hd ⟨6,.data⟩ (by simp) rfl;refine zi 64 _ _ rfl #[b (E ⟨O,0,F⟩),y K x,l #[y K u,y K L,y K p],y K size] (by simp[o,q,ae,af]) (λa=>by kernel_rfl) ((k I) a c) ?_
   rintro ak w' ⟨⟨f,rfl,hu,bE⟩,ax⟩;exact⟨_,rfl,_,rfl,c.trans ax,bC.mod ax,f,rfl,hu,λN av=>bF c.size (bE N av)⟩
  ·have o:∃f,d.eval (.tmp 35)=h #[l (cI f R),y K R.err]/\gy m R a f:=hd ⟨7,.data⟩ (by simp) rfl;refine ib _ rfl ?_;exact⟨_,rfl,c,bC.mod (G.refl _ _),o⟩
  ·obtain⟨f,o,q⟩:∃f,d.tmps.getD 27 undef=h #[l (cI f R),y K R.err]/\gy m R a f:=hd ⟨8,.data⟩ (by simp) rfl;have o:d.tmps[27]?.getD undef=h #[l (cI f R),y K R.err]:=by simpa using o
   have e:=i c;have bp:=i q;clear hd c z A B D H J I q;go_simp;exact⟨_,rfl,k e,bC.mod (G.refl _ _),f,rfl,k bp⟩
  ·obtain⟨f,o,q⟩:∃f,d.tmps.getD 27 undef=h #[l (cI f R),y K R.err]/\gy m R a f:=hd ⟨8,.data⟩ (by simp) rfl;have o:d.tmps[27]?.getD undef=h #[l (cI f R),y K R.err]:=by simpa using o
   have e:=i c;clear hd c z A B D H J I q;go_simp
   first|exact k e|exact⟨_,rfl,k e,bC.mod (G.refl _ _),rfl⟩|exact⟨k e,bC.mod (G.refl _ _),rfl⟩|exact⟨k e,bC.mod (G.refl _ _)⟩
  ·have ad:G No a (a.alloc (v iG 146)):=(G.refl No a).alloc _;have e:=i (c.trans ad);have aj:=i (bC.mod (w:=m) (R:=R) ad);have ag:=i (show nt m R t 2 O x u L p size 11 (b (E ⟨a.heap.size,0,F⟩)) (λ_=>undef) (a.alloc (v iG 146)) from⟨a.heap.size,iG,rfl,X.new a _ _,rfl,c.size⟩);clear hd c z A B D H J I ad;unfold iG at e aj ag;go_simp;exact⟨_,rfl,k e,k aj,k ag⟩
  ·obtain⟨j,cs,o,q,ae,af⟩:∃j cs,d.eval (.tmp 13)=b (E ⟨j,0,F⟩)/\X a j cs 146/\cs.size=5/\m.heap.size<=j:=hd ⟨11,.data⟩ (by simp) rfl;obtain⟨f,bH,aa⟩:∃f,d.eval (.tmp 36)=l (cI f R)/\gy m R a f:=hd ⟨9,.data⟩ (by simp) rfl;obtain⟨r,s,rfl⟩:=aC aa.1;refine wp_store_mid _ _ _ rfl j 0 (cI (C r R.S.length s) R) o bH (q.there 0 5 (by omega)) (by kernel_rfl) (by simp[cI,Value.oneCell']) ?_
   have am:X (a.setCells j 0 (cI (C r R.S.length s) R).toList) j (cI (C r R.S.length s) R) 146:=by
    have:=X.setCells (cI (C r R.S.length s) R).toList 0 a _ q
    rwa [tU _ _ (by rw[ae];rfl)] at this
   have ab:G (λN=>N=j) a (a.setCells j 0 (cI (C r R.S.length s) R).toList):=G.setCells (S:=λN=>N=j) (.inl rfl) _ 0 a (G.refl _ _);have hS:bC m R a (a.setCells j 0 (cI (C r R.S.length s) R).toList):=by
    have au:∀b' cs S,S≠146->X a b' cs S->X (a.setCells j 0 (cI (C r R.S.length s) R).toList) b' cs S:=λb' cs S bA w=>ab.has w (w.ne q bA);have bz:gy m R (a.setCells j 0 (cI (C r R.S.length s) R).toList) (C r R.S.length s):=by
     refine⟨?_,aa.2⟩;obtain⟨ay,Q|⟨bt,cap,bs,hv,hb,bD,u⟩⟩:=aa.1
     ·exact⟨ay,.inl Q⟩
     ·exact⟨ay,.inr ⟨bt,cap,bs,hv,hb,au _ _ _ (by decide) bD,u⟩⟩
    refine⟨au,λb' cs' w hs=>?_⟩;by_cases p:b'=j
    ·subst p;exact⟨_,am,rfl,.inr ⟨_,rfl,bz⟩⟩
    ·exact⟨cs',ab.has w p,hs,.inl rfl⟩
   refine⟨undef,rfl,c.trans' ab (λN av hl=>by omega),hS,j,?_,af,_,am,rfl,_,rfl,aa.j2 hS⟩;exact(tA (k:=11) rfl (by kernel_rfl)).trans o
  ·have o:d.eval (.tmp 37)=y K R.err:=hd ⟨10,.data⟩ (by simp) rfl;refine uT _ rfl ?_;exact⟨_,rfl,c,bC.mod (G.refl _ _),o⟩
 ·intro d a M c hF;obtain⟨j,Q,bv,cs,bw,cg,f,rfl,bx⟩:=hF 12 (by decide);have Q:d.tmps.getD 13 undef=b (E ⟨j,0,F⟩):=(tA (k:=11) rfl (by kernel_rfl)).symm.trans Q;have bu:d.tmps.getD 14 undef=y K R.err:=hF 13 (by decide);have aw:=M.lit;rw[aw];clear aw;simp only[List.filterMap_cons,List.filterMap_nil,kE,List.foldl_nil,sD,List.set_cons_zero,List.set_cons_succ,Q,bu]
  exact(k ah) _ _ _ _ _ _ _ _ _ _ _ j f a ⟨c,bw,bx,bv⟩
noncomputable def vT(a:Nat):Code:=((j9 (f11.body.getD .skip))[a]?).getD .skip
theorem La{p:U} {q s w e n f bL o bM:Nat} {a:Option Addr} (H:∀c,G No p c->c.cell? ⟨q,1,F⟩=E (C (E ⟨s,0,F⟩) o bM)/\q<c.heap.size/\c.cell? ⟨s,e,F⟩=E (C (E ⟨w,0,F⟩) 4 4)/\s<c.heap.size/\c.cell? ⟨w,n,F⟩=E (C a f bL)/\w<c.heap.size/\∀j,j<f->∃d,a=E ⟨d,0,F⟩/\d<c.heap.size/\c.rangeAt d (j* 6) (aK e).toList) (hi:e<o) (B:o<=1099511627776) (bP:n<4) (t:f<=1000000) (A:Exit->Act->U->Prop) (I bQ cl bs bt bu J aa ao aD aS a3 a8 a9 ba bb bc bd bf bh bi bk bl bm bn bo bp bq bR bS bT bU bV bW bY bZ b1 b2 b3 b4 b5 b6 b7 b8 b9 ca cb cc cd ce cf cg ch ci cj ck cm cn co cp cq cr ct cu cv cw cx cy cz cA cB cC cD cE cF cG cH cI cL cM cN cO cP cQ cR cS cT bv bw bx bz bA bB bC bD bE L M N O P Q R S X Y ab ad ae af ag ah ai aj ak am ap aq ar au av aw ax ay aA aC aE aF aH aI aL aM aN aO aQ aR aT aU aV aW aX aY aZ a0 a1 a2 a4 a5 a6 a7:V)
  (D:∀(cW de dr cX cY cZ c0 c1 c2 c3 c4 c5 c6 c7 c8 c9 c' da db dc dd df dg dh di dk dl dm dn dp dq dt du dv dw dy dz dA dB dC dF dG dH dI dJ dK dL dM dN dO dQ dS dT dU dV dW dX dY d0 d1 d2 d3:V) (c:U),Hid (G No p c)->A (.exit 4) ⟨#[b (E ⟨q,1,F⟩),I,cW,y K (e:Int),y K (n:Int),de,dr,bs,bt,bu,J,aa,ao,aD,aS,a3,a8,a9,ba,bb,bc,bd,bf,bh,bi,bk,bl,bm,bn,bo,bp,bq,cX,cY,cZ,c0,c1,c2,c3,c4,c5,c6,c7,c8,c9,c',da,db,dc,dd,df,dg,dh,di,dk,dl,dm,dn,dp,dq,dt,du,dv,dw,dy,dz,dA,dB,dC,dF,dG,dH,dI,dJ,dK,dL,dM,dN,dO,dQ,dS,dT,dU,dV,dW,dX,dY,d0,d1,d2,d3,bv,bw,bx,bz,bA,bB,bC,bD,bE,L,M,N,O,P,Q,R,S,X,Y,ab,ad,ae,af,ag,ah,ai,aj,ak,am,ap,aq,ar,au,av,aw,ax,ay,aA,aC,aE,aF,aH,aI,aL,aM,aN,aO,aQ,aR,aT,aU,aV,aW,aX,aY,aZ,a0,a1,a2,a4,a5,a6,a7],[]⟩ c):
  Code.wp T (vT 2) A ⟨#[b (E ⟨q,1,F⟩),I,bQ,y K (e:Int),y K (n:Int),y K 0,cl,bs,bt,bu,J,aa,ao,aD,aS,a3,a8,a9,ba,bb,bc,bd,bf,bh,bi,bk,bl,bm,bn,bo,bp,bq,bR,bS,bT,bU,bV,bW,bY,bZ,b1,b2,b3,b4,b5,b6,b7,b8,b9,ca,cb,cc,cd,ce,cf,cg,ch,ci,cj,ck,cm,cn,co,cp,cq,cr,ct,cu,cv,cw,cx,cy,cz,cA,cB,cC,cD,cE,cF,cG,cH,cI,cL,cM,cN,cO,cP,cQ,cR,cS,cT,bv,bw,bx,bz,bA,bB,bC,bD,bE,L,M,N,O,P,Q,R,S,X,Y,ab,ad,ae,af,ag,ah,ai,aj,ak,am,ap,aq,ar,au,av,aw,ax,ay,aA,aC,aE,aF,aH,aI,aL,aM,aN,aO,aQ,aR,aT,aU,aV,aW,aX,aY,aZ,a0,a1,a2,a4,a5,a6,a7],[]⟩ p:=by
 conv=>arg 4;dsimp only
 conv=>arg 2;whnf
 have bG:=i D;clear D;have bJ:=i H;have d4:=i B;have ec:(0:Int)<=e:=by omega
 have ed:(e:Int)<(o:Int):=by omega
 have eh:(0:Int)<=n:=by omega
 have ei:(n:Int)<4:=by omega
 have bH:=i t;clear H B hi bP t;go_loopw [5] (λx cV=>∃j:Nat,x=y K (j:Int)/\j<=f/\Hid (G No p cV)) (λx _=>f - (intOf x).toNat)
 case atStart=>exact⟨0,rfl,by omega,G.refl _ _⟩
 case round=>
  obtain⟨j,rfl,d9,r⟩:=hrel;obtain⟨d5,ee,d6,ef,d7,eg,u⟩:=(k bJ) wr (k r);have t:=k bH;by_cases bO:j<f
  ·have bN:(j:Int)<(f:Int):=by omega
   have ea:(0:Int)<=j:=by omega
   have eb:K.wrap ((j:Int)+1)=((j+1:Nat):Int):=by rw[aB _ (by omega) (by omega)];rfl
   obtain⟨d,rfl,d8,m⟩:=u j bO;have ej:wr.cell? ⟨d,j* 6,F⟩=E (y K 0):=m 0 _ rfl;have ek:wr.cell? ⟨d,j* 6+1,F⟩=E (y K 0):=m 1 _ rfl;have el:wr.cell? ⟨d,j* 6+2,F⟩=E (y K 9):=m 2 _ rfl;have em:wr.cell? ⟨d,j* 6+3,F⟩=E (y K (e:Int)):=m 3 _ rfl;have en:wr.cell? ⟨d,j* 6+4,F⟩=E (y K 0):=m 4 _ rfl;have eo:wr.cell? ⟨d,j* 6+5,F⟩=E (y K 0):=m 5 _ rfl;clear u m;have z:=i ((k r).alloc (v (aK e) 63))
   unfold aK at z;go_wp2;exact⟨⟨j+1,rfl,by omega,z⟩,by simp[intOf];omega⟩
  ·have bN:¬(j:Int)<(f:Int):=by omega
   clear u;go_wp2;exact(k bG) _ _ _ _ _ _ _ _ _ _ _ _ _ _ _ _ _ _ _ _ _ _ _ _ _ _ _ _ _ _ _ _ _ _ _ _ _ _ _ _ _ _ _ _ _ _ _ _ _ _ _ _ _ _ _ _ _ _ _ _ _ _ _ r
theorem Lb{m:U} {j f:Nat} {cP:Nat->Prop} {cO:V} {ls:List Nat} {av bv lv:V} (q:fH m cP cO ls) (hy:m.cell? ⟨j,1,F⟩=E cO) (R:j<m.heap.size) (hi:f<ls.length) (H:ls.length<=1099511627776) (A:Exit->Act->U->Prop) (Y c' dK dX bs bt bu aa ao aE aT a4 bh bn bo bp bq da db dc dd de df dg dh di dk dl dm dn dp dq dr dt du dv dw dy dz dA dB dC dF dG dH dI dJ dL dM dN dO dQ dS dT dU dV dW dY d0 d1 d2 d3 d4 d5 d6 d7 d8 d9 ea eb ec ed ee ef eg eh ei ej ek el em en eo ep eq er et eu bw bx bz bA bB bC bD bE bG ab ad ae af ag ah ai aj ak am ap aq ar au aw ax ay aA aC aD aF aH aI aL aM aN aO aQ aR aS aU aV aW aX aY aZ a0 a1 a2 a3 a5 a6 a7 a8 a9 ba bb bc bd bf bi bk bl bm:V)
  (M:∀(bH eK b4 cf ew ey ez eB eC eD eE eF eG eH eI eJ bJ bL bM bN bO bP bQ bR bS bT bU bV bW bY bZ b1 b2 b3 b5 b6 b7 b8 b9 ca cb cc cd ce cg ch ci cj ck cl cm cn co cp cq cr ct cu cv cw cx cy cz cA cB cC cD cE cF cG cH cI cL cM cN:V) (a:U),Hid (G No m a)->A (.exit 2) ⟨#[b (E ⟨j,1,F⟩),Y,bH,y K (f:Int),eK,b4,cf,bs,bt,bu,aa,ao,aE,aT,a4,bh,bn,bo,bp,bq,ew,ey,ez,eB,eC,eD,eE,eF,eG,eH,eI,eJ,bJ,bL,bM,bN,bO,bP,bQ,bR,bS,bT,bU,bV,bW,bY,bZ,b1,b2,b3,b5,b6,b7,b8,b9,ca,cb,cc,cd,ce,cg,ch,ci,cj,ck,cl,cm,cn,co,cp,cq,cr,ct,cu,cv,cw,cx,cy,cz,cA,cB,cC,cD,cE,cF,cG,cH,cI,cL,cM,cN,bw,bx,bz,bA,bB,bC,bD,bE,bG,ab,ad,ae,af,ag,ah,ai,aj,ak,am,ap,aq,ar,au,aw,ax,ay,aA,aC,aD,aF,aH,aI,aL,aM,aN,aO,aQ,aR,aS,aU,aV,aW,aX,aY,aZ,a0,a1,a2,a3,a5,a6,a7,a8,a9,ba,bb,bc,bd,bf,bi,bk,bl,bm],[]⟩ a):
  Code.wp T (vT 1) A ⟨#[b (E ⟨j,1,F⟩),Y,c',y K (f:Int),y K 0,dK,dX,bs,bt,bu,aa,ao,aE,aT,a4,bh,bn,bo,bp,bq,da,db,dc,dd,de,df,dg,dh,di,dk,dl,dm,dn,dp,dq,dr,dt,du,dv,dw,dy,dz,dA,dB,dC,dF,dG,dH,dI,dJ,dL,dM,dN,dO,dQ,dS,dT,dU,dV,dW,dY,d0,d1,d2,d3,d4,d5,d6,d7,d8,d9,ea,eb,ec,ed,ee,ef,eg,eh,ei,ej,ek,el,em,en,eo,ep,eq,er,et,eu,bw,bx,bz,bA,bB,bC,bD,bE,bG,ab,ad,ae,af,ag,ah,ai,aj,ak,am,ap,aq,ar,au,aw,ax,ay,aA,aC,aD,aF,aH,aI,aL,aM,aN,aO,aQ,aR,aS,aU,aV,aW,aX,aY,aZ,a0,a1,a2,a3,a5,a6,a7,a8,a9,ba,bb,bc,bd,bf,bi,bk,bl,bm],[]⟩ m:=by
 conv=>arg 4;dsimp only
 conv=>arg 2;whnf
 have cQ:=i M;clear M;have cW:=i q;have x:=i hy;have z:=i R;have cR:=i hi;have cS:=i H;obtain⟨o,D,r,rfl,I,P,J⟩:=q.at hi;have cV:=i P;have u:=i J;have t:=i I;have eQ:(0:Int)<=f:=by omega
 have eR:(f:Int)<(ls.length:Int):=by omega
 clear q hy R J I H P;go_loopw [4] (λs ev=>∃c:Nat,s=y K (c:Int)/\c<=4/\Hid (G No m ev)) (λs _=>4 - (intOf s).toNat)
 case atStart=>exact⟨0,rfl,by omega,G.refl _ _⟩
 case round=>
  obtain⟨c,rfl,eN,e⟩:=hrel;have c0:wr.cell? ⟨j,1,F⟩=E (C (E ⟨o,0,F⟩) ls.length D):=fF (k e) (k x);have c8:=aG (k z) (k e).size;have c1:=fF (k e) (k u);have c9:=aG (k t) (k e).size;by_cases O:c<4
  ·have c7:(c:Int)<4:=by omega
   have eO:(0:Int)<=c:=by omega
   have eP:K.wrap ((c:Int)+1)=((c+1:Nat):Int):=by rw[aB _ (by omega) (by omega)];rfl
   obtain⟨B,X,cZ,N,Q,L,S⟩:=(k cW).head (k cV) O
   have w:=i (λ(a:U) (c5:G No wr a)=>(show a.cell? ⟨j,1,F⟩=E (C (E ⟨o,0,F⟩) ls.length D)/\j<a.heap.size/\a.cell? ⟨o,f,F⟩=E (C (E ⟨r,0,F⟩) 4 4)/\o<a.heap.size/\a.cell? ⟨r,c,F⟩=E (C B X cZ)/\r<a.heap.size/\∀p,p<X->∃n,B=E ⟨n,0,F⟩/\n<a.heap.size/\a.rangeAt n (p* 6) (aK f).toList from by
    have d:=(k e).trans c5
    refine⟨fF d (k x),aG (k z) d.size,fF d (k u),aG (k t) d.size,fF d L,aG Q d.size,λp c6=>?_⟩
    obtain⟨n,c2,c3,c4⟩:=S p c6
    exact⟨n,c2,aG c3 d.size,qG d c4⟩))
   have cT:=i N;clear L S Q N;go_upto_block 4 with fail;refine wp_block ?_
   refine La (k w) (k cR) (k cS) O (k cT) _ _ _ _ _ _ _ _ _ _ _ _ _ _ _ _ _ _ _ _ _ _ _ _ _ _ _ _ _ _ _ _ _ _ _ _ _ _ _ _ _ _ _ _ _ _ _ _ _ _ _ _ _ _ _ _ _ _ _ _ _ _ _ _ _ _ _ _ _ _ _ _ _ _ _ _ _ _ _ _ _ _ _ _ _ _ _ _ _ _ _ _ _ _ _ _ _ _ _ _ _ _ _ _ _ _ _ _ _ _ _ _ _ _ _ _ _ _ _ _ _ _ _ _ _ _ _ _ _ _ _ _ _ _ _ _ _ _ _ _ _ _ _ _ _ _ _ _ _ _ _ ?_
   intro bH b4 cf bJ bL bM bN bO bP bQ bR bS bT bU bV bW bY bZ b1 b2 b3 b5 b6 b7 b8 b9 ca cb cc cd ce cg ch ci cj ck cl cm cn co cp cq cr ct cu cv cw cx cy cz cA cB cC cD cE cF cG cH cI cL cM cN eM cX;have cY:=i ((k e).trans (k cX));clear c0 c8 c1 c9 w;go_wp2;exact⟨⟨c+1,rfl,by omega,cY⟩,by simp[intOf];omega⟩
  ·have c7:¬(c:Int)<4:=by omega
   go_wp2;exact(k cQ) _ _ _ _ _ _ _ _ _ _ _ _ _ _ _ _ _ _ _ _ _ _ _ _ _ _ _ _ _ _ _ _ _ _ _ _ _ _ _ _ _ _ _ _ _ _ _ _ _ _ _ _ _ _ _ _ _ _ _ _ _ _ _ _ _ _ _ _ _ _ _ _ _ _ _ _ e
theorem Lc{c:U} {e:Nat} {f:Nat->Prop} {cy:V} {ls:List Nat} (j:fH c f cy ls) (hy:c.cell? ⟨e,1,F⟩=E cy) (w:e<c.heap.size) (cL:ls.length<=1099511627776) (r:Exit->Act->U->Prop) (z cY di dw dK aY aZ a0 A cO cP cQ cR cS cT cV cW cX cZ c0 c1 c2 c3 c4 c5 c6 c7 c8 c9 c' da db dc dd de df dg dh dk dl dm dn dp dq dr dt du dv dy dz dA dB dC dF dG dH dI dJ dL dM dN dO dQ dS dT dU dV dW dX dY d0 d1 d2 d3 d4 d5 d6 d7 d8 d9 ea eb ec ed ee ef eg eh ei a1 a2 a3 a4 a5 a6 a7 a8 a9 B D H I J L M N O P Q R S X Y aa ab ad ae af ag ah ai aj ak am ao ap aq ar au av aw ax ay aA aD aE aF aH aI aK aL aM aN aO aQ aR aS aT aU aV aW aX:V)
  (u:∀(ba eu bA bO b1 ek el em en eo ep eq er et bb bc bd bf bh bi bk bl bm bn bo bp bq bs bt bu bv bw bx bz bB bC bD bE bG bH bJ bL bM bN bP bQ bR bS bT bU bV bW bY bZ b2 b3 b4 b5 b6 b7 b8 b9 ca cb cc cd ce cf cg ch ci cj ck cl cm cn co cp cq cr ct cu cv cw cx:V) (s:U),Hid (G No c s)->r (.exit 0) ⟨#[b (E ⟨e,1,F⟩),z,ba,eu,bA,bO,b1,aY,aZ,a0,A,ek,el,em,en,eo,ep,eq,er,et,bb,bc,bd,bf,bh,bi,bk,bl,bm,bn,bo,bp,bq,bs,bt,bu,bv,bw,bx,bz,bB,bC,bD,bE,bG,bH,bJ,bL,bM,bN,bP,bQ,bR,bS,bT,bU,bV,bW,bY,bZ,b2,b3,b4,b5,b6,b7,b8,b9,ca,cb,cc,cd,ce,cf,cg,ch,ci,cj,ck,cl,cm,cn,co,cp,cq,cr,ct,cu,cv,cw,cx,a1,a2,a3,a4,a5,a6,a7,a8,a9,B,D,H,I,J,L,M,N,O,P,Q,R,S,X,Y,aa,ab,ad,ae,af,ag,ah,ai,aj,ak,am,ao,ap,aq,ar,au,av,aw,ax,ay,aA,aD,aE,aF,aH,aI,aK,aL,aM,aN,aO,aQ,aR,aS,aT,aU,aV,aW,aX],[]⟩ s):
  Code.wp T (vT 0) r ⟨#[b (E ⟨e,1,F⟩),z,cY,y K 0,di,dw,dK,aY,aZ,a0,A,cO,cP,cQ,cR,cS,cT,cV,cW,cX,cZ,c0,c1,c2,c3,c4,c5,c6,c7,c8,c9,c',da,db,dc,dd,de,df,dg,dh,dk,dl,dm,dn,dp,dq,dr,dt,du,dv,dy,dz,dA,dB,dC,dF,dG,dH,dI,dJ,dL,dM,dN,dO,dQ,dS,dT,dU,dV,dW,dX,dY,d0,d1,d2,d3,d4,d5,d6,d7,d8,d9,ea,eb,ec,ed,ee,ef,eg,eh,ei,a1,a2,a3,a4,a5,a6,a7,a8,a9,B,D,H,I,J,L,M,N,O,P,Q,R,S,X,Y,aa,ab,ad,ae,af,ag,ah,ai,aj,ak,am,ao,ap,aq,ar,au,av,aw,ax,ay,aA,aD,aE,aF,aH,aI,aK,aL,aM,aN,aO,aQ,aR,aS,aT,aU,aV,aW,aX],[]⟩ c:=by
 conv=>arg 4;dsimp only
 conv=>arg 2;whnf
 have cz:=i u;clear u;have cC:=i j;have cD:=i hy;have cE:=i w;have cB:=i cL;obtain⟨cH,cI,rfl⟩:=aC j.row;clear j hy w;go_loopw [3] (λm ej=>∃a:Nat,m=y K (a:Int)/\a<=ls.length/\Hid (G No c ej)) (λm _=>ls.length - (intOf m).toNat)
 case atStart=>exact⟨0,rfl,by omega,G.refl _ _⟩
 case round=>
  obtain⟨a,rfl,hi,d⟩:=hrel;have t:wr.cell? ⟨e,1,F⟩=E (C cH ls.length cI):=fF (k d) (k cD);have x:=aG (k cE) (k d).size;by_cases cN:a<ls.length
  ·have cM:(a:Int)<(ls.length:Int):=by omega
   have ew:(0:Int)<=a:=by omega
   have ey:K.wrap ((a:Int)+1)=((a+1:Nat):Int):=by rw[aB _ (by omega) (by omega)];rfl
   have p:=i ((k cC).mod (F':=f) ((k d).mono (S':=f) (λ_ _ n=>n.elim)) (λ_ _ n=>n));have o:=i t;have q:=i x;have cA:=i cN;go_upto_block 2 with fail;refine wp_block ?_
   refine Lb (av:=undef) (bv:=undef) (lv:=undef) (k p) (k o) (k q) (k cA) (k cB) _ _ _ _ _ _ _ _ _ _ _ _ _ _ _ _ _ _ _ _ _ _ _ _ _ _ _ _ _ _ _ _ _ _ _ _ _ _ _ _ _ _ _ _ _ _ _ _ _ _ _ _ _ _ _ _ _ _ _ _ _ _ _ _ _ _ _ _ _ _ _ _ _ _ _ _ _ _ _ _ _ _ _ _ _ _ _ _ _ _ _ _ _ _ _ _ _ _ _ _ _ _ _ _ _ _ _ _ _ _ _ _ _ _ _ _ _ _ _ _ _ _ _ _ _ _ _ _ _ _ _ _ _ _ _ _ _ _ _ _ _ _ _ _ _ _ _ _ _ _ _ _ ?_
   intro ba bA bO b1 bb bc bd bf bh bi bk bl bm bn bo bp bq bs bt bu bv bw bx bz bB bC bD bE bG bH bJ bL bM bN bP bQ bR bS bT bU bV bW bY bZ b2 b3 b4 b5 b6 b7 b8 b9 ca cb cc cd ce cf cg ch ci cj ck cl cm cn co cp cq cr ct cu cv cw cx ev cF;have cG:=i ((k d).trans (k cF));clear t x p o q;go_wp2;exact⟨⟨a+1,rfl,by omega,cG⟩,by simp[intOf];omega⟩
  ·have cM:¬(a:Int)<(ls.length:Int):=by omega
   go_wp2;exact(k cz) _ _ _ _ _ _ _ _ _ _ _ _ _ _ _ _ _ _ _ _ _ _ _ _ _ _ _ _ _ _ _ _ _ _ _ _ _ _ _ _ _ _ _ _ _ _ _ _ _ _ _ _ _ _ _ _ _ _ _ _ _ _ _ _ _ _ _ _ _ _ _ _ _ _ _ _ _ _ _ _ _ _ _ _ _ _ d
end Go.Proofs.YthhibagcpjeihaaGreat
