import Derived.Test.YthhibagcpjeihaaGreatWc
import Derived.Test.YthhibagcpjeihaaGreatWe
import Derived.Test.YthhibagcpjeihaaGreatWd
open Go.Proofs.Tryz
open Go.Addr renaming mk->u,add_mid->dE
open Go.Value renaming int->F,pointer->g,slice->C,agg->t,tuple->aq,ownBlock->aV
open Go.IntKind renaming i64->K
open Option renaming none->J,some->E
open Go renaming World->U,Value->V
open Go.Proofs.Tryz renaming prog->h,underlying61->qT,underlying70->ru
open Go.Ending renaming returned->q
open Go.Obj renaming cells->m
open Go.Act renaming eval->aM,put->bN
set_option linter.unusedVariables false
set_option linter.unusedSimpArgs false
set_option maxRecDepth 100000
set_option maxHeartbeats 20000000
namespace Go.Proofs.YthhibagcpjeihaaGreat
open Go.RowKit
open M
def gJ:Nat->Option (O×List z):=λ_=>J
theorem On(tb:Nat)(d:Int)(c:Array V)(a:U)(i:X a tb c 108)(j:c[8]? =E (F K d))(n:d<200):Calls h 20 #[g (E (u tb 0 J))] a λe w'=>e=q (aq #[g J,F K 15])/\w'=a:=by
 have k:=l (vM tb d a c i j);clear i j;go_enter func20,ntmps20;go_wp2_with fail;refine(b k).mono ?_;rintro e o ⟨rfl,rfl⟩;go_wp2;go_ret2;exact⟨rfl,rfl⟩
open Go.ChangeMaps (setBlock)
variable {w Q:Nat} {k:Int} {j:Nat->Option (O×List z)} {P p:U} {S:Nat->Nat} {o:List aB}
theorem pU.mod{w w':U}{b:Nat->Nat}{S:Nat->Prop}(a:pU w b Q k j)(d:G S w w')(e:∀c,b c≠0->¬S c):pU w' b Q k j:=by
 obtain⟨i,a⟩:=a;exact⟨i,a.mod d e⟩
def nU(d:Nat->Option (O×List z))(b a:Int):Int×Int:=
 if ¬(1<=b/\b<=20) then(0,2)
 else match d b.toNat with
  |none=>(0,2)
  |some c=>if ¬(0<=a/\a<4) then(0,6) else(min (M.leftOf c.1 c.2 a.toNat) 9,0)
def zO(p:O)(a:List z):Array V:=
 #[F K (aU p a 0),F K (aU p a 1),F K (aU p a 2),F K (aU p a 3),F K (aW p a 0),F K (aW p a 1),F K (aW p a 2),F K (aW p a 3),F K (aE a 0),F K (aE a 1),F K (aE a 2),F K (aE a 3)]
def iY(c:Nat->Option (O×List z))(a:Int):Array V×Int:=
 if ¬(1<=a/\a<=20) then(dB,2)
 else match c a.toNat with
  |none=>(dB,2)
  |some b=>(zO b.1 b.2,0)
theorem Oo(d:pU P S w k j)(b a:Int):Calls h 33 #[g (E (u w 0 J)),F K b,F K a] P λc w'=>c=q (aq #[F K (nU j b a).1,F K (nU j b a).2])/\G No P w':=by
 obtain⟨Q,d⟩:=d;unfold nU;by_cases n:1<=b/\b<=20
 case neg=>
  rw[D n];exact Eh w b a P (yO w b n P)
 rw[f (by simpa using n)];have v:((b.toNat:Nat):Int)=b:=by omega
 have hF:=wg d b.toNat (by omega);rw[v] at hF
 cases p:j b.toNat with
 |none=>
  rw[d.gone _ (by omega) p] at hF;exact Eh w b a P hF
 |some B=>
  obtain⟨i,e⟩:=B;obtain⟨o,y,M,s⟩:=d.here _ i e (by omega) p;rw[y] at hF;simp only;by_cases l:0<=a/\a<4
  case neg=>
   rw[D l];exact Oh w o b a l P hF
  rw[f (by simpa using l)];obtain⟨N,I,H,A,_⟩:=s;have r:((a.toNat:Nat):Int)=a:=by omega
  have:=Oi w o b a.toNat (by omega) (min (jn i e 0) 9) (min (jn i e 1) 9) (min (jn i e 2) 9) (min (jn i e 3) 9) P hF (Eg _ _ _ _ _ _ _ _ _ _ _ _ _ _ _ _ _ _ _ _ _ _ _ _ _ _ _ A);rw[r] at this;refine this.mono ?_;rintro c w' ⟨rfl,x⟩;refine⟨?_,x⟩;have:a.toNat=0\/a.toNat=1\/a.toNat=2\/a.toNat=3:=by omega
  obtain c|c|c|c:=this<;>rw[c]<;>rfl
theorem En(c:pU P S w k j)(a:Int):Calls h 35 #[g (E (u w 0 J)),F K a] P λd w'=>d=q (aq #[t (iY j a).1,F K (iY j a).2])/\G No P w':=by
 obtain⟨y,c⟩:=c;unfold iY;by_cases i:1<=a/\a<=20
 case neg=>
  rw[D i];exact Ei w a P (λb _=>yO w a i b)
 rw[f (by simpa using i)];have r:((a.toNat:Nat):Int)=a:=by omega
 have hF:∀b,G No P b->Calls h 59 #[g (E (u w 0 J)),F K a] b λd w'=>d=q (bL (y a.toNat))/\w'=b:=λb e=>by
  have:=wg (c.mod e (λ_ _ l=>l)) a.toNat (by omega);rw[r] at this;exact this
 cases n:j a.toNat with
 |none=>
  rw[c.gone _ (by omega) n] at hF;exact Ei w a P hF
 |some l=>
  obtain⟨x,v⟩:=l;obtain⟨o,s,I,p⟩:=c.here _ x v (by omega) n;rw[s] at hF;simp only
  exact Ol w o a _ _ _ _ _ _ _ _ _ _ _ _ P hF (λb e=>by
   obtain⟨M,H,B,A,_⟩:=p.bC e
   exact Og _ _ _ _ _ _ _ _ _ _ _ _ _ _ _ _ _ _ _ _ _ _ _ _ _ _ _ A)
def dI(a b c:Nat->Int):Array V:=
 #[F K (a 0),F K (a 1),F K (a 2),F K (a 3),F K (b 0),F K (b 1),F K (b 2),F K (b 3),F K (c 0),F K (c 1),F K (c 2),F K (c 3)]
theorem Eo(a c e:Nat->Int)(b:Nat)(d:b<4):(dI a c e)[b]? =E (F K (a b)):=by
 match b,d with|0,_=>rfl|1,_=>rfl|2,_=>rfl|3,_=>rfl
theorem Ep(a c e:Nat->Int)(b:Nat)(d:b<4):(dI a c e)[4+b]? =E (F K (c b)):=by
 match b,d with|0,_=>rfl|1,_=>rfl|2,_=>rfl|3,_=>rfl
theorem zP(a d c:Nat->Int)(b:Nat)(e:b<4):(dI a d c)[8+b]? =E (F K (c b)):=by
 match b,e with|0,_=>rfl|1,_=>rfl|2,_=>rfl|3,_=>rfl
theorem xc(a c d:Nat->Int)(b:Nat)(i:b<4)(e:Int):(dI a c d).setIfInBounds b (F K e)=dI (dc a b e) c d:=by
 match b,i with|0,_=>rfl|1,_=>rfl|2,_=>rfl|3,_=>rfl
theorem xd(a c d:Nat->Int)(b:Nat)(i:b<4)(e:Int):(dI a c d).setIfInBounds (4+b) (F K e)=dI a (dc c b e) d:=by
 match b,i with|0,_=>rfl|1,_=>rfl|2,_=>rfl|3,_=>rfl
theorem xe(a c d:Nat->Int)(b:Nat)(i:b<4)(e:Int):(dI a c d).setIfInBounds (8+b) (F K e)=dI a c (dc d b e):=by
 match b,i with|0,_=>rfl|1,_=>rfl|2,_=>rfl|3,_=>rfl
theorem xg(p:O)(c:Bool)(j:Int)(b:List z)(a:Nat)(hi:a<b.length):kx p c j (b.take (a+1))=kx p c j (b.take a)+if ((decide (b[a].row<=p.Z)==c)&&b[a].st==j)=true then 1 else 0:=by
 unfold kx;rw[mD,du hi];simp only[qS,qO,yS]
theorem Er(j:Int)(b:List z)(a:Nat)(hi:a<b.length):iO j (b.take (a+1))=iO j (b.take a)+if (b[a].ev&&b[a].cl==j)=true then 1 else 0:=by
 unfold iO;rw[mD,du hi];simp only[qS,qO,yS]
theorem xh(p:O)(b:List z)(a c:Nat)(hi:a<b.length)(j:b[a].st=c)(e:b[a].row<=p.Z):aU p (b.take (a+1))=dc (aU p (b.take a)) c (aU p (b.take a) c+1)/\aW p (b.take (a+1))=aW p (b.take a):=by
 constructor
 .funext i;unfold aU dc;rw[xg _ _ _ _ _ hi,j];by_cases d:i=c
  .subst d;simp[e]
  .have:¬((c:Nat):Int)=(i:Int):=λk=>d (by omega);simp[d,e,this]
 .funext i;unfold aW;rw[xg _ _ _ _ _ hi];simp[e]
theorem xi(p:O)(b:List z)(a c:Nat)(hi:a<b.length)(j:b[a].st=c)(e:¬b[a].row<=p.Z):aW p (b.take (a+1))=dc (aW p (b.take a)) c (aW p (b.take a) c+1)/\aU p (b.take (a+1))=aU p (b.take a):=by
 constructor
 .funext i;unfold aW dc;rw[xg _ _ _ _ _ hi,j];by_cases d:i=c
  .subst d;simp[e]
  .have:¬((c:Nat):Int)=(i:Int):=λk=>d (by omega);simp[d,e,this]
 .funext i;unfold aU;rw[xg _ _ _ _ _ hi];simp[e]
theorem Oq(b:List z)(a c:Nat)(hi:a<b.length)(i:b[a].cl=c)(j:b[a].ev=true):aE (b.take (a+1))=dc (aE (b.take a)) c (aE (b.take a) c+1):=by
 funext e;unfold aE dc;rw[Er _ _ _ hi,i,j];by_cases d:e=c
 .subst d;simp
 .have:¬((c:Nat):Int)=(e:Int):=λk=>d (by omega);simp[d,this]
theorem Ot(b:List z)(a:Nat)(hi:a<b.length)(c:b[a].ev=false):aE (b.take (a+1))=aE (b.take a):=by
 funext d;unfold aE;rw[Er _ _ _ hi,c];simp
theorem Ou(p:O)(a:List z):dI (aU p a) (aW p a) (aE a)=zO p a:=rfl
theorem Ov(p:O)(a:List z)(b:Nat)(i:a.length<=120)(j:Nat):(0<=aU p (a.take b) j/\aU p (a.take b) j<=120)/\(0<=aW p (a.take b) j/\aW p (a.take b) j<=120)/\(0<=aE (a.take b) j/\aE (a.take b) j<=120):=by
 have k:(a.take b).length<=120:=by rw[eO];omega
 have c:kx p true j (a.take b)<=(a.take b).length:=oF;have d:kx p false j (a.take b)<=(a.take b).length:=oF;have e:iO j (a.take b)<=(a.take b).length:=oF;unfold aU aW aE;omega
theorem X.Ow{c:Array V}{b:TypeId}(d:X P w c b):∀a,P.frozen? (u w a J)=false:=λa=>d.aC a
theorem Es:(h.info? 91).map (·.size)=E 12:=by kernel_rfl
theorem Ox:(h.underlying 91).map (·.isRow)=E true:=by kernel_rfl
structure ld (w wx:U) (x:aB) (i:Nat):Prop where
 mod:G No w wx
 res:X wx w.heap.size dB 91
 box:X wx (w.heap.size+1) (cg x) 134
 rq:X wx (w.heap.size+1+1) (dI (aU x.f.c (x.f.Y.take i)) (aW x.f.c (x.f.Y.take i)) (aE (x.f.Y.take i))) 91
theorem ld.start(w:U)(x:aB):ld w (((w.alloc (m dB 91)).alloc (m (cg x) 134)).alloc (m dB 91)) x 0:=by
 refine⟨(((G.refl No w).alloc _).alloc _).alloc _,((X.new w dB 91).alloc _).alloc _,?_,?_⟩
 .have:=(X.new (w.alloc (m dB 91)) (cg x) 134).alloc (m dB 91);rw[bW] at this;exact this
 .have:=X.new ((w.alloc (m dB 91)).alloc (m (cg x) 134)) dB 91;rw[bW,bW] at this;exact this
theorem ld.alloc{w:U}{x:aB}(a:ld w P x Q)(b:Obj):ld w (P.alloc b) x Q:=⟨a.mod.alloc _,a.res.alloc _,a.box.alloc _,a.rq.alloc _⟩
theorem ld.put{x:aB}{j:Nat}(a:ld P p x w)(b:Nat)(c:V)(d:(dI (aU x.f.c (x.f.Y.take w)) (aW x.f.c (x.f.Y.take w)) (aE (x.f.Y.take w))).setIfInBounds b c=dI (aU x.f.c (x.f.Y.take j)) (aW x.f.c (x.f.Y.take j)) (aE (x.f.Y.take j))):ld P (p.setCell ⟨P.heap.size+1+1,b,J⟩ c) x j:=
 ⟨a.mod.setCell (.inr (by show P.heap.size<=P.heap.size+1+1;omega)) _,a.res.eJ (by show P.heap.size≠P.heap.size+1+1;omega) _,a.box.eJ (by show P.heap.size+1≠P.heap.size+1+1;omega) _,by rw[<-d];exact a.rq.set b c⟩
theorem ld.qa{x:aB}{j:Nat}(b:ld P p x w)(a c:Nat)(d v':V)(e:((dI (aU x.f.c (x.f.Y.take w)) (aW x.f.c (x.f.Y.take w)) (aE (x.f.Y.take w))).setIfInBounds a d).setIfInBounds c v'=dI (aU x.f.c (x.f.Y.take j)) (aW x.f.c (x.f.Y.take j)) (aE (x.f.Y.take j))):ld P ((p.setCell ⟨P.heap.size+1+1,a,J⟩ d).setCell ⟨P.heap.size+1+1,c,J⟩ v') x j:=
 ⟨(b.mod.setCell (p:=⟨P.heap.size+1+1,a,J⟩) (.inr (by show P.heap.size<=P.heap.size+1+1;omega)) _).setCell (.inr (by show P.heap.size<=P.heap.size+1+1;omega)) _,
  (b.res.eJ (a:=⟨P.heap.size+1+1,a,J⟩) (by show P.heap.size≠P.heap.size+1+1;omega) _).eJ (by show P.heap.size≠P.heap.size+1+1;omega) _,
  (b.box.eJ (a:=⟨P.heap.size+1+1,a,J⟩) (by show P.heap.size+1≠P.heap.size+1+1;omega) _).eJ (by show P.heap.size+1≠P.heap.size+1+1;omega) _,by rw[<-e];exact(b.rq.set a d).set c v'⟩
theorem Et{n:V}(e:bB P S w n o k)(c:Int)(i:dF o c= -1):Calls h 36 #[g (E (u w 0 J)),F K c] P λd w'=>d=q (aq #[t dB,F K 2])/\G No P w':=by
 have a:=(e.mod ((G.refl No P).alloc (m dB 91)) (λ_ _ p=>p)).find c;rw[i] at a;have a:=l a;have j:=l ((G.refl No P).alloc (m dB 91));have r:=l (X.new P dB 91);clear e i;unfold dB at *;go_enter func36,ntmps36;go_wp2_with fail;refine(b a).mono ?_;rintro d s ⟨rfl,rfl⟩;go_wp2;go_returns;exact⟨rfl,b j⟩
theorem Oy{gf:Nat}(ab:bB P S w (C (E (u gf 0 J)) o.length Q) o k)(ai:Int)(i:Nat)(hi:i<o.length)(aS:dF o ai=i):Calls h 36 #[g (E (u w 0 J)),F K ai] P λX w'=>X=q (aq #[t (zO o[i].f.c o[i].f.Y),F K 0])/\G No P w':=by
 have Y:=ab.mod ((G.refl No P).alloc (m dB 91)) (λ_ _ a=>a);have aa:=Y.find ai;rw[aS] at aa;have aa:=l aa;obtain⟨aX,av⟩:=Y.parts rfl (by omega);obtain⟨aw,os,wf⟩:=ab.Y i hi;have aP:=Y.e.T;have N:∀Z,Z<10->(P.alloc (m dB 91)).cell? ⟨gf,i* 10+Z,J⟩=(cg o[i])[Z]? :=λZ aQ=>av.T i hi Z aQ;have ap:=l (ld.start P o[i]);have O:=l aw;have R:=l wf;have aR:o[i].f.Y.length<=120:=ju wf
 have a3:¬(i:Int)<0:=by omega
 have Y:(i:Int)<(o.length:Int):=by omega
 clear ab Y av aw os wf aX;generalize o[i]=a at *;have aD:(P.alloc (m dB 91)).cell? ⟨gf,i* 10,J⟩=E (F K a.f.num):=N 0 (by omega);have aF:(P.alloc (m dB 91)).cell? ⟨gf,i* 10+1,J⟩=E (F K a.f.c.rows):=N 1 (by omega);have aG:(P.alloc (m dB 91)).cell? ⟨gf,i* 10+2,J⟩=E (F K a.f.c.y):=N 2 (by omega);have aH:(P.alloc (m dB 91)).cell? ⟨gf,i* 10+3,J⟩=E (F K a.f.c.Z):=N 3 (by omega)
 have aI:(P.alloc (m dB 91)).cell? ⟨gf,i* 10+4,J⟩=E (F K a.f.c.af):=N 4 (by omega);have aJ:(P.alloc (m dB 91)).cell? ⟨gf,i* 10+5,J⟩=E (F K a.f.c.ag):=N 5 (by omega);have aK:(P.alloc (m dB 91)).cell? ⟨gf,i* 10+6,J⟩=E (F K a.f.c.ai):=N 6 (by omega);have aL:(P.alloc (m dB 91)).cell? ⟨gf,i* 10+7,J⟩=E (F K a.f.c.aj):=N 7 (by omega)
 have aN:(P.alloc (m dB 91)).cell? ⟨gf,i* 10+8,J⟩=E (C (E (u a.g 0 J)) a.f.Y.length a.cap):=N 8 (by omega);have aO:(P.alloc (m dB 91)).cell? ⟨gf,i* 10+9,J⟩=E (F K a.f.ep):=N 9 (by omega);have Y:(i:Int)<(o.length:Int):=by omega
 clear N;unfold dB cg at *;go_enter func36,ntmps36;go_wp2_with fail;refine(b aa).mono ?_;rintro X bg ⟨rfl,rfl⟩;go_wp2_with fail;go_loopw [9] (λaj aY=>∃c:Nat,aj=F K c/\c<=a.f.Y.length/\Hid (ld P aY a c)) (λaj _=>a.f.Y.length - (intOf aj).toNat)
 case atStart=>exact⟨0,rfl,by omega,ap⟩
 case round=>
  obtain⟨c,rfl,a7,d⟩:=hrel;clear ap aD aF aG aH aI aJ aK aL aN aO aP aa;have az:wr.cell? ⟨P.heap.size+1,3,J⟩=E (F K a.f.c.Z):=(b d).box.T 3;have aA:wr.cell? ⟨P.heap.size+1,8,J⟩=E (C (E (u a.g 0 J)) a.f.Y.length a.cap):=(b d).box.T 8;by_cases v:c<a.f.Y.length
  .have aT:(c:Int)<(a.f.Y.length:Int):=by omega
   have a8:(0:Int)<=c:=by omega
   have a9:K.wrap ((c:Int)+1)=((c+1:Nat):Int):=by rw[bh _ (by omega) (by omega)];rfl
   have W:=(b O).mod (b d).mod (λa=>a);have aZ:=W.row c v;have a0:=W.ae c v;have af:=W.st c v;have a1:=W.pa c v;have aC:=W.cl c v;have a2:=W.un c v;have ae:=(b R).dX _ (eK v);obtain⟨j,ag⟩:∃j:Nat,a.f.Y[c].cl=(j:Int):=⟨a.f.Y[c].cl.toNat,by have:=ae.oy;omega⟩;have ad:j<4:=by have:=ae.c1;omega
   have a5:(j:Int)<4:=by omega
   have a4:(0:Int)<=j:=by omega
   have e:a.f.Y[c].st=0\/a.f.Y[c].st=1\/a.f.Y[c].st=2\/a.f.Y[c].st=3:=by have:=ae.ou;have:=ae.s1;omega
   have T:=l ag;rw[ag] at aC;have bd:=(b d).rq.Ow;have A:=Ov a.f.c a.f.Y c aR;have B:=(b d).rq.T;have ts:wr.cell? ⟨P.heap.size+1+1,8+j,J⟩=E (F K (aE (a.f.Y.take c) j)):=by rw[B,zP _ _ _ _ ad]
   have bc:=(b d).rq.lt;have bb:=(b d).box.lt;have ws:K.wrap (aE (a.f.Y.take c) j+1)=aE (a.f.Y.take c) j+1:=by have:=(A j).2.2;exact gp _ (by omega) (by omega)
   have I:=l (Oq a.f.Y c j v ag);have H:=l (Ot a.f.Y c v);clear W ae ag;obtain e|e|e|e:=e
   .have n:=l (xh a.f.c a.f.Y c 0 v e);have p:=l (xi a.f.c a.f.Y c 0 v e);have r:=l (show a.f.Y[c].ev=false from by unfold z.ev;rw[e];rfl);rw[e] at af;have ak:wr.cell? ⟨P.heap.size+1+1,0,J⟩=E (F K (aU a.f.c (a.f.Y.take c) 0)):=B 0;have tb:wr.cell? ⟨P.heap.size+1+1,4,J⟩=E (F K (aW a.f.c (a.f.Y.take c) 0)):=B 4
    have am:K.wrap (aU a.f.c (a.f.Y.take c) 0+1)=aU a.f.c (a.f.Y.take c) 0+1:=by have:=(A 0).1;exact gp _ (by omega) (by omega)
    have ao:K.wrap (aW a.f.c (a.f.Y.take c) 0+1)=aW a.f.c (a.f.Y.take c) 0+1:=by have:=(A 0).2.1;exact gp _ (by omega) (by omega)
    clear e B A;by_cases s:a.f.Y[c].row<=a.f.c.Z
    .have x:=l ((b d).put (j:=c+1) 0 (F K (aU a.f.c (a.f.Y.take c) 0+1)) (by rw[xc _ _ _ 0 (by omega),((b n) s).1,((b n) s).2,(b H) (b r)]));clear n p I H d r T O R;go_wp2;exact⟨⟨c+1,rfl,by omega,(b x).alloc _⟩,by simp[intOf];omega⟩
    .have x:=l ((b d).put (j:=c+1) (4+0) (F K (aW a.f.c (a.f.Y.take c) 0+1)) (by rw[xd _ _ _ 0 (by omega),((b p) s).1,((b p) s).2,(b H) (b r)]));clear n p I H d r T O R;go_wp2;exact⟨⟨c+1,rfl,by omega,(b x).alloc _⟩,by simp[intOf];omega⟩
   .have n:=l (xh a.f.c a.f.Y c 1 v e);have p:=l (xi a.f.c a.f.Y c 1 v e);have r:=l (show a.f.Y[c].ev=true from by unfold z.ev;rw[e];rfl);rw[e] at af;have ak:wr.cell? ⟨P.heap.size+1+1,1,J⟩=E (F K (aU a.f.c (a.f.Y.take c) 1)):=B 1;have tb:wr.cell? ⟨P.heap.size+1+1,5,J⟩=E (F K (aW a.f.c (a.f.Y.take c) 1)):=B 5
    have am:K.wrap (aU a.f.c (a.f.Y.take c) 1+1)=aU a.f.c (a.f.Y.take c) 1+1:=by have:=(A 1).1;exact gp _ (by omega) (by omega)
    have ao:K.wrap (aW a.f.c (a.f.Y.take c) 1+1)=aW a.f.c (a.f.Y.take c) 1+1:=by have:=(A 1).2.1;exact gp _ (by omega) (by omega)
    clear e B A;by_cases s:a.f.Y[c].row<=a.f.c.Z
    .have x:=l ((b d).qa (j:=c+1) 1 (8+j) (F K (aU a.f.c (a.f.Y.take c) 1+1)) (F K (aE (a.f.Y.take c) j+1)) (by rw[xc _ _ _ 1 (by omega),xe _ _ _ j ad,((b n) s).1,((b n) s).2,(b I) (b r)]));clear n p I H d r T O R;go_wp2;exact⟨⟨c+1,rfl,by omega,(b x).alloc _⟩,by simp[intOf];omega⟩
    .have x:=l ((b d).qa (j:=c+1) (4+1) (8+j) (F K (aW a.f.c (a.f.Y.take c) 1+1)) (F K (aE (a.f.Y.take c) j+1)) (by rw[xd _ _ _ 1 (by omega),xe _ _ _ j ad,((b p) s).1,((b p) s).2,(b I) (b r)]));clear n p I H d r T O R;go_wp2;exact⟨⟨c+1,rfl,by omega,(b x).alloc _⟩,by simp[intOf];omega⟩
   .have n:=l (xh a.f.c a.f.Y c 2 v e);have p:=l (xi a.f.c a.f.Y c 2 v e);have r:=l (show a.f.Y[c].ev=true from by unfold z.ev;rw[e];rfl);rw[e] at af;have ak:wr.cell? ⟨P.heap.size+1+1,2,J⟩=E (F K (aU a.f.c (a.f.Y.take c) 2)):=B 2;have tb:wr.cell? ⟨P.heap.size+1+1,6,J⟩=E (F K (aW a.f.c (a.f.Y.take c) 2)):=B 6
    have am:K.wrap (aU a.f.c (a.f.Y.take c) 2+1)=aU a.f.c (a.f.Y.take c) 2+1:=by have:=(A 2).1;exact gp _ (by omega) (by omega)
    have ao:K.wrap (aW a.f.c (a.f.Y.take c) 2+1)=aW a.f.c (a.f.Y.take c) 2+1:=by have:=(A 2).2.1;exact gp _ (by omega) (by omega)
    clear e B A;by_cases s:a.f.Y[c].row<=a.f.c.Z
    .have x:=l ((b d).qa (j:=c+1) 2 (8+j) (F K (aU a.f.c (a.f.Y.take c) 2+1)) (F K (aE (a.f.Y.take c) j+1)) (by rw[xc _ _ _ 2 (by omega),xe _ _ _ j ad,((b n) s).1,((b n) s).2,(b I) (b r)]));clear n p I H d r T O R;go_wp2;exact⟨⟨c+1,rfl,by omega,(b x).alloc _⟩,by simp[intOf];omega⟩
    .have x:=l ((b d).qa (j:=c+1) (4+2) (8+j) (F K (aW a.f.c (a.f.Y.take c) 2+1)) (F K (aE (a.f.Y.take c) j+1)) (by rw[xd _ _ _ 2 (by omega),xe _ _ _ j ad,((b p) s).1,((b p) s).2,(b I) (b r)]));clear n p I H d r T O R;go_wp2;exact⟨⟨c+1,rfl,by omega,(b x).alloc _⟩,by simp[intOf];omega⟩
   .have n:=l (xh a.f.c a.f.Y c 3 v e);have p:=l (xi a.f.c a.f.Y c 3 v e);have r:=l (show a.f.Y[c].ev=false from by unfold z.ev;rw[e];rfl);rw[e] at af;have ak:wr.cell? ⟨P.heap.size+1+1,3,J⟩=E (F K (aU a.f.c (a.f.Y.take c) 3)):=B 3;have tb:wr.cell? ⟨P.heap.size+1+1,7,J⟩=E (F K (aW a.f.c (a.f.Y.take c) 3)):=B 7
    have am:K.wrap (aU a.f.c (a.f.Y.take c) 3+1)=aU a.f.c (a.f.Y.take c) 3+1:=by have:=(A 3).1;exact gp _ (by omega) (by omega)
    have ao:K.wrap (aW a.f.c (a.f.Y.take c) 3+1)=aW a.f.c (a.f.Y.take c) 3+1:=by have:=(A 3).2.1;exact gp _ (by omega) (by omega)
    clear e B A;by_cases s:a.f.Y[c].row<=a.f.c.Z
    .have x:=l ((b d).put (j:=c+1) 3 (F K (aU a.f.c (a.f.Y.take c) 3+1)) (by rw[xc _ _ _ 3 (by omega),((b n) s).1,((b n) s).2,(b H) (b r)]));clear n p I H d r T O R;go_wp2;exact⟨⟨c+1,rfl,by omega,(b x).alloc _⟩,by simp[intOf];omega⟩
    .have x:=l ((b d).put (j:=c+1) (4+3) (F K (aW a.f.c (a.f.Y.take c) 3+1)) (by rw[xd _ _ _ 3 (by omega),((b p) s).1,((b p) s).2,(b H) (b r)]));clear n p I H d r T O R;go_wp2;exact⟨⟨c+1,rfl,by omega,(b x).alloc _⟩,by simp[intOf];omega⟩
  .have aT:¬(c:Int)<(a.f.Y.length:Int):=by omega
   have X:c=a.f.Y.length:=by omega
   subst X;have ah:=(b d).rq;rw[fN] at ah;have ar:=(b d).res;have ax:=l (b d).mod;clear O R;go_upto_region 15 with fail;clear az aA;refine wp_region_list ?_;refine(rZ rfl 91 _ rfl (P.heap.size+1+1) 0 rfl (dI (aU a.f.c a.f.Y) (aW a.f.c a.f.Y) (aE a.f.Y)) 91 ah (dI (aU a.f.c a.f.Y) (aW a.f.c a.f.Y) (aE a.f.Y)) (λZ bf ab=>by rw[bK];simpa using ab) Ox Es ?_)
   refine(yq rfl 91 _ _ rfl (P.heap.size) (dI (aU a.f.c a.f.Y) (aW a.f.c a.f.Y) (aE a.f.Y)) rfl rfl dB 91 ar rfl Es (by simp[dI,Value.oneCell']) ?_);intro M y au;have d0:M.cell? (u P.heap.size 0 J)=E (F K (aU a.f.c a.f.Y 0)):=y.T 0;have d1:M.cell? (u P.heap.size 1 J)=E (F K (aU a.f.c a.f.Y 1)):=y.T 1;have d2:M.cell? (u P.heap.size 2 J)=E (F K (aU a.f.c a.f.Y 2)):=y.T 2
   have d3:M.cell? (u P.heap.size 3 J)=E (F K (aU a.f.c a.f.Y 3)):=y.T 3;have d4:M.cell? (u P.heap.size 4 J)=E (F K (aW a.f.c a.f.Y 0)):=y.T 4;have d5:M.cell? (u P.heap.size 5 J)=E (F K (aW a.f.c a.f.Y 1)):=y.T 5;have d6:M.cell? (u P.heap.size 6 J)=E (F K (aW a.f.c a.f.Y 2)):=y.T 6;have d7:M.cell? (u P.heap.size 7 J)=E (F K (aW a.f.c a.f.Y 3)):=y.T 7
   have d8:M.cell? (u P.heap.size 8 J)=E (F K (aE a.f.Y 0)):=y.T 8;have d9:M.cell? (u P.heap.size 9 J)=E (F K (aE a.f.Y 1)):=y.T 9;have d10:M.cell? (u P.heap.size 10 J)=E (F K (aE a.f.Y 2)):=y.T 10;have d11:M.cell? (u P.heap.size 11 J)=E (F K (aE a.f.Y 3)):=y.T 11;have ay:=l ((b ax).trans' (S:=No) au (λi X a6=>by subst X;omega));have ba:=y.lt;clear au y ar ah d;go_wp2
   refine cN (by simp[results,results36,go_sem,d0,d1,d2,d3,d4,d5,d6,d7,d8,d9,d10,d11];try rfl) rfl ?_;exact⟨rfl,b ay⟩
def di(x:aB):List V:=(cg x).toList
theorem nW(x:aB):(di x).length=10:=rfl
theorem Eu{n:Nat}(e:P.ownsRow 0 134 10 (C (E (u w 0 J)) n Q) o.length (o.flatMap di)):n=o.length/\eP P w Q o:=by
 obtain⟨B,i|⟨A,z,b,v,G,j,p,l,r,s⟩⟩:=e
 .exact absurd i.1 (by simp)
 .injection v with a c d;injection a with a;injection a with a;subst a c d;refine⟨rfl,⟨b,j,r,λx hi y k=>?_⟩,p,l⟩;have:=qH 10 (by omega) di nW o x hi y k;rw[<-s,oD,D (by omega)] at this;rw[<-dy,this];simp[di]
theorem Oz(b:eP P w Q o):P.ownsRow 0 134 10 (C (E (u w 0 J)) o.length Q) o.length (o.flatMap di):=by
 obtain⟨d,i,j,k⟩:=b.cur;refine⟨nh 10 di nW o,.inr ⟨w,Q,d,rfl,gr _,i,b.le,b.max,j,?_⟩⟩;apply BF;intro a;rw[oD];by_cases c:a<o.length* 10
 .rw[D c];have hi:a / 10<o.length:=by omega
  have e:a=a / 10* 10+a % 10:=by omega
  rw[e,qH 10 (by omega) di nW o (a / 10) hi (a % 10) (by omega),dy,k _ hi _ (by omega)];simp[di]
 .rw[f c,tU (by rw[nh 10 di nW];omega)]
theorem Ev{c:V}(d:bB P S w c o k):P.ownsRow 0 134 10 c o.length (o.flatMap di)/\∀b,c.ownBlock=E b->S b=2:=by
 obtain⟨rfl,rfl⟩|⟨l,j,rfl,e,i⟩:=d.kL
 .exact⟨by simpa using dx _ _ _ _,λb a=>by simp[aV] at a⟩
 .exact⟨Oz e,λb a=>by simp[aV] at a;rw[<-a];exact i⟩
structure rr (w wx:U) (cb:Nat) (xs:List aB) (now:Int) (i:Nat) (v:V) (ys:List aB) (ow:Nat->Nat):Prop where
 bM:bB wx ow cb v ys now
 new:∀k,ow k≠0->w.heap.size<=k
 len:ys.length=i
 same:∀j (h:j<ys.length) (h':j<xs.length),ys[j].f=xs[j].f
 mod:G No w wx
theorem OA{w3 w4:U}{r c3:Nat}{ys:List aB}{X v2:V}{a3:Option Addr}(c:rr P p w o k Q X ys S)(hi:Q<o.length)(aO:o.length<=20)(T:aJ o[Q].f.c o[Q].f.Y)(av:r=o[Q].f.Y.length)(N:w3.ownsRow 0 63 6 (C a3 r c3) r (o[Q].f.Y.flatMap cq))(ar:(p.alloc (m (cg o[Q]) 134)).grownBy w3 (C J 0 0).ownBlock)(aw:fm (p.alloc (m (cg o[Q]) 134)) (C J 0 0) (C a3 r c3))
  (H:Obj)(ax:∀b,a3=E (u b 0 J)->w4.ownsRow 0 134 10 v2 (Q+1) (ys.flatMap di++di ⟨o[Q].f,b,c3⟩))(A:((w3.setCell (u p.heap.size 8 J) (C a3 r c3)).alloc H).drew.grownBy w4 X.ownBlock)(ai:fm ((w3.setCell (u p.heap.size 8 J) (C a3 r c3)).alloc H).drew X v2):∃aN aF,rr P (w4.setCell (u w 0 J) v2) w o k (Q+1) v2 aN aF:=by
 have aW:0<o[Q].f.Y.length:=by
  have d:=T.len;obtain⟨Y,_,Z,_⟩:=bV.wf.bounds T;have d:(o[Q].f.Y.length:Int)=o[Q].f.c.rows* o[Q].f.c.y:=d;have Y:1<=o[Q].f.c.rows:=Y;have Z:1<=o[Q].f.c.y:=Z;have:0<o[Q].f.c.rows* o[Q].f.c.y:=Ew (by omega) (by omega);omega
 obtain⟨b,rfl⟩:∃b,a3=E (u b 0 J):=by
  obtain⟨_,d|⟨I,aa,am,O,_⟩⟩:=N
  .omega
  .injection O with ao;exact⟨I,ao⟩
 rw[av] at N A ai;have ah:=(yt N).2;have aS:p.heap.size<b:=by
  obtain d|d:=aw b rfl
  .simp[aV] at d
  .simp at d;omega
 have aQ:=ah.lt;have az:G No p w3:=((G.refl No p).alloc _).grown ar (by simp[aV]);have aA:G No p (w3.setCell (u p.heap.size 8 J) (C (E (u b 0 J)) o[Q].f.Y.length c3)):=az.setCell (.inr (cz _)) _;obtain⟨aU,R⟩:=Ev c.bM;have W:G (λa=>S a=2) p w4:=by
  refine((aA.mono (S':=λa=>S a=2) (λ_ _ aL=>aL.elim)).alloc H).drew.grown A (λa l=>.inl ?_);exact R a l
 have M:S w=1:=c.bM.bw;have aP:=c.bM.e.lt;have af:=ax b rfl;obtain⟨i,v,ay⟩:∃i v,v2=C (E (u i 0 J)) (Q+1) v:=by
  obtain⟨_,d|⟨I,aa,am,O,_⟩⟩:=af
  .omega
  .exact⟨I,aa,O⟩
 subst ay;have hy:(ys++[(⟨o[Q].f,b,c3⟩:aB)]).length=Q+1:=by simp[c.len]
 have ag:eP w4 i v (ys++[⟨o[Q].f,b,c3⟩]):=by
  have:=af;rw[<-hy] at this;refine(Eu (n:=(ys++[(⟨o[Q].f,b,c3⟩:aB)]).length) ?_).2;simpa using this
 have aY:p.heap.size<w3.heap.size:=by omega
 have B:S i=2\/w3.heap.size<=i:=by
  obtain d|d:=ai i rfl
  .exact .inl (R i d)
  .right;simp at d;omega
 have ad:i≠w:=by
  rintro rfl;obtain d|d:=B<;>omega
 have ap:i≠b:=by
  rintro rfl;obtain d|d:=B
  .have:=c.bM.bg i (by omega);omega
  .omega
 have ae:∀e (n:e<(ys++[(⟨o[Q].f,b,c3⟩:aB)]).length),e<Q\/e=Q:=λe n=>by rw[hy] at n;omega
 have ab:b≠w:=by omega
 have ak:S b=0:=by
  by_cases j:S b=0
  .exact j
  .have:=c.bM.bg b j;omega
 refine⟨ys++[⟨o[Q].f,b,c3⟩],λa=>if a=b then Q+3 else if a=i then 2 else S a,⟨?_,?_,?_,?_,?_,?_⟩,λa l=>?_,hy,λe n au=>?_,?_⟩
 .exact(W.e c.bM.e (by rw[M];omega)).set 0 _
 .refine .inr ⟨i,v,by rw[hy],ag.mod (S:=λa=>a=w) ((G.refl (λa=>a=w) w4).setCell (p:=u w 0 J) (.inl rfl) _) ad,?_⟩;simp[ap]
 .simp[ab.symm,ad.symm,M]
 .intro a l;have aX:w3.heap.size<=w4.heap.size:=by
   have:=A.size;simp at this;omega
  simp only[ny];by_cases j:a=b
  .omega
  .by_cases x:a=i
   .rw[x];exact ag.lt
   .simp only[f j,f x] at l;have:=c.bM.bg a l;omega
 .intro e n;have aj:G (λa=>a=w) w4 (w4.setCell (u w 0 J) (C (E (u i 0 J)) (Q+1) v)):=(G.refl (λa=>a=w) w4).setCell (p:=u w 0 J) (.inl rfl) _;obtain j|j:=ae e n
  .have y:e<ys.length:=by rw[c.len];exact j
   rw[sW y];obtain⟨aI,s,aK⟩:=c.bM.Y e y;have aC:ys[e].g≠b:=λz=>by rw[z,ak] at s;omega
   have aD:ys[e].g≠i:=λz=>by
    obtain d|d:=B
    .rw[z,d] at s;omega
    .have:=c.bM.bg ys[e].g (by rw[s];omega);omega
   have aE:ys[e].g≠w:=λz=>by rw[z,M] at s;omega
   refine⟨(aI.mod W (by rw[s];omega)).mod aj aE,by simp[aC,aD,s],aK⟩
  .subst j;have aR:¬e<ys.length:=by rw[c.len];omega
   rw[uM (by omega)];simp only[c.len,Nat.sub_self,Ex];have aG:bE (w3.setCell (u p.heap.size 8 J) (C (E (u b 0 J)) o[e].f.Y.length c3)) b c3 o[e].f.Y:=ah.Ny (by show b≠p.heap.size;omega) _;have aH:bE w4 b c3 o[e].f.Y:=aG.mod (S:=λa=>S a=2) (((G.refl (λa=>S a=2) _).alloc H).drew.grown A (λa l=>.inl (R a l))) (by rw[ak];omega);exact⟨aH.mod aj ab,by simp,T⟩
 .rw[hy];omega
 .by_cases j:a=b
  .have:=c.mod.size;omega
  .by_cases x:a=i
   .have:=c.mod.size;obtain d|d:=B
    .rw[x];exact c.new i (by omega)
    .omega
   .simp only[f j,f x] at l;exact c.new a l
 .obtain j|j:=ae e n
  .have y:e<ys.length:=by rw[c.len];exact j
   rw[sW y];exact c.same e y au
  .subst j;rw[uM (by rw[c.len];omega)];simp[c.len]
 .refine(c.mod.trans' W (λa l aT=>?_)).setCell (.inr ?_) _
  .have:=c.new a (by omega);omega
  .exact c.new w (by omega)
theorem zQ:(h.info? 134).map (λa=>(a.zero,a.size,a.bytes))=E (E (t #[F K 0,F K 0,F K 0,F K 0,F K 0,F K 0,F K 0,F K 0,C J 0 0,F K 0]),10,96):=by kernel_rfl
theorem OB(c:List z):∀b∈c.flatMap cq,b.oneCell'=true:=by
 intro b hu;obtain⟨d,_,a⟩:=List.mem_flatMap.1 hu;simp[cq,eB] at a;obtain rfl|rfl|rfl|rfl|rfl|rfl:=a<;>rfl
theorem xj(a:U)(e:Int)(j:List aB):rr a (a.alloc (m #[C J 0 0,F K e] 72)) a.heap.size j e 0 (C J 0 0) [] (λb=>if b=a.heap.size then 1 else 0):=by
 refine⟨⟨X.new a _ _,.inl ⟨rfl,rfl⟩,D rfl,λb d=>?_,λk hi=>absurd hi (fK _),by simp⟩,λb d=>?_,rfl,λl i=>absurd i (fK _),(G.refl No a).alloc _⟩
 .by_cases c:b=a.heap.size
  .simp[c]
  .exact absurd (f c) d
 .by_cases c:b=a.heap.size
  .omega
  .exact absurd (f c) d
theorem OC{gf:Nat}(r:bB P S w (C (E (u gf 0 J)) o.length Q) o k)(am:0<o.length):Calls h 26 #[g (E (u w 0 J))] P λv w'=>∃y ys x,v=q (g (E (u P.heap.size 0 J)))/\rr P w' P.heap.size o k o.length y ys x:=by
 have aS:=r.e.T;have aw:=l r;have bg:=r.fg;have ah:=l (xj P k o);obtain⟨aZ,ap⟩:=r.parts rfl am;have aD:=l ap;have aA:=l r.e;clear r ap aZ am;obtain⟨aX,a0,a1,a2,a3⟩:=fq tV;obtain⟨aY,a4,a5,a6,a7⟩:=fq zQ;go_enter func26,ntmps26;go_wp2_with fail;generalize bo:P.heap.size=s at *;go_loopw [4] (λZ wr=>∃a:Nat,Z=F K a/\a<=o.length/\∃y ys x,Hid (rr P wr s o k a y ys x)) (λZ _=>o.length - (intOf Z).toNat)
 case atStart=>exact⟨0,rfl,by omega,_,_,_,ah⟩
 case round=>
  obtain⟨a,rfl,hi,y,ys,x,e⟩:=hrel;clear ah aS;have a8:wr.cell? (u w 0 J)=E (C (E (u gf 0 J)) o.length Q):=((b e).mod.e (b aA) (λn=>n)).T 0;by_cases i:a<o.length
  .have aU:(a:Int)<(o.length:Int):=by omega
   have bl:(0:Int)<=a:=by omega
   have bq:K.wrap ((a:Int)+1)=((a+1:Nat):Int):=by rw[bh _ (by omega) (by omega)];rfl
   have j:=(b aD).mod (b e).mod (λn=>n);have aF:wr.cell? ⟨gf,a* 10,J⟩=E (F K o[a].f.num):=j.T a i 0 (by omega);have aG:wr.cell? ⟨gf,a* 10+1,J⟩=E (F K o[a].f.c.rows):=j.T a i 1 (by omega);have aH:wr.cell? ⟨gf,a* 10+2,J⟩=E (F K o[a].f.c.y):=j.T a i 2 (by omega);have aI:wr.cell? ⟨gf,a* 10+3,J⟩=E (F K o[a].f.c.Z):=j.T a i 3 (by omega)
   have aJ:wr.cell? ⟨gf,a* 10+4,J⟩=E (F K o[a].f.c.af):=j.T a i 4 (by omega);have aK:wr.cell? ⟨gf,a* 10+5,J⟩=E (F K o[a].f.c.ag):=j.T a i 5 (by omega);have aL:wr.cell? ⟨gf,a* 10+6,J⟩=E (F K o[a].f.c.ai):=j.T a i 6 (by omega);have aN:wr.cell? ⟨gf,a* 10+7,J⟩=E (F K o[a].f.c.aj):=j.T a i 7 (by omega)
   have aO:wr.cell? ⟨gf,a* 10+8,J⟩=E (C (E ⟨o[a].g,0,J⟩) o[a].f.Y.length o[a].cap):=j.T a i 8 (by omega);have aP:wr.cell? ⟨gf,a* 10+9,J⟩=E (F K o[a].f.ep):=j.T a i 9 (by omega);obtain⟨ar,os,wf⟩:=(b aw).Y a i;have bs:o[a].f.Y.length<=120:=ju wf;have au:=ar.mod (b e).mod (λn=>n);have av:=au.mod ((G.refl No wr).alloc (m (cg o[a]) 134)) (λn=>n);have ag:=l (pB (IC av));have af:=l (OB o[a].f.Y)
   have ad:=l (nh 6 cq tT o[a].f.Y);have aE:=l wf;have z:=l (X.new wr (cg o[a]) 134);have B:=Ev (b e).bM;rw[(b e).len] at B;obtain⟨R,T,rfl⟩:=aR B.1;have N:=l B;have M:=l ((b e).bM.e.alloc (m (cg o[a]) 134));have a9:=(b e).bM.e.lt;have aj:=l λ(w3 I:U) (c:Option Addr) (d:Nat) (H:V)=>OA (w3:=w3) (w4:=I) (a3:=c) (c3:=d) (v2:=H) (b e) i (by omega) wf rfl;clear j ar os wf au av B;unfold cg at *
   go_wp2_with (first|(at_builtin;refine fJ rfl (.tmp 29) (.tmp 31) 61 rfl 63 aX _ 6 48 qT a0 a1 a2 a3 rfl (by decide) (C J 0 0) 0 [] (by simp[aM]) (by exact dx _ _ _ _) (C (E ⟨o[a].g,0,J⟩) o[a].f.Y.length o[a].cap) o[a].f.Y.length (o[a].f.Y.flatMap cq) (by simp[aM]) (by exact b ag) (b ad) (b af) (by unfold maxLen;omega) (by omega) ?_;intro bx w3 A p Y;obtain⟨c,d,rfl⟩:=aR A;have bf:=(X.grown (b z) p (by simp[aV])).T;have bi:=(X.grown (b z) p (by simp[aV])).aC;have bc:w3.cell? (u s 0 J)=E (C R a T):=(X.grown (b M) p (by simp[aV])).T 0;have bd:=(X.grown (b M) p (by simp[aV])).aC;have bv:=(X.grown (b z) p (by simp[aV])).lt))
   rw[bK,qJ] at A;simp only[bK] at Y;have bu:s<w3.heap.size:=by omega
   have ai:G No wr (w3.setCell (u wr.heap.size 8 J) (C c o[a].f.Y.length d)):=(((G.refl No wr).alloc _).grown p (by simp[aV])).setCell (.inr (cz _)) _
   have O:G No wr (((w3.setCell (u wr.heap.size 8 J) (C c o[a].f.Y.length d)).alloc (m #[F K o[a].f.num,F K o[a].f.c.rows,F K o[a].f.c.y,F K o[a].f.c.Z,F K o[a].f.c.af,F K o[a].f.c.ag,F K o[a].f.c.ai,F K o[a].f.c.aj,C c o[a].f.Y.length d,F K o[a].f.ep] 134)).drew):=(ai.alloc _).drew;have ay:=l (O.owns (b N).1 (λ_ _ n=>n))
   have az:=l (show Reads (((w3.setCell (u wr.heap.size 8 J) (C c o[a].f.Y.length d)).alloc (m #[F K o[a].f.num,F K o[a].f.c.rows,F K o[a].f.c.y,F K o[a].f.c.Z,F K o[a].f.c.af,F K o[a].f.c.ag,F K o[a].f.c.ai,F K o[a].f.c.aj,C c o[a].f.Y.length d,F K o[a].f.ep] 134)).drew) (C (E (u w3.heap.size 0 J)) 1 1) 1 [F K o[a].f.num,F K o[a].f.c.rows,F K o[a].f.c.y,F K o[a].f.c.Z,F K o[a].f.c.af,F K o[a].f.c.ag,F K o[a].f.c.ai,F K o[a].f.c.aj,C c o[a].f.Y.length d,F K o[a].f.ep] from
    .inr ⟨(u w3.heap.size 0 J),1,rfl,λbt aa hu=>by
     have ak:=(X.new (w3.setCell (u wr.heap.size 8 J) (C c o[a].f.Y.length d)) #[F K o[a].f.num,F K o[a].f.c.rows,F K o[a].f.c.y,F K o[a].f.c.Z,F K o[a].f.c.af,F K o[a].f.c.ag,F K o[a].f.c.ai,F K o[a].f.c.aj,C c o[a].f.Y.length d,F K o[a].f.ep] 134).drew
     rw[ny] at ak
     rw[dE,bK,ak.T,<-dy]
     exact hu⟩)
   have ab:=l (O.e (b e).bM.e (λn=>n))
   have ae:=l (show E s≠(C R a T).ownBlock from λv=>by
    have bn:=(b N).2 s v.symm
    have bm:=(b e).bM.bw
    omega)
   have aC:=l λ(I:U) (H:V)=>(b aj) w3 I c d H A p Y (m #[F K o[a].f.num,F K o[a].f.c.rows,F K o[a].f.c.y,F K o[a].f.c.Z,F K o[a].f.c.af,F K o[a].f.c.ag,F K o[a].f.c.ai,F K o[a].f.c.aj,C c o[a].f.Y.length d,F K o[a].f.ep] 134)
   have ax:=l (show ∀aa∈([F K o[a].f.num,F K o[a].f.c.rows,F K o[a].f.c.y,F K o[a].f.c.Z,F K o[a].f.c.af,F K o[a].f.c.ag,F K o[a].f.c.ai,F K o[a].f.c.aj,C c o[a].f.Y.length d,F K o[a].f.ep]:List V),aa.oneCell'=true from by
    intro aa hu
    simp at hu
    obtain rfl|rfl|rfl|rfl|rfl|rfl|rfl|rfl|rfl|rfl:=hu<;>rfl)
   clear ai O aj A p Y N ag af ad aE z M e aF aG aH aI aJ aK aL aN aO aP a8
   go_region_law (refine tR rfl (.tmp 38) (.tmp 40) 70 rfl 134 aY _ 10 96 ru a4 a5 a6 a7 rfl (by decide) (C R a T) a (ys.flatMap di) (by simp[aM,bN]) (by exact b ay) (C (E (u w3.heap.size 0 J)) 1 1) 1 [F K o[a].f.num,F K o[a].f.c.rows,F K o[a].f.c.y,F K o[a].f.c.Z,F K o[a].f.c.af,F K o[a].f.c.ag,F K o[a].f.c.ai,F K o[a].f.c.aj,C c o[a].f.Y.length d,F K o[a].f.ep] (by simp[aM,bN]) (by exact b az) rfl (b ax) (by unfold maxLen;omega) (by omega) ?_;intro H I ao W aW;obtain⟨ba,bb,rfl⟩:=aR ao;have br:=(X.grown (by exact b ab) W (b ae)).T 0;have bp:=(X.grown (by exact b ab) W (b ae)).aC)
   all_goals go_wp2
   all_goals
    obtain⟨bz,bw,aQ⟩:=(b aC) _ _ (λbk aT=>by subst aT;exact ao) W aW;exact⟨⟨a+1,rfl,by omega,_,_,_,aQ⟩,by simp[intOf];omega⟩
  .have aU:¬(a:Int)<(o.length:Int):=by omega
   have v:a=o.length:=by omega
   subst v;go_wp2;go_ret;exact⟨rfl,y,ys,x,b e⟩
end Go.Proofs.YthhibagcpjeihaaGreat
