import Derived.Test.YthhibagcpjeihaaGreatW2
import Derived.OpenShut
import Derived.Deep.DeepCutAuto
import Derived.Deep.Slices
import Derived.SizedLaws
open Go.Proofs.Tryz
open Go.Addr renaming mk->u
open Go.Value renaming int->F,pointer->g,slice->C,bool->L,tuple->aq,ownBlock->aV
open Go.IntKind renaming i64->K,signed->oz
open Option renaming none->J,some->E
open Go renaming World->U,Value->V
open Go.Proofs.Tryz renaming prog->h
open Go.Ending renaming returned->q
open Go.Obj renaming cells->m
set_option linter.unusedVariables false
set_option linter.unusedSimpArgs false
set_option maxRecDepth 100000
set_option maxHeartbeats 4000000
namespace Go.Proofs.YthhibagcpjeihaaGreat
open Go.RowKit
open M
structure aH where
 b:Nat->List Int
 last:Nat->Nat
 ay:Int
 fuse:Int
def aH.used(a:aH):Nat:=(a.b 0).length+(a.b 1).length+(a.b 2).length+(a.b 3).length
def aH.put(b:aH)(c:Nat)(i:List Int)(e:Nat)(d:Int):aH:=⟨λa=>if a=c then i else b.b a,λa=>if a=c then e else b.last a,b.ay,d⟩
def oO(a:aH)(b:Nat)(c:List Int):Bool×aH:=
 if a.ay<(a.used:Int)+c.length\/a.fuse=0 then(false,a) else(true,a.put b (a.b b++c) (a.last b) (gD a.fuse))
def gS(a:aH)(b:Nat):Bool×aH:=if a.fuse=0 then(false,a) else(true,a.put b (a.b b) (a.b b).length (gD a.fuse))
def fO(a:aH)(b:Nat):Bool×aH:=if a.fuse=0 then(false,a) else(true,a.put b [] 0 (gD a.fuse))
structure aS (w:U) (S:Nat->Prop) (tb:Nat) (T:aH):Prop where
 ex:∃t:aL,t.ok S w tb/\(∀i,i<4->(t.get i).xs=dt (T.b i)/\(t.get i).last=T.last i)/\t.ay=T.ay/\t.fuse=T.fuse
 fuse: -9223372036854775808<=T.fuse/\T.fuse<=9223372036854775807
variable {j:aH} {Q P p:Nat} {S o:TypeId} {k:List Int} {I:Int} {v:aL} {W:List V}
theorem aS.mod{w w':U}{S S':Nat->Prop}{tb:Nat}(b:aS w S tb j)(i:G S' w w')(k:∀a,S a->¬S' a):aS w' S tb j:=by
 obtain⟨⟨l,c,d⟩,e⟩:=b;exact⟨⟨l,c.mod i k,d⟩,e⟩
theorem aS.bC{w w':U}{S:Nat->Prop}{tb:Nat}(a:aS w S tb j)(b:G No w w'):aS w' S tb j:=a.mod b (λ_ _ c=>c)
theorem aS.wide{w:U}{S S':Nat->Prop}{tb:Nat}(b:aS w S tb j)(i:∀a,S a->S' a):aS w S' tb j:=by
 obtain⟨⟨k,c,d⟩,e⟩:=b;exact⟨⟨k,c.wide i,d⟩,e⟩
theorem aS.narrow{w:U}{S:Nat->Prop}{tb:Nat}(b:aS w S tb j):aS w (λa=>S a/\a<w.heap.size) tb j:=by
 obtain⟨⟨i,c,d⟩,e⟩:=b;exact⟨⟨i,c.narrow,d⟩,e⟩
theorem aS.dq{w:U}{S:Nat->Prop}{tb:Nat}(a:aS w S tb j):S tb:=by
 obtain⟨⟨e,b,c⟩,d⟩:=a;exact b.dq
theorem aS.lt{w:U}{S:Nat->Prop}{tb:Nat}(a:aS w S tb j):tb<w.heap.size:=by
 obtain⟨⟨e,b,c⟩,d⟩:=a;exact b.e.lt
theorem aS.last{w:U}{S:Nat->Prop}{tb:Nat}(i:aS w S tb j)(a:Nat)(hi:a<4):j.last a<=(j.b a).length/\(j.b a).length<=17592186044416:=by
 obtain⟨⟨l,d,e,_⟩,k⟩:=i;have b:=(d.get a hi).last;have c:=(d.get a hi).len;rw[(e a hi).1] at b c;rw[(e a hi).2] at b;rw[lI] at b c;exact⟨b,c⟩
theorem aS.bytes{w:U}{S:Nat->Prop}{tb:Nat}(d:aS w S tb j)(a:Nat)(hi:a<4):∀x∈j.b a,0<=x/\x<256:=by
 obtain⟨⟨p,e,i,_⟩,n⟩:=d;intro x k;have c:=(e.get a hi).bytes;rw[(i a hi).1] at c;obtain⟨o,b,l⟩:=c (.int .u8 x) (kA.2 ⟨x,k,rfl⟩);injection b with _ b;rw[b];exact l
theorem aS.ay{w:U}{S:Nat->Prop}{tb:Nat}(b:aS w S tb j):∃a,X w tb a 108/\a[8]? =E (F K j.ay):=by
 obtain⟨⟨i,c,e,d,_⟩,_⟩:=b;refine⟨_,c.e,?_⟩;rw[<-d];rfl
theorem CM(b:∀a,a<4->(v.get a).xs=dt (j.b a)/\(v.get a).last=j.last a):v.used=j.used:=by
 have c:=(b 0 (by omega)).1;have d:=(b 1 (by omega)).1;have e:=(b 2 (by omega)).1;have i:=(b 3 (by omega)).1;unfold aL.used aH.used;have k:v.f0.xs.length=(j.b 0).length:=by rw[show v.f0=v.get 0 from rfl,c,lI]
 have l:v.f1.xs.length=(j.b 1).length:=by rw[show v.f1=v.get 1 from rfl,d,lI]
 have n:v.f2.xs.length=(j.b 2).length:=by rw[show v.f2=v.get 2 from rfl,e,lI]
 have o:v.f3.xs.length=(j.b 3).length:=by rw[show v.f3=v.get 3 from rfl,i,lI]
 omega
theorem yY(a: -9223372036854775808<=I/\I<=9223372036854775807): -9223372036854775808<=gD I/\gD I<=9223372036854775807:=by
 unfold gD;split<;>omega
theorem aS.put{w:U}{S:Nat->Prop}{tb:Nat}(n:∀a,a<4->(v.get a).xs=dt (j.b a)/\(v.get a).last=j.last a)(o:v.ay=j.ay)(a:Nat)(hi:a<4)(r:V)(k:List Int)(i:Nat)(b:Int)(p: -9223372036854775808<=b/\b<=9223372036854775807)(l:({ v.put ⟨r,dt k,i⟩ a with fuse:=b }:aL).ok S w tb):aS w S tb (j.put a k i b):=by
 refine⟨⟨_,l,λe d=>?_,?_,rfl⟩,p⟩
 .rw[oE,tW _ _ _ _ hi d];unfold aH.put;by_cases c:e=a
  .simp only[D c,and_self]
  .simp only[f c];exact n e d
 .show(v.put _ a).ay=j.ay;rw[(tX v _ a).1];exact o
theorem KE{w:U}{S:Nat->Prop}{tb:Nat}(c:aS w S tb j)(a:Int)(k:0<=a)(l:a<=140737488355328):Calls h 122 #[g (E (u tb 0 J)),F K a] w λb w'=>b=q (L (decide ((j.used:Int)+a<=j.ay)))/\G No w w':=by
 obtain⟨⟨n,d,e,i,o⟩,p⟩:=c;have:=vN tb n a w d k l;rw[CM e,i] at this;exact this
theorem KF{w:U}{S:Nat->Prop}{tb:Nat}(M:aS w S tb j)(b:Nat)(hi:b<4)(o:Option Addr)(e:Nat)(a:List Int)(A:Reads w (C o a.length e) a.length (dt a))(Q:(C o a.length e).ownBlock≠E tb)(P:∀x∈a,0<=x/\x<256)(N:(j.b b).length+a.length<=17592186044416):Calls h 123 #[g (E (u tb 0 J)),F K b,C o a.length e] w λr w'=>r=q (L (oO j b a).1)/\aS w' (λB=>S B\/w.heap.size<=B) tb (oO j b a).2/\G S w w':=by
 obtain⟨⟨n,v,c,i,k⟩,y⟩:=M;have hu:=CM c;have R:(n.get b).xs.length=(j.b b).length:=by rw[(c b hi).1,lI]
 unfold oO;by_cases z:j.ay<(j.used:Int)+a.length
 .rw[D (.inl z)];refine(IQ tb n b hi S w v o a.length e (by omega) (by rw[hu,i];exact z)).mono ?_;rintro r w' ⟨rfl,l⟩;exact⟨rfl,⟨⟨n,(v.bC l).wide (λ_ d=>.inl d),c,i,k⟩,y⟩,l.mono (λ_ _ x=>x.elim)⟩
 .by_cases s:j.fuse=0
  .rw[D (.inr s)];refine(IV tb n b hi S w v o a.length e (by omega) (by rw[hu,i];omega) (by rw[k];exact s)).mono ?_;rintro r w' ⟨rfl,p,l⟩;exact⟨rfl,⟨⟨n,p.wide (λ_ d=>.inl d),c,i,k⟩,y⟩,l⟩
  .rw[f (by rintro(d|d);exact z d;exact s d)]
   refine(IU tb n b hi S w v o a.length e (dt a) A Q (lI a) (λx A=>by
    obtain⟨I,O,rfl⟩:=kA.1 A
    exact⟨I,rfl,P I O⟩) (by rw[R];exact N) (by rw[hu,i];omega) (by rw[k];exact y) (by rw[k];exact s)).mono ?_
   rintro r w' ⟨rfl,⟨T,p⟩,l⟩;refine⟨rfl,?_,l⟩;rw[(c b hi).1,(c b hi).2,k] at p;have:dt (j.b b)++dt a=dt (j.b b++a):=by simp[dt]
   rw[this] at p;exact aS.put c i b hi T _ _ _ (yY y) p
theorem yZ{w:U}{S:Nat->Prop}{tb:Nat}(r:aS w S tb j)(a:Nat)(hi:a<4):Calls h 45 #[g (E (u tb 0 J)),F K a] w λe w'=>e=q (L (gS j a).1)/\aS w' S tb (gS j a).2/\G (· =tb) w w':=by
 obtain⟨⟨n,o,i,p,b⟩,k⟩:=r;unfold gS;by_cases c:j.fuse=0
 .rw[D c];refine(IP tb n a hi S w o (by rw[b];exact c)).mono ?_;rintro e w' ⟨rfl,d,l⟩;exact⟨rfl,⟨⟨n,d,i,p,b⟩,k⟩,l⟩
 .rw[f c];refine(IM tb n a hi S w o (by rw[b];exact k) (by rw[b];exact c)).mono ?_;rintro e w' ⟨rfl,d,l⟩;refine⟨rfl,?_,l⟩;rw[(i a hi).1,lI,b] at d;exact aS.put i p a hi _ _ _ _ (yY k) d
theorem KG(c:Nat)(a:aL)(k:Nat)(hi:k<4)(S:Nat->Prop)(w:U)(o:a.ok S w c)(e:a.fuse=0):Calls h 71 #[g (E (u c 0 J)),F K k] w λd w'=>d=q (L false)/\a.ok S w' c/\G (· =c) w w':=by
 have j:=λn (z:a.ok S n c)=>sg c a n z (by omega);simp only[ne_eq,e,si,decide_false] at j;have H:=l o;have x:=l j;have p:=l e;clear j o e;have A:(k:Int)<4:=by omega
 go_enter func71,ntmps71;go_wp2_with fail;refine((b x) _ (b H)).mono ?_;rintro d B ⟨rfl,r,s⟩;have v:=l r;have y:=l s;clear r s;go_wp2;go_ret;have i:=b v;rw[show gD 0=0 from rfl] at i;refine⟨rfl,?_,b y⟩;have d:({ a with fuse:=0 }:aL)=a:=by cases a;simp only at p;rw[b p]
 rw[d] at i;exact i
theorem wm{w:U}{S:Nat->Prop}{tb:Nat}(r:aS w S tb j)(a:Nat)(hi:a<4):Calls h 71 #[g (E (u tb 0 J)),F K a] w λe w'=>e=q (L (fO j a).1)/\aS w' S tb (fO j a).2/\G (· =tb) w w':=by
 obtain⟨⟨l,n,o,p,b⟩,i⟩:=r;unfold fO;by_cases c:j.fuse=0
 .rw[D c];refine(KG tb l a hi S w n (by rw[b];exact c)).mono ?_;rintro e w' ⟨rfl,d,k⟩;exact⟨rfl,⟨⟨l,d,o,p,b⟩,i⟩,k⟩
 .rw[f c];refine(IY tb l a hi S w n (by rw[b];exact i) (by rw[b];exact c)).mono ?_;rintro e w' ⟨rfl,d,k⟩;refine⟨rfl,?_,k⟩;rw[b] at d;exact aS.put o p a hi (C J 0 0) [] 0 _ (yY i) d
theorem za{w:U}{S:Nat->Prop}{tb:Nat}(d:aS w S tb j)(a:Nat)(hi:a<4):Calls h 89 #[g (E (u tb 0 J)),F K a] w λc w'=>∃b,c=q b/\w'.ownsRow 0 5 1 b (j.b a).length (dt (j.b a))/\fm w (C J 0 0) b/\G No w w':=by
 obtain⟨⟨k,e,i,l,n⟩,o⟩:=d;have:=IZ tb k a hi S w e;rw[(i a hi).1,lI] at this;exact this
theorem KH(w:U)(j:Int):aS (w.alloc (m (⟨⟨C J 0 0,[],0⟩,⟨C J 0 0,[],0⟩,⟨C J 0 0,[],0⟩,⟨C J 0 0,[],0⟩,j, -1⟩:aL).cells 108)) (λb=>b=w.heap.size) w.heap.size ⟨λ_=>[],λ_=>0,j, -1⟩:=by
 have d:∀i:U,(⟨C J 0 0,[],0⟩:dk).ok (λb=>b=w.heap.size) i:=λi=>⟨dx _ _ _ _,by simp,by simp,λl k=>by simp at k,λb e=>by simp[aV] at e⟩;have a:(⟨C J 0 0,[],0⟩:dk).apart ⟨C J 0 0,[],0⟩:=λb e=>by simp[aV] at e
 refine⟨⟨_,⟨X.new _ _ _,rfl,d _,d _,d _,d _,a,a,a,a,a,a⟩,λc hi=>?_,rfl,rfl⟩,by show(-9223372036854775808:Int)<= -1/\(-1:Int)<=9223372036854775807;decide⟩;have:c=0\/c=1\/c=2\/c=3:=by omega
 obtain rfl|rfl|rfl|rfl:=this<;>exact⟨rfl,rfl⟩
def pS(a b B:Int):Int:=bits .or K a (K.wrap (b* 2 ^ (min B.toNat 64)))
def cH:List Int->Nat->Int->Option (Int×List Int)
 |[],_,_=>J
 |a::d,b,c=>if a<128 then E (pS c (a % 128) (7* (b:Int)),d) else cH d (b+1) (pS c (a % 128) (7* (b:Int)))
theorem CN(a b B:Int): -9223372036854775808<=pS a b B/\pS a b B<=9223372036854775807:=by
 unfold pS bits;rw[lF];omega
theorem KI(a B:Int)(b:0<=B):Op.shift .shl K a K B=pure (F K (K.wrap (a* 2 ^ (min B.toNat 64)))):=by
 unfold Op.shift;rw[f (by omega)];rfl
theorem KJ(x:Int)(a:0<=x)(b:x<256):bits .and .u8 x 127=x % 128:=bits_mask .u8 8 (by decide) wraps_u8 7 (by decide) x a b
theorem CO:∀(b:List Int) (e:Nat) (i:Int) {x:Int} {c:List Int},cH b e i=E (x,c)->c.length<b.length/\(∀d∈c,d∈b)/\ -9223372036854775808<=x/\x<=9223372036854775807
 |[],_,_,_,_,a=>by simp[cH] at a
 |j::b,e,i,x,c,a=>by
  unfold cH at a;split at a
  .injection a with a;injection a with k l;subst k l;have:=CN i (j % 128) (7* (e:Int));exact⟨by simp,λd hy=>by simp[hy],this⟩
  .obtain⟨p,n,o⟩:=CO b _ _ a;exact⟨by simp;omega,λd hy=>by simp[n d hy],o⟩
def oP(a:U)(c:Nat):Nat:=match a.cell? (u c 0 J) with|some (C _ b _)=>b|_=>0
theorem cd.oP{w:U}{c:Bool}(a:cd w Q P k I c):oP w Q=k.length:=by
 obtain⟨d,e,b,i,j⟩:=a.e;unfold Proofs.YthhibagcpjeihaaGreat.oP;rw[b.T 0];rfl
def eE{e:Type}(w w':U)(b c:Nat)(j:Option (e×List Int))(d:Int)(k:Bool)(i:e->Prop):Prop:=
 G (· =b) w w'/\match j with
  |some (l,a)=>i l/\cd w' b c a d k
  |none=>∃a,cd w' b c a d true
theorem lP{w:U}{A:Bool}(T:cd w Q P k I A):Calls h 131 #[g (E (u Q 0 J))] w λS w'=>∃c,S=q (F K c)/\(-9223372036854775808<=c/\c<=9223372036854775807)/\eE w w' Q P (cH k 0 0) I A (λx=>x=c):=by
 have H:=l T;have ap:=T.len;generalize ad:cH k 0 0=R;have Y:=l ad;clear T ad;go_enter func131,ntmps131;go_wp2_with fail;go_loopw [3,4,5] (λaz aA aB wr=>∃(c:Int) (a:Nat) (s:List Int) (p:Bool) (ai:V),az=F K c/\aA=F K (7* (a:Int))/\aB=ai/\a+s.length<=1099511627776/\Hid (cd wr Q P s I p)/\Hid (G (· =Q) w wr)/\Hid (cH s a c=R/\p=A)) (λ_ _ _ wr=>oP wr Q)
 case atStart=>exact⟨0,0,k,A,_,rfl,rfl,rfl,by omega,H,G.refl _ _,Y,rfl⟩
 case round=>
  obtain⟨c,a,s,p,ai,rfl,rfl,rfl,ao,v,O,B⟩:=hrel;clear H Y ap;go_wp2_with fail;refine(yy (b v)).mono ?_;rintro S X ⟨x,rfl,W⟩;have N:=l W;have af:=W.1;have ar:=KJ x af.1 af.2;obtain⟨j,hy⟩:∃j,x % 128=j:=⟨_,rfl⟩;rw[hy] at ar;have aE:wrap64 j=j:=by unfold wrap64;omega
  have am:(0:Int)<=7* (a:Int):=by omega
  have au:=KI j (7* (a:Int)) am;obtain⟨i,ab⟩:∃i,bits .or K c (K.wrap (j* 2 ^ (min (7* (a:Int)).toNat 64)))=i:=⟨_,rfl⟩;have M:=l (show pS c (x % 128) (7* (a:Int))=i by rw[hy];exact ab);obtain⟨Z,ae⟩:∃Z,K.wrap (j* 2 ^ (min (7* (a:Int)).toNat 64))=Z:=⟨_,rfl⟩;rw[ae] at au ab;have aC:=l hy;clear W hy ae;have aD:wrap64 (7* (a:Int)+7)=7* (a:Int)+7:=by unfold wrap64;omega
  obtain⟨d,rfl⟩:=b B;have r:=b N;have y:=(b O).trans r.2.1;have z:=CN c (x % 128) (7* (a:Int));rw[b M] at z;by_cases aa:x<128
  .have e:eE w X Q P R I p (λx=>x=i):=by
    refine⟨y,?_⟩;obtain⟨rfl,_,o⟩|⟨ah,rfl,o⟩:=r.2.2
    .rw[<-d];exact⟨_,o⟩
    .unfold cH at d;rw[D aa,b M] at d;rw[<-d];exact⟨rfl,o⟩
   have e:=l e;have ak:=l z;clear r y N d B z v O;go_wp2_with fail;go_ret;exact⟨i,rfl,b ak,b e⟩
  .have e:∃n,(a+1)+n.length<=1099511627776/\cd X Q P n I p/\G (· =Q) w X/\cH n (a+1) i=R/\n.length<s.length:=by
    obtain⟨rfl,S,o⟩|⟨ah,rfl,o⟩:=r.2.2
    .omega
    .unfold cH at d;rw[f aa,b M] at d;exact⟨ah,by simp at ao;omega,o,y,d,by simp⟩
   have e:=l e;have aj:=l (b v).oP;clear r y N d B z v O;go_wp2_with fail;obtain⟨n,av,ag,aw,ax,ay⟩:=b e;refine⟨⟨i,a+1,n,p,_,rfl,?_,rfl,av,ag,aw,ax,rfl⟩,?_⟩
   .congr 1
   .rw[ag.oP,b aj];exact ay
theorem KK(a:IntKind)(x b:Int):bits .or a x b=bits .or a b x:=by
 unfold bits;simp only;rw[BitVec.or_comm]
theorem zd(c b a:Nat)(o:a<=8)(e:c<2 ^ (7* a))(hy:b<128)(n:b* 2 ^ (7* a)<2 ^ 63):pS (c:Int) (b:Int) (7* (a:Int))=((c+b* 2 ^ (7* a):Nat):Int):=by
 have i:min (7* (a:Int)).toNat 64=7* a:=by omega
 have j:((b:Int)* 2 ^ (7* a))=((b* 2 ^ (7* a):Nat):Int):=by simp
 have d:((b* 2 ^ (7* a):Nat):Int)<2 ^ 63:=by exact_mod_cast n
 unfold pS;rw[i,j,vQ _ (ze _) d,KK]
 rw[bits_join K 63 (by decide) vQ (7* a) _ _ (ze _) (by
   have:(b* 2 ^ (7* a)) % 2 ^ (7* a)=0:=Nat.mul_mod_left _ _
   exact_mod_cast this) d (ze _) (by exact_mod_cast e) (by
   have k:2 ^ (7* a)<=2 ^ 63:=Nat.pow_le_pow_right (by decide) (by omega)
   have l:c<2 ^ 63:=bj e k
   exact_mod_cast l)]
 simp;omega
theorem KL:∀(j a b c:Nat) (d:List Int),j+b<=8->a<128 ^ (j+1)->c<2 ^ (7* b)->c+a* 2 ^ (7* b)<2 ^ 63->cH (gN j a++d) b (c:Int)=E (((c+a* 2 ^ (7* b):Nat):Int),d):=by
 intro j
 induction j with
 |zero=>
  intro a b c d p k i n;have e:a<128:=by simpa using k
  show cH ((a:Int)::d) b (c:Int)=_;unfold cH;rw[D (by omega),show((a:Int) % 128)=((a:Nat):Int) by omega,zd c a b (by omega) i e (by omega)]
 |succ j r=>
  intro a b c d p k i n;unfold gN;by_cases e:a<128
  .rw[D e];show cH ((a:Int)::d) b (c:Int)=_;unfold cH;rw[D (by omega),show((a:Int) % 128)=((a:Nat):Int) by omega,zd c a b (by omega) i e (by omega)]
  .rw[f e];show cH (((a % 128+128:Nat):Int)::(gN j (a / 128)++d)) b (c:Int)=_;unfold cH;have hd:a=128* (a / 128)+a % 128:=by omega
   have o:2 ^ (7* (b+1))=128* 2 ^ (7* b):=by
    rw[show 7* (b+1)=7+7* b by omega,Nat.pow_add]
   have l:c+a % 128* 2 ^ (7* b)+a / 128* 2 ^ (7* (b+1))=c+a* 2 ^ (7* b):=by
    rw[o];generalize 2 ^ (7* b)=s
    conv=>rhs;rw[hd]
    rw[lE,CL 128 (a / 128),Nat.mul_assoc];omega
   have v:a % 128* 2 ^ (7* b)<=127* 2 ^ (7* b):=pC _ (by omega);rw[f (by omega),show(((a % 128+128:Nat):Int) % 128)=((a % 128:Nat):Int) by omega,zd c (a % 128) b (by omega) i (by omega) (by omega)];rw[r (a / 128) (b+1) _ d (by omega) (by rw[BK] at k;omega) (by rw[o];omega) (by rw[l];exact n),l]
theorem j7{x:Int}(c:0<=x)(e:x<9223372036854775808)(a:List Int):cH (bX x++a) 0 0=E (x,a):=by
 obtain⟨d,rfl⟩:=sq c;unfold bX
 have:=KL 8 d 0 0 a (by omega) (by
  have b:(128:Nat) ^ (8+1)=9223372036854775808:=by decide
  rw[b]
  omega) (by simp) (by simp;omega)
 simpa using this
def iU(c:List Int)(b:Nat)(a:dk):Nat:=if b<c.length then(min (max (c.getD b 0) 0) ((a.xs.length:Int) - a.last)).toNat else 0
theorem KM(c:List Int)(b:Nat)(a:dk)(d:a.last<=a.xs.length):a.last+iU c b a<=a.xs.length:=by
 unfold iU;split
 .omega
 .omega
def spoilt(a:Int):V->V
 | .int .u8 x=>.int .u8 (bits BinOp.xor .u8 x a)
 |b=>b
def jq(c:List Int)(b:Nat)(d:Int)(a:dk):List V:=
 if iU c b a=0 then a.xs.take (a.last+iU c b a) else(a.xs.take (a.last+iU c b a)).set (a.last+iU c b a - 1) (spoilt d (a.xs.getD (a.last+iU c b a - 1) undef))
theorem CP{w:U}{c:Option Addr}(d:w.ownsRow 0 S 1 (C c Q P) Q W)(r:p<=Q):w.ownsRow 0 S 1 (C c p P) p (W.take p):=by
 have z:=d.1;refine⟨by rw[eO];omega,?_⟩;obtain⟨k,y⟩|⟨j,x,i,v,l,o,A,n,hcs,s⟩:=d.2
 .injection k with a e b;subst a b;exact .inl ⟨by rw[show p=0 by omega],by omega⟩
 .injection v with a e b;subst a b;refine .inr ⟨j,P,i,rfl,l,o,by omega,n,hcs,?_⟩;rw[<-s,BU,Nat.mul_one,Nat.mul_one,uc r]
theorem KN{w:U}{j:Nat}(d:w.ownsRow 0 S 1 (C (E (u Q 0 J)) P p) P W)(A:j<P)(b:V):(w.setCell (u Q j J) b).ownsRow 0 S 1 (C (E (u Q 0 J)) P p) P (W.set j b):=by
 refine⟨by rw[kH];exact d.1,?_⟩;obtain⟨k,z⟩|⟨y,x,i,v,l,o,r,n,hcs,s⟩:=d.2
 .injection k with a e c
  cases a
 .injection v with a e c;subst c;injection a with a;injection a with a;subst a;refine .inr ⟨Q,p,i.setIfInBounds j b,rfl,l,(X.set (T:=S) o j b),r,n,by simpa using hcs,?_⟩;rw[<-s,Array.toList_setIfInBounds,List.take_set]
theorem KO{S:Nat->Prop}{w:U}(c:v.ok S w Q)(a:Nat)(hi:a<4){ao:Option Addr}{cap m:Nat}(j:(v.get a).v=C ao (v.get a).xs.length cap)(p:m<=(v.get a).xs.length):(v.put ⟨C ao m cap,(v.get a).xs.take m,m⟩ a).ok S ((w.setCell ⟨Q,a* 2,J⟩ (C ao m cap)).setCell ⟨Q,a* 2+1,J⟩ (F K m)) Q/\
   G S w ((w.setCell ⟨Q,a* 2,J⟩ (C ao m cap)).setCell ⟨Q,a* 2+1,J⟩ (F K m)):=by
 have d:=c.get a hi;have n:=d.owns;rw[j] at n;have r:=CP n p;have l:(C ao m cap).ownBlock≠E Q:=by
  have:=d.ne c.e;rw[j] at this
  cases ao<;>simp_all [aV]
 have o:∀b,(C ao m cap).ownBlock=E b->(v.get a).v.ownBlock=E b:=λb e=>by
  rw[j]
  cases ao<;>simp_all [aV]
 have i:m=((v.get a).xs.take m).length:=by rw[eO];omega
 refine⟨c.put a hi _ (((G.refl _ w).setCell (p:=⟨Q,a* 2,J⟩) (.inl (.inl rfl)) _).setCell (p:=⟨Q,a* 2+1,J⟩) (.inl (.inl rfl)) _) ?_ ?_ (λ_ k=>k) (λb e=>.inl (o b e)),?_⟩
 .have:=(c.e.set (a* 2) (C ao m cap)).set (a* 2+1) (F K m)
  rwa [vL _ _ ((v.get a).xs.take m) _ a hi] at this
 .refine⟨?_,by rw[<-i];exact cz _,by rw[<-i];have:=d.len;omega,λk s=>d.bytes k (sM s),λb e=>d.dq b (o b e)⟩;rw[<-i];exact jh (jh r l _) l _
 .exact((G.refl _ w).setCell (p:=⟨Q,a* 2,J⟩) (.inl c.dq) _).setCell (p:=⟨Q,a* 2+1,J⟩) (.inl c.dq) _
theorem KP{S:Nat->Prop}{w:U}(b:v.ok S w Q)(a:Nat)(hi:a<4){g cap k:Nat}(d:(v.get a).v=C (E (u g 0 J)) (v.get a).xs.length cap)(z:k+1<=(v.get a).xs.length)(x:Int)(I:0<=x/\x<256):(v.put ⟨C (E (u g 0 J)) (k+1) cap,((v.get a).xs.take (k+1)).set k (.int .u8 x),k+1⟩ a).ok S
    (((w.setCell ⟨Q,a* 2,J⟩ (C (E (u g 0 J)) (k+1) cap)).setCell (u g k J) (.int .u8 x)).setCell ⟨Q,a* 2+1,J⟩ (F K (k+1:Nat))) Q/\G S w (((w.setCell ⟨Q,a* 2,J⟩ (C (E (u g 0 J)) (k+1) cap)).setCell (u g k J) (.int .u8 x)).setCell ⟨Q,a* 2+1,J⟩ (F K (k+1:Nat))):=by
 have c:=b.get a hi;have p:=c.owns;have l:g≠Q:=by
  have:=c.ne b.e;rw[d] at this;simpa [aV] using this
 have j:S g:=c.dq g (by rw[d];rfl);rw[d] at p;have A:=CP p z;have o:(C (E (u g 0 J)) (k+1) cap).ownBlock≠E Q:=by simpa [aV] using l
 have B:=KN (jh (a:=⟨Q,a* 2,J⟩) A o (C (E (u g 0 J)) (k+1) cap)) (KQ k) (.int .u8 x);have i:k+1=(((v.get a).xs.take (k+1)).set k (.int .u8 x)).length:=by rw[kH,eO];omega
 have s:Touch Q (v.get a) g:=.inr (by rw[d];rfl)
 refine⟨b.put a hi _ ((((G.refl _ w).setCell (p:=⟨Q,a* 2,J⟩) (.inl (.inl rfl)) _).setCell (p:=u g k J) (.inl s) _).setCell (p:=⟨Q,a* 2+1,J⟩) (.inl (.inl rfl)) _) ?_ ?_ (λ_ x=>x)
  (λk y=>.inl (by rw[d];simpa [aV] using y)),?_⟩
 .have:=((b.e.set (a* 2) (C (E (u g 0 J)) (k+1) cap)).eJ (a:=u g k J) (λr=>l r.symm) (.int .u8 x)).set (a* 2+1) (F K (k+1:Nat))
  rwa [vL _ _ (((v.get a).xs.take (k+1)).set k (.int .u8 x)) _ a hi] at this
 .refine⟨?_,by rw[<-i];exact cz _,by rw[<-i];have:=c.len;omega,λM hy=>?_,λN n=>?_⟩
  .rw[<-i];exact jh B o _
  .obtain e|e:=Ce hy
   .exact c.bytes M (sM e)
   .exact⟨x,e,I⟩
  .simp[aV] at n;subst n;exact j
 .exact(((G.refl _ w).setCell (p:=⟨Q,a* 2,J⟩) (.inl b.dq) _).setCell (p:=u g k J) (.inl j) _).setCell (p:=⟨Q,a* 2+1,J⟩) (.inl b.dq) _
theorem CQ{S:Nat->Prop}{w wr w':U}{a:aL}(hi:P<4)(r:G S w wr)(hA:∀j,j<P->(a.get j).xs=jq k j I (v.get j)/\(a.get j).last=(jq k j I (v.get j)).length)(l:∀j,P<=j->j<4->a.get j=v.get j)(s:a.ay=v.ay)(n:a.fuse=v.fuse)(b:dk)(x:b.xs=jq k P I (v.get P))(p:b.last=(jq k P I (v.get P)).length)(d:(a.put b P).ok S w' Q/\G S wr w'):
  ∃(c:Nat) (t2:aL),c<=4/\F K ((P:Int)+1)=F K (c:Int)/\t2.ok S w' Q/\G S w w'/\(∀j,j<c->(t2.get j).xs=jq k j I (v.get j)/\(t2.get j).last=(jq k j I (v.get j)).length)/\(∀j,c<=j->j<4->t2.get j=v.get j)/\t2.ay=v.ay/\t2.fuse=v.fuse:=by
 refine⟨P+1,a.put b P,by omega,rfl,d.1,r.trans d.2,λj o=>?_,λj o e=>?_,?_,?_⟩
 .rw[tW _ _ _ _ hi (by omega)];split
  .rename_i i;subst i;exact⟨x,p⟩
  .exact hA j (by omega)
 .rw[tW _ _ _ _ hi e,f (by omega)];exact l j (by omega) e
 .rw[(tX _ _ _).1,s]
 .rw[(tX _ _ _).2,n]
theorem KT(N:Nat)(c:List Int)(r:aL)(au:Nat)(ag:Option Addr)(p:Int)(S:Nat->Prop)(w:U)(aA:r.ok S w N)(bC:c.length<=9223372036854775807)(ae:Reads w (C ag c.length au) c.length (c.map (F K)))(aH:0<c.length->∀e,(C ag c.length au).ownBlock=E e->¬S e):Calls h 23 #[g (E (u N 0 J)),C ag c.length au,.int .u8 p] w λa3 w'=>a3=q (aq #[])/\
   ∃j:aL,j.ok S w' N/\G S w w'/\(∀a,a<4->(j.get a).xs=jq c a p (r.get a)/\(j.get a).last=(jq c a p (r.get a)).length)/\j.ay=r.ay/\j.fuse= -1:=by
 have H:=l aA;have aZ:=l ae;have a0:=l aH;clear ae aH aA;generalize aN:c.length=av at *;have Y:=l aN;clear aN;go_enter func23,ntmps23;go_wp2
 go_loopw [9] (λad wr=>∃(a:Nat) (j:aL),a<=4/\ad=F K a/\j.ok S wr N/\G S w wr/\
   (∀k,k<a->(j.get k).xs=jq c k p (r.get k)/\(j.get k).last=(jq c k p (r.get k)).length)/\(∀k,a<=k->k<4->j.get k=r.get k)/\j.ay=r.ay/\j.fuse=r.fuse) (λa _=>4 - (intOf a).toNat)
 case atStart=>exact⟨0,r,by omega,rfl,b H,G.refl _ _,λk bz=>by omega,λk _ _=>rfl,rfl,rfl⟩
 case round=>
  obtain⟨a,j,hi,rfl,aR,aO,hA,aB,aS,aG⟩:=hrel;have ai:=l hA;have aj:=l aB;have ak:=l aS;have ay:=l aG;have Z:=l aO;have s:=l aR;clear hA aB aS aG aO aR;by_cases A:a<4
  .have bx:(a:Int)<4:=by omega
   have Q:j.get a=r.get a:=(b aj) a (cz _) A;have y:=(b s).get a A;rw[Q] at y;have aY:=l y;have ao:=(b s).e.T (a* 2);have ap:=(b s).e.T (a* 2+1);have bk:=(b s).e.aC;have aD:=(b s).e;have aX:=l aD;clear aD;rw[(mq _ a A).1,Q] at ao;rw[(mq _ a A).2,Q] at ap;have M:=l Q;clear Q;generalize hF:r.get a=i at *;have W:=l hF;clear hF;obtain⟨az,am,af,bB⟩:=qI y;have bu:i.xs.length<=am:=by
    obtain⟨ap,a8⟩|⟨o,ad,a2,O,_,_,bE,_⟩:=y.owns.2
    .omega
    .rw[af] at O;injection O with _ _ bt;omega
   rw[af] at ao;have aa:=l af;have aJ:=y.last;clear af y;generalize aC:i.xs.length=ah at *;generalize aI:i.last=d at *;have x:=l aC;have P:=l aI;clear aC aI;go_upto_if 20 with fail;go_cut [8] (λbr bs=>br=F K ((iU c a i:Nat):Int)/\∃nq,bs=wr.drewN nq)
   case first=>
    by_cases ar:a<av
    .have bc:(a:Int)<av:=by omega
     have B:iU c a i=(min (max (c.getD a 0) 0) ((ah:Int) - d)).toNat:=by
      unfold iU;rw[D (by rw[b Y];exact ar),b x,b P]
     have R:∃T,ag=E T/\wr.cell? (T.add a)=E (F K (c.getD a 0)):=by
      obtain⟨_,ao⟩|⟨T,ad,bf,R⟩:=(b aZ).mod (b Z) ((b a0) (by have:=b Y;omega))
      .omega
      .injection bf with ab _ _;exact⟨T,ab,R a _ (by simp[b Y,ar])⟩
     obtain⟨T,rfl,R⟩:=R;generalize c.getD a 0=ax at R B;obtain bg|bg:=sN 0 ax
     .obtain bh|bh:=sN ((ah:Int) - d) ax
      .have z:iU c a i=ah - d:=by omega
       have n:=l z;clear B z;go_wp2;go_quiet (fail)
       all_goals go_wp2
       all_goals go_meet
       all_goals exact⟨by rw[b n];congr 1;omega,_,rfl⟩
      .have z:((iU c a i:Nat):Int)=ax:=by omega
       have n:=l z;clear B z;go_wp2;go_quiet (fail)
       all_goals go_wp2
       all_goals go_meet
       all_goals exact⟨by rw[b n],_,rfl⟩
     .have z:iU c a i=0:=by omega
      have n:=l z;clear B z;go_wp2;go_quiet (fail)
      all_goals go_wp2
      all_goals go_meet
      all_goals exact⟨by rw[b n];first|rfl|(congr 1;omega),_,rfl⟩
    .have bc:¬(a:Int)<av:=by omega
     have B:iU c a i=0:=by
      unfold iU;rw[f (by rw[b Y];exact ar)]
     have n:=l B;clear B;go_wp2
     all_goals go_meet
     all_goals exact⟨by rw[b n];rfl,0,rfl⟩
   case rest=>
    obtain⟨rfl,nq,rfl⟩:=hcut;have bA:d+iU c a i<=ah:=by have:=KM c a i (by rw[b x,b P];exact aJ);rw[b x,b P] at this;exact this
    generalize aP:iU c a i=aw at *;have n:=l aP;clear aP;by_cases bd:aw=0
    .subst bd;rw[show(((0:Nat):Int))=0 from rfl];go_wp2_with fail;go_region;go_wp2;have I:=KO (m:=d) (ao:=az) (cap:=am) ((b s).bC ((G.refl No wr).drewN (nq+1))) a A (by rw[b M,b x];exact b aa) (by rw[b M,b x];exact aJ);have ex:i.xs.take d=jq c a p i:=by unfold jq;rw[D (b n),b n,b P];rfl
     have el:d=(jq c a p i).length:=by rw[<-ex,eO,b x];omega
     refine⟨?_,by simp[intOf];omega⟩;rw[b M] at I;exact CQ A (b Z) (b ai) (b aj) (b ak) (b ay) _ (by rw[b W];exact ex) (by rw[b W];exact el) ⟨I.1,((G.refl S wr).drewN _).trans I.2⟩
    .obtain⟨e,ae⟩:∃e,aw=e+1:=⟨aw - 1,by omega⟩;subst ae;have a7:∃o v,az=E (u o 0 J)/\o≠N/\wr.cell? ⟨o,d+e,J⟩=E (.int .u8 v)/\wr.frozen? ⟨o,d+e,J⟩=false/\i.xs[d+e]? =E (.int .u8 v):=by
      have y:=b aY;have aQ:=y.owns;have aK:d+e<i.xs.length:=by rw[b x];omega
      obtain⟨ap,a8⟩|⟨o,ad,a2,O,_,ba,_⟩:=aQ.2
      .omega
      .obtain⟨v,aT,_,_⟩:=y.bytes (i.xs[d+e]) (eK aK);have aU:i.xs[d+e]? =E (.int .u8 v):=by rw[du aK,aT]
       have aE:=aQ.cells (g:=o) (by rw[O];rfl) (d+e) (.int .u8 v) aU;have a6:((u o 0 J):Addr).add (d+e)=⟨o,d+e,J⟩:=by unfold Addr.add;split<;>simp_all
       rw[a6] at aE;rw[b aa] at O;injection O with ab _ _;refine⟨o,v,ab,?_,aE,X.aC (T:=5) ba _,aU⟩;rintro rfl;exact y.ne (b aX) (by rw[b aa,ab];rfl)
     obtain⟨o,v,rfl,bw,aT,bv,aW⟩:=a7;have a1:=l aW;clear aW;go_wp2_with fail;go_region;go_wp2;go_region;go_wp2;have bi:=wf_bits BinOp.xor .u8 v p;simp[Lit.wf,IntKind.min,IntKind.max,oz,IntKind.bits] at bi;have I:=KP (k:=d+e) (g:=o) (cap:=am) ((b s).bC ((G.refl No wr).drewN (nq+1))) a A (by rw[b M,b x];exact b aa) (by rw[b M,b x];omega) (bits BinOp.xor .u8 v p) ⟨by omega,by omega⟩
     have ex:(i.xs.take (d+e+1)).set (d+e) (.int .u8 (bits BinOp.xor .u8 v p))=jq c a p i:=by
      unfold jq;rw[f (by rw[b n];omega),b n,b P,show d+(e+1) - 1=d+e from by omega];have bb:i.xs.getD (d+e) undef=.int .u8 v:=by simp[List.getD,b a1]
      rw[bb];rfl
     have el:d+e+1=(jq c a p i).length:=by rw[<-ex,kH,eO,b x];omega
     refine⟨?_,by simp[intOf];omega⟩;rw[b M] at I;have aF:=CQ A (b Z) (b ai) (b aj) (b ak) (b ay) _ (by rw[b W];exact ex) (by rw[b W];exact el) ⟨I.1,((G.refl S wr).drewN _).trans I.2⟩;have a4:d+e+1=d+(e+1):=by omega
     have a5:((d+(e+1):Nat):Int)=(d:Int)+((e:Int)+1):=by omega
     rw[a4,a5] at aF;obtain⟨bl,t2,bm,bn,bo,bp,bq⟩:=aF;exact⟨bl,t2,bm,bn,bo.bC (G.refl No _).drew,bp.drew,bq⟩
  .obtain rfl:a=4:=by omega
   have a9:=(b s).e.T 9;have bk:=(b s).e.aC 9;rw[show j.cells[9]? =E (F K j.fuse) from rfl] at a9;go_wp2;go_end0;refine⟨rfl,{ j with fuse:= -1 },(b s).fuse (-1),(b Z).setCell (p:=u N 9 J) (.inl (b s).dq) _,λa hi=>?_,b ak,rfl⟩;rw[oE];exact(b ai) a hi
def wo(b:V):Prop:=∃a:Int,b=F K a/\ -9223372036854775808<=a/\a<=9223372036854775807
section
variable {H:Type} {enc:TypeId×V->H} {w:U} {base:Nat} {spare:Nat->Bool} {held:Bool}
def kX(enc:TypeId×V->H)(w:U)(base:Nat)(spare:Nat->Bool)(held:Bool)(b:TypeId)(e:Nat):Prop:=
 h.cellsOf b=e/\∀(fuel:Nat) (a:List V) (i:DataW H×List MemPlace),DataW.trod enc h w base spare held fuel b a=E i->∀(d:Nat) (c:V),a[d]? =E c->wo c
theorem KU(i:h.underlying S=E (.int K))(e:h.cellsOf S=1):kX enc w base spare held S 1:=by
 refine⟨e,λfuel l o c b n a=>?_⟩;obtain⟨k,rfl,_,j⟩:=CS i c;have d:=bounds_i64 j
 cases b with
 |zero=>simp at a;exact⟨k,a.symm,d⟩
 |succ b=>simp at a
theorem zg{fs:Array Field}(s:h.underlying S=E (.struct fs)){fuel:Nat}{x:DataW H×List MemPlace}(l:DataW.trod enc h w base spare held fuel S W=E x)(b:Nat)(n:∃(j:Nat) (a:Field) (d:Nat),fs[j]? =E a/\a.offset<=b/\b<a.offset+d/\kX enc w base spare held a.type d):W.length=h.cellsOf S/\∀c,W[b]? =E c->wo c:=by
 obtain⟨z,G,_,_,r,y,o⟩:=zh s l;refine⟨r,λc v=>?_⟩;obtain⟨j,a,d,e,A,B,i,k⟩:=n;have p:j<z.length:=by
  rw[y];exact(Array.getElem?_eq_some_iff.1 e).1
 have:=o j a e;rw[du p,i] at this;refine k _ _ _ this (b - a.offset) c ?_;rw[oD,D (by omega),zi];rw[show a.offset+(b - a.offset)=b by omega];exact v
theorem wq{fs:Array Field}(e:h.underlying S=E (.struct fs))(c:Nat)(l:h.cellsOf S=c)(n:∀a,a<c->∃(j:Nat) (b:Field) (k:Nat),fs[j]? =E b/\b.offset<=a/\a<b.offset+k/\kX enc w base spare held b.type k):kX enc w base spare held S c:=by
 refine⟨l,λfuel p y d a o i=>?_⟩;obtain⟨z,x,_,_,s,v,r⟩:=zh e d;have hi:a<c:=by
  have:=(List.getElem?_eq_some_iff.1 i).1;omega
 exact(zg e d a (n a hi)).2 o i
theorem KV(j:h.underlying S=E (.array Q o))(e:h.cellsOf S=Q)(a:kX enc w base spare held o 1):kX enc w base spare held S Q:=by
 refine⟨e,λfuel l s d c k b=>?_⟩;obtain⟨v,r,_,_,n,p,i⟩:=DataW.trod_array j d;have hi:c<Q:=by
  have:=(List.getElem?_eq_some_iff.1 b).1;omega
 have:=i c hi;rw[du (by omega),a.1] at this;refine a.2 _ _ _ this 0 k ?_;rw[oD,D (by omega),zi];simpa using b
theorem jX:kX enc w base spare held 3 1:=KU underlying3 (by kernel_rfl)
theorem KW:kX enc w base spare held 37 4:=KV underlying37 (by kernel_rfl) jX
theorem sO:kX enc w base spare held 36 2:=wq underlying36 2 (by kernel_rfl) λa hi=>by
 have:a=0\/a=1:=by omega
 obtain rfl|rfl:=this
 .exact⟨0,_,1,rfl,by decide,by decide,jX⟩
 .exact⟨1,_,1,rfl,by decide,by decide,jX⟩
theorem KX:kX enc w base spare held 39 7:=wq underlying39 7 (by kernel_rfl) λa hi=>by
 by_cases b:3<=a
 .exact⟨3,_,4,rfl,b,by show a<3+4;omega,KW⟩
 have:a=0\/a=1\/a=2:=by omega
 obtain rfl|rfl|rfl:=this
 .exact⟨0,_,1,rfl,by decide,by decide,jX⟩
 .exact⟨1,_,1,rfl,by decide,by decide,jX⟩
 .exact⟨2,_,1,rfl,by decide,by decide,jX⟩
theorem KY:kX enc w base spare held 41 16:=wq underlying41 16 (by kernel_rfl) λa hi=>by
 by_cases b:9<=a
 .exact⟨7,_,7,rfl,b,by show a<9+7;omega,KX⟩
 have:a=0\/a=1\/a=2\/a=3\/a=4\/a=5\/a=6\/a=7\/a=8:=by omega
 obtain rfl|rfl|rfl|rfl|rfl|rfl|rfl|rfl|rfl:=this
 .exact⟨0,_,1,rfl,by decide,by decide,jX⟩
 .exact⟨1,_,1,rfl,by decide,by decide,jX⟩
 .exact⟨2,_,2,rfl,by decide,by decide,sO⟩
 .exact⟨2,_,2,rfl,by decide,by decide,sO⟩
 .exact⟨3,_,2,rfl,by decide,by decide,sO⟩
 .exact⟨3,_,2,rfl,by decide,by decide,sO⟩
 .exact⟨4,_,1,rfl,by decide,by decide,jX⟩
 .exact⟨5,_,1,rfl,by decide,by decide,jX⟩
 .exact⟨6,_,1,rfl,by decide,by decide,jX⟩
end
end Go.Proofs.YthhibagcpjeihaaGreat
