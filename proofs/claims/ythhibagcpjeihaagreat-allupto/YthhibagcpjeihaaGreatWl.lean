import Derived.Test.YthhibagcpjeihaaGreatWf
import Derived.Test.YthhibagcpjeihaaGreatWb
open Go.Proofs.Tryz
open Go.Addr renaming mk->u,add_mid->dE
open Go.Value renaming int->F,pointer->g,slice->C,bool->L,agg->t,tuple->aq,ownBlock->aV
open Go.IntKind renaming i64->K
open Option renaming none->J,some->E
open Go renaming World->U,Value->V
open Go.Proofs.Tryz renaming prog->h
open Go.Ending renaming returned->q
open Go.Obj renaming cells->m
open Go.Act renaming eval->aM
set_option linter.unusedVariables false
set_option linter.unusedSimpArgs false
set_option maxRecDepth 100000
set_option maxHeartbeats 8000000
namespace Go.Proofs.YthhibagcpjeihaaGreat
open Go.RowKit
open M
theorem Gg(a b:Int)(k: -9223372036854775808<=a/\a<=9223372036854775807)(l:0<b/\b<=1099511627776)(c:U):Calls h 13 #[F K a,F K b] c λd w'=>d=q (F K (kz a b))/\w'=c:=by
 unfold kz;have n:b≠0:=by omega
 by_cases e:a<0
 .have i:K.wrap (a+1)=a+1:=gp _ (by omega) (by omega);have j:K.wrap (-(a+1))= -(a+1):=gp _ (by omega) (by omega);go_enter func13,ntmps13;go_wp2;go_ret;refine⟨?_,rfl⟩;rw[<-ux (by omega),Int.neg_tmod];rfl
 .go_enter func13,ntmps13;go_wp2;go_ret;exact⟨rfl,rfl⟩
theorem QN(a d e:Nat->Int)(i:U):Calls h 37 #[t (dI a d e),t (dI a d e)] i λA w'=>A=q (L true)/\G No i w':=by
 have x:=l ((X.new i (dI a d e) 91).alloc (m (dI a d e) 91))
 have y:=l (show X ((i.alloc (m (dI a d e) 91)).alloc (m (dI a d e) 91)) (i.heap.size+1) (dI a d e) 91 from by
  have:=X.new (i.alloc (m (dI a d e) 91)) (dI a d e) 91
  rw[bW] at this
  exact this)
 have z:=l (((G.refl No i).alloc (m (dI a d e) 91)).alloc (m (dI a d e) 91));generalize w:dI a d e=v at *;go_enter func37,ntmps37;go_wp2_with fail;generalize (i.alloc (m v 91)).alloc (m v 91)=H at *;go_loopw [5] (λp wr=>∃c:Nat,p=F K c/\c<=4/\Hid (G No i wr)/\Hid (G No H wr)) (λp _=>4 - (intOf p).toNat)
 case atStart=>exact⟨0,rfl,by omega,z,G.refl _ _⟩
 case round=>
  obtain⟨c,rfl,hi,s,o⟩:=hrel;by_cases j:c<4
  .have B:(c:Int)<4:=by omega
   have P:(0:Int)<=c:=by omega
   have Q:K.wrap ((c:Int)+1)=((c+1:Nat):Int):=by rw[bh _ (by omega) (by omega)];rfl
   have k:=(b o).e (b x) (λr=>r);have n:=(b o).e (b y) (λr=>r);rw[<-w] at k n;have I:wr.cell? (u i.heap.size c J)=E (F K (a c)):=by rw[k.T,Eo _ _ _ _ j]
   have N:wr.cell? ⟨i.heap.size,4+c,J⟩=E (F K (d c)):=by rw[k.T,Ep _ _ _ _ j]
   have R:wr.cell? ⟨i.heap.size,8+c,J⟩=E (F K (e c)):=by rw[k.T,zP _ _ _ _ j]
   have M:wr.cell? ⟨i.heap.size+1,c,J⟩=E (F K (a c)):=by rw[n.T,Eo _ _ _ _ j]
   have O:wr.cell? ⟨i.heap.size+1,4+c,J⟩=E (F K (d c)):=by rw[n.T,Ep _ _ _ _ j]
   have S:wr.cell? ⟨i.heap.size+1,8+c,J⟩=E (F K (e c)):=by rw[n.T,zP _ _ _ _ j]
   have d1:(a c !=a c)=false:=by simp
   have d2:(d c !=d c)=false:=by simp
   have d3:(e c !=e c)=false:=by simp
   clear k n w;go_wp2_with fail;go_quiet (fail);go_wp2;exact⟨⟨c+1,rfl,by omega,(b s).drewN _,(b o).drewN _⟩,by simp[intOf];omega⟩
  .have B:¬(c:Int)<4:=by omega
   go_wp2;go_ret;exact⟨rfl,b s⟩
theorem QO{p:O}{d a b:Int}(c:(dp p d a b).2≠0):(dp p d a b).1=0:=by
 unfold dp at *;split
 .rfl
 .split
  .rfl
  .split
   .rfl
   .rename_i e i j;rw[f e,f i,f j] at c;exact absurd rfl c
variable {i:List z} {w Q P p S:Nat} {o:aH} {j:U} {k:List Nat} {I:Array V} {v:List Int} {W:V} {N:Nat->Prop} {B:Option Addr} {R:Nat->Nat} {n:List V}
theorem QP{p:O}(e:aJ p i)(b a c:Int):0<=(dp p b a c).1/\(dp p b a c).1.toNat<=i.length:=by
 unfold dp;split
 .simp
 .split
  .simp
  .split
   .simp
   .rename_i j k d;have:=bV.wf.jP e (r:=b) (c:=a) (by simpa using d);simp only at this ⊢;omega
theorem QQ{p:O}{v:List az}(k:cK j w p i Q v P)(r:aJ p i)(c a b size:Int):Calls h 92 #[g (E (u w 0 J)),t #[F K c,F K a,F K b],F K size] j λn w'=>Told j w' n (gI p i c a b size):=by
 unfold gI;by_cases o:size<1\/size>30
 .rw[D o];exact L4 w c a b size o j
 rw[f o];have x:∀d,G No j d->Calls h 114 #[g (E (u w 0 J)),t #[F K c,F K a,F K b]] d λn w'=>n=q (aq #[F K (dp p c a b).1,F K (dp p c a b).2])/\G No d w':=
  λd e=>Le (⟨e.e k.e (λs=>s),e.map k.map (λs=>s),k.ok,k.rel⟩:cK d w p i Q v P) r c a b
 by_cases l:(dp p c a b).2≠0
 .rw[D l];refine L6 w c a b size _ (by omega) l j (λd e=>?_);have:=x d e;rw[QO l] at this;exact this
 rw[f l];obtain⟨y,A⟩:=QP r c a b;have B:(dp p c a b).2=0:=by omega
 refine Nq k r c a b size (by omega) (dp p c a b).1.toNat A (λd e=>?_) _ rfl;have:=x d e;rw[B] at this;rw[Int.toNat_of_nonneg y];exact this
def kn(e:Nat->Option (O×List z))(a i c d size:Int):gT:=
 if ¬(1<=a/\a<=20) then⟨[],0,0,0,false,2⟩
 else match e a.toNat with
  |none=>⟨[],0,0,0,false,2⟩
  |some b=>gI b.1 b.2 i c d size
theorem Gh(j:Nat)(n o i c size:Int)(a:U)(hF:∀d,G No a d->Calls h 59 #[g (E (u j 0 J)),F K n] d λc w'=>c=q (g J)/\w'=d):Calls h 63 #[g (E (u j 0 J)),F K n,t #[F K o,F K i,F K c],F K size] a λr w'=>Told a w' r ⟨[],0,0,0,false,2⟩:=by
 have p:=l hF;have k:G No a ((a.alloc (m #[F K o,F K i,F K c] 43)).alloc (m #[C J 0 0,F K 0,F K 0,F K 0,L false] 146)):=((G.refl _ a).alloc _).alloc _;have e:=l k;clear hF k;go_enter func63,ntmps63;go_wp2_with fail;refine((b p) _ (b e)).mono ?_;rintro v x ⟨rfl,rfl⟩;go_wp2;refine cN (by simp[results,results63,go_sem];try rfl) rfl ?_;exact⟨⟨C J 0 0,rfl,dx _ _ _ _,λw s=>by simp[aV] at s⟩,b e⟩
theorem QR(O I:Nat)(Q r p i size:Int)(R:gT)(a:U)(hF:∀e,G No a e->Calls h 59 #[g (E (u O 0 J)),F K Q] e λi w'=>i=q (g (E (u I 0 J)))/\w'=e)(M:∀e,G No a e->Calls h 92 #[g (E (u I 0 J)),t #[F K r,F K p,F K i],F K size] e λs w'=>Told e w' s R):Calls h 63 #[g (E (u O 0 J)),F K Q,t #[F K r,F K p,F K i],F K size] a λs w'=>Told a w' s R:=by
 have z:=l hF;have B:=l M;have P:G No a ((a.alloc (m #[F K r,F K p,F K i] 43)).alloc (m #[C J 0 0,F K 0,F K 0,F K 0,L false] 146)):=((G.refl _ a).alloc _).alloc _;have o:=l P;have x:=X.new (a.alloc (m #[F K r,F K p,F K i] 43)) #[C J 0 0,F K 0,F K 0,F K 0,L false] 146;rw[bW] at x;have H:=l x;clear hF M P x;go_enter func63,ntmps63;go_wp2_with fail;refine((b z) _ (b o)).mono ?_
 rintro aa af ⟨rfl,rfl⟩;go_wp2_with fail;refine((b B) _ (b o)).mono ?_;rintro ab j ⟨⟨ae,rfl,v,N⟩,w⟩;obtain⟨Y,Z,rfl⟩:=aR v;have c:=w.e (b H) (λW=>W);have T:=l ((b o).trans w);have S:=l v;have A:=l (λd k=>(show a.heap.size+2<=d from by have:=N d k;simpa using this));have d0:j.cell? ⟨a.heap.size+1,0,J⟩=E (C J 0 0):=c.T 0;have d1:j.cell? ⟨a.heap.size+1,1,J⟩=E (F K 0):=c.T 1
 have d2:j.cell? ⟨a.heap.size+1,2,J⟩=E (F K 0):=c.T 2;have d3:j.cell? ⟨a.heap.size+1,3,J⟩=E (F K 0):=c.T 3;have d4:j.cell? ⟨a.heap.size+1,4,J⟩=E (L false):=c.T 4;have f1:=c.aC;have ad:=c.lt;clear w c v N z B o H;go_wp2;refine cN (by simp[results,results63,go_sem,d0,d1,d2,d3,d4];try rfl) rfl ?_
 have n:∀y,No (⟨a.heap.size+1,y,J⟩:Addr).block\/a.heap.size<=(⟨a.heap.size+1,y,J⟩:Addr).block:=λy=>.inr (by simp);refine⟨⟨_,rfl,?_,λd k=>by have:=(b A) d k;omega⟩,(((((b T).setCell (n 0) _).setCell (n 1) _).setCell (n 2) _).setCell (n 3) _).setCell (n 4) _⟩;exact((((G.refl (λd=>d=a.heap.size+1) j).at 0 _).at 1 _).at 2 _|>.at 3 _|>.at 4 _).owns (b S) (λd k i=>by have:=(b A) d k;omega)
theorem Gi{H:Int}{k:Nat->Option (O×List z)}(i:pU j R w H k)(a e d b size:Int):Calls h 63 #[g (E (u w 0 J)),F K a,t #[F K e,F K d,F K b],F K size] j λs w'=>Told j w' s (kn k a e d b size):=by
 obtain⟨M,i⟩:=i;unfold kn;by_cases n:1<=a/\a<=20
 case neg=>
  rw[D n];exact Gh w a e d b size j (λc _=>yO w a n c)
 rw[f (by simpa using n)];have x:((a.toNat:Nat):Int)=a:=by omega
 have hF:∀c,G No j c->Calls h 59 #[g (E (u w 0 J)),F K a] c λb w'=>b=q (bL (M a.toNat))/\w'=c:=λc l=>by
  have:=wg (i.mod l (λ_ _ o=>o)) a.toNat (by omega);rw[x] at this;exact this
 cases p:k a.toNat with
 |none=>
  rw[i.gone _ (by omega) p] at hF;exact Gh w a e d b size j hF
 |some o=>
  obtain⟨I,B⟩:=o;obtain⟨r,y,A,v⟩:=i.here _ I B (by omega) p;rw[y] at hF;simp only
  exact QR w r a e d b size _ j hF (λc l=>by
   obtain⟨X,W,T,N,P,Q,S,_⟩:=v.bC l
   exact QQ ⟨N,P,Q,S⟩ A e d b size)
def cU(a:aH)(e:Nat)(d:List Int):Int×aH:=
 if a.ay<(a.used:Int)+d.length then(15,a)
 else
  let c:=if d=[] then(true,a) else fQ a (1 - e) d
  if c.1=false then(16,c.2)
  else
   let b:=fO c.2 e
   if b.1=false then(16,b.2) else(0,b.2)
def Au(b:Int)(c:Nat)(a:Array V):Array V:=if b=16 then a.setIfInBounds 30 (g J) else if b=0 then(a.setIfInBounds 31 (F K ((1 - c:Nat):Int))).setIfInBounds 32 (L false) else a
structure rB (w w':U) (S:Nat->Prop) (kb tb i:Nat) (cs:Array V) (R:Int×aH):Prop where
 tape:aS w' (λk=>S k\/w.heap.size<=k) tb R.2
 e:X w' kb (Au R.1 i cs) 121
 mod:G (λk=>S k\/k=kb) w w'
theorem xI{w2 w3:U}{S:Nat->Prop}{tb i:Nat}{C:Bool×aH}(x:j.heap.size<=w2.heap.size)(p:X w2 w I 121)(k:¬S w)(v:w<j.heap.size)(n:S tb)(s:G (λa=>S a\/a=w) j w2)(t3:aS w3 (λa=>S a\/j.heap.size<=a) tb C.2)(o:G (· =tb) w2 w3):X w3 w I 121/\G (λa=>S a\/a=w) j w3/\
  (C.1=false->rB j (w3.setCell (u w 30 J) (g J)) S w tb i I (16,C.2))/\(C.1=true->rB j ((w3.setCell (u w 31 J) (F K ((1 - i:Nat):Int))).setCell (u w 32 J) (L false)) S w tb i I (0,C.2)):=by
 have r:¬w=tb:=λb=>k (by rw[b];exact n);have d:=o.e p r;have e:G (λa=>S a\/a=w) j w3:=s.trans (o.mono (λa _ (b:a=tb)=>.inl (by rw[b];exact n)));have l:∀a,S a\/j.heap.size<=a->¬a=w:=λa c b=>by
  subst b;obtain c|c:=c
  .exact k c
  .omega
 refine⟨d,e,λ_=>?_,λ_=>?_⟩
 .exact⟨t3.mod (S':=λa=>a=w) ((G.refl _ w3).at 30 _) l,d.set 30 _,e.setCell (p:=u w 30 J) (.inl (.inr rfl)) _⟩
 .exact⟨t3.mod (S':=λa=>a=w) (((G.refl _ w3).at 31 _).at 32 _) l,(d.set 31 _).set 32 _,(e.setCell (p:=u w 31 J) (.inl (.inr rfl)) _).setCell (p:=u w 32 J) (.inl (.inr rfl)) _⟩
theorem Gj{S:Nat->Prop}{tb:Nat}(Z:X j w I 121)(N:I[30]? =E (g (E (u tb 0 J))))(ay:¬S w)(ag:aS j S tb o)(i:Nat)(hi:i<2)(O:I[31]? =E (F K i))(tn:Bool)(aF:I[32]? =E (L tn))(am:Option Addr)(ah:Nat)(p:List Int)(aJ:Reads j (C am p.length ah) p.length (dt p))(aK:(C am p.length ah).ownBlock≠E tb)(aI:∀x∈p,0<=x/\x<256)(aG:(o.b (1 - i)).length+p.length<=17592186044416):
  Calls h 79 #[g (E (u w 30 J)),C am p.length ah] j λd w'=>d=q (F K (cU o i p).1)/\rB j w' S w tb i I (cU o i p):=by
 have A:=l (Dg Z N ag p.length (by omega));have M:=l λY (ai:G No j Y)=>(Di (ai.e Z (λx=>x)) N ay (ag.bC ai) (1 - i) (by omega) am ah p (aJ.mod ai (λ_ _ x=>x)) aK aI aG).mono λd w' ⟨aX,aY,aZ⟩=>(⟨aX,aY.wide (λe k=>k.imp id (λk=>cC ai.size k)),aZ⟩:d=_/\aS w' (λe=>S e\/j.heap.size<=e) tb (fQ o (1 - i) p).2/\G S Y w');have W:=l Z;have ap:=l ag;have lt:=Z.lt;have ab:=l Z.lt;have Q:=l ay
 have ak:=l ag.dq;have a1:K.wrap (1 - (i:Int))=((1 - i:Nat):Int):=by rw[lF];omega
 clear Z ag aJ aK aG aI ay;unfold cU;unfold wJ at A;by_cases af:o.ay<(o.used:Int)+p.length
 .rw[D af] at A ⊢;have aP:=l af;generalize p.length=aW at *;clear af aP M;go_enter func79,ntmps79;go_wp2_with fail;refine(b A).mono ?_;rintro d aB ⟨rfl,s⟩;have H:=l s;clear s;go_wp2;go_ret;exact⟨rfl,((b ap).bC (b H)).wide (λ_ k=>.inl k),(b H).e (b W) (λx=>x),(b H).mono (λ_ _ x=>x.elim)⟩
 rw[f af] at A ⊢;clear af;by_cases aj:p=[]
 .subst aj;simp only[iP];rw[f (by simp)];have y:=l λY (aw:aS Y (λe=>S e\/j.heap.size<=e) tb o)=>wm aw i (by omega);clear M;have aR:([]:List Int).length=0:=rfl;rw[aR] at A ⊢;generalize fO o i=ao at *;obtain⟨au,ad⟩:=ao;simp only at y ⊢
  cases au with
  |false=>
   rw[D rfl];go_enter func79,ntmps79;go_wp2_with fail;refine(b A).mono ?_;rintro d v ⟨rfl,a⟩;have c:=a.e (b W) (λx=>x);have y:=l ((b y) v.drew (((b ap).bC a.drew).wide (λ_ k=>.inl k)));have R:=l (λw3 t3 n=>xI (C:=(false,ad)) (w2:=v.drew) (w3:=w3) (i:=i) a.size c (b Q) (b ab) (b ak) (a.drew.mono (λ_ _ x=>x.elim)) t3 n);clear a;have d0:=c.T 30;rw[N] at d0;have d1:=c.T 31;rw[O] at d1;have av:=c.lt
   clear c;go_wp2_with fail;go_region_with (go_at_call 71;refine(b y).mono ?_;rintro d w3 ⟨rfl,t3,n⟩;have B:=l ((b R) w3 t3 n);have r:=((b B)).1;have T:=l (wK r _ N);clear r t3 n)
   all_goals go_wp2_with fail
   all_goals refine(b T).mono ?_
   all_goals rintro d a0 ⟨rfl,rfl⟩
   all_goals go_wp2
   all_goals go_ret
   all_goals exact⟨rfl,(b B).2.2.1 (by trivial)⟩
  |true=>
   rw[f (by simp)];go_enter func79,ntmps79;go_wp2_with fail;refine(b A).mono ?_;rintro d v ⟨rfl,a⟩;have c:=a.e (b W) (λx=>x);have y:=l ((b y) v.drew (((b ap).bC a.drew).wide (λ_ k=>.inl k)));have R:=l (λw3 t3 n=>xI (C:=(true,ad)) (w2:=v.drew) (w3:=w3) (i:=i) a.size c (b Q) (b ab) (b ak) (a.drew.mono (λ_ _ x=>x.elim)) t3 n);clear a;have d0:=c.T 30;rw[N] at d0;have d1:=c.T 31;rw[O] at d1
   have av:=c.lt;clear c;go_wp2_with fail;go_region_with (go_at_call 71;refine(b y).mono ?_;rintro d w3 ⟨rfl,t3,n⟩;have B:=l ((b R) w3 t3 n);have r:=((b B)).1;have az:=r.T 31;rw[O] at az;have aA:=r.T 32;rw[aF] at aA;have aU:=r.lt;have aT:=r.aC;clear r t3 n)
   all_goals go_wp2_with fail
   all_goals go_ret
   all_goals exact⟨rfl,(b B).2.2.2 (by trivial)⟩
 .rw[f aj];have a2:(p.length:Int)>0:=by have:=List.length_pos_iff.2 aj;omega
  generalize fQ o (1 - i) p=aN at *;obtain⟨aQ,ar⟩:=aN;generalize p.length=aW at *;simp only at M ⊢;clear aj
  cases aQ with
  |false=>
   rw[D rfl];go_enter func79,ntmps79;go_wp2_with fail;refine(b A).mono ?_;rintro d aB ⟨rfl,s⟩;have z:=s.e (b W) (λx=>x);have ae:=z.T 31;rw[O] at ae;have aL:=z.lt;have P:=l ((b M) _ s);have aa:=l z;have H:=l s;clear z s A M;go_wp2_with fail;refine(b P).mono ?_;rintro d v ⟨rfl,t2,a⟩;have ax:=a.e (b aa) (b Q);have T:=l (wK ax _ N);have aE:=l t2;have aC:=l ax
   have aD:=l (((b H).mono (S':=λe=>S e\/e=w) (λ_ _ x=>x.elim)).trans (a.mono (λ_ _ k=>.inl k)));clear t2 a ax P;go_wp2_with fail;refine(b T).mono ?_;rintro d w3 ⟨rfl,rfl⟩
   have aO:=l (show rB j (v.setCell (u w 30 J) (g J)) S w tb i I (16,ar) from
    ⟨(b aE).mod (S':=λe=>e=w) ((G.refl _ v).at 30 _) (λe k d=>by
      subst d
      obtain k|k:=k
      .exact b Q k
      .have:=b ab;omega),(b aC).set 30 _,(b aD).setCell (p:=u w 30 J) (.inl (.inr rfl)) _⟩)
   clear T aC aD aE;go_wp2;go_ret;exact⟨rfl,b aO⟩
  |true=>
   rw[f (by simp)];have y:=l λY (aw:aS Y (λe=>S e\/j.heap.size<=e) tb ar)=>wm aw i (by omega);generalize fO ar i=ao at *;obtain⟨au,ad⟩:=ao;simp only at y ⊢
   cases au with
   |false=>
    rw[D rfl];go_enter func79,ntmps79;go_wp2_with fail;refine(b A).mono ?_;rintro d aB ⟨rfl,s⟩;have z:=s.e (b W) (λx=>x);have ae:=z.T 31;rw[O] at ae;have aL:=z.lt;have P:=l ((b M) _ s);have aa:=l z;have H:=l s;clear z s A M;go_wp2_with fail;refine(b P).mono ?_;rintro d v ⟨rfl,t2,a⟩;have c:=a.e (b aa) (b Q);have y:=l ((b y) v.drew (t2.bC (G.refl No v).drew))
    have R:=l (λw3 t3 n=>xI (C:=(false,ad)) (w2:=v.drew) (w3:=w3) (i:=i) (cC (b H).size a.size) c (b Q) (b ab) (b ak) ((((b H).mono (S':=λe=>S e\/e=w) (λ_ _ x=>x.elim)).trans (a.mono (λ_ _ k=>.inl k))).drew) t3 n);clear t2 a P;have d0:=c.T 30;rw[N] at d0;have d1:=c.T 31;rw[O] at d1;have av:=c.lt;clear c;go_wp2_with fail
    go_region_with (go_at_call 71;refine(b y).mono ?_;rintro d w3 ⟨rfl,t3,n⟩;have B:=l ((b R) w3 t3 n);have r:=((b B)).1;have T:=l (wK r _ N);clear r t3 n)
    all_goals go_wp2_with fail
    all_goals refine(b T).mono ?_
    all_goals rintro d a0 ⟨rfl,rfl⟩
    all_goals go_wp2
    all_goals go_ret
    all_goals exact⟨rfl,(b B).2.2.1 (by trivial)⟩
   |true=>
    rw[f (by simp)];go_enter func79,ntmps79;go_wp2_with fail;refine(b A).mono ?_;rintro d aB ⟨rfl,s⟩;have z:=s.e (b W) (λx=>x);have ae:=z.T 31;rw[O] at ae;have aL:=z.lt;have P:=l ((b M) _ s);have aa:=l z;have H:=l s;clear z s A M;go_wp2_with fail;refine(b P).mono ?_;rintro d v ⟨rfl,t2,a⟩;have c:=a.e (b aa) (b Q);have y:=l ((b y) v.drew (t2.bC (G.refl No v).drew))
    have R:=l (λw3 t3 n=>xI (C:=(true,ad)) (w2:=v.drew) (w3:=w3) (i:=i) (cC (b H).size a.size) c (b Q) (b ab) (b ak) ((((b H).mono (S':=λe=>S e\/e=w) (λ_ _ x=>x.elim)).trans (a.mono (λ_ _ k=>.inl k))).drew) t3 n);clear t2 a P;have d0:=c.T 30;rw[N] at d0;have d1:=c.T 31;rw[O] at d1;have av:=c.lt;clear c;go_wp2_with fail
    go_region_with (go_at_call 71;refine(b y).mono ?_;rintro d w3 ⟨rfl,t3,n⟩;have B:=l ((b R) w3 t3 n);have r:=((b B)).1;have az:=r.T 31;rw[O] at az;have aA:=r.T 32;rw[aF] at aA;have aU:=r.lt;have aT:=r.aC;clear r t3 n)
    all_goals go_wp2_with fail
    all_goals go_ret
    all_goals exact⟨rfl,(b B).2.2.2 (by trivial)⟩
structure jy (T T':aH) (i:Nat) (xs:List Int) (l:Nat):Prop where
 b:∀j,T'.b j=if j=i then xs else T.b j
 last:∀j,T'.last j=if j=i then l else T.last j
 ay:T'.ay=T.ay
theorem jy.put(a:aH)(b:Nat)(d:List Int)(c:Nat)(e:Int):jy a (a.put b d c e) b d c:=⟨λ_=>rfl,λ_=>rfl,rfl⟩
theorem jy.trans{c d:aH}{ys:List Int}(a:jy o c w v Q)(b:jy c d w ys P):jy o d w ys P:=by
 refine⟨λe=>?_,λe=>?_,b.ay.trans a.ay⟩
 .rw[b.b,a.b];split<;>rfl
 .rw[b.last,a.last];split<;>rfl
theorem Gk(a:(fQ o w v).1=true):jy o (fQ o w v).2 w (o.b w++v) (o.b w++v).length/\(o.used:Int)+v.length<=o.ay/\o.fuse≠0:=by
 unfold fQ oO gS at *;by_cases c:o.ay<(o.used:Int)+v.length\/o.fuse=0
 .simp only[D c] at a;simp at a
 .simp only[f c] at a ⊢;rw[D (by simp)] at a ⊢;by_cases d:(o.put w (o.b w++v) (o.last w) (gD o.fuse)).fuse=0
  .rw[D d] at a;simp at a
  .rw[f d] at a ⊢;have e:¬o.ay<(o.used:Int)+v.length:=λb=>c (.inl b);have b:(o.put w (o.b w++v) (o.last w) (gD o.fuse)).b w=o.b w++v:=D rfl;refine⟨?_,by omega,λb=>c (.inr b)⟩;simp only;rw[b];exact(jy.put o w (o.b w++v) (o.last w) (gD o.fuse)).trans (jy.put _ w _ _ _)
theorem Gl(a:(fQ o w v).1=false)(i:(o.used:Int)+v.length<=o.ay):(fQ o w v).2.fuse=0/\((fQ o w v).2=o\/jy o (fQ o w v).2 w (o.b w++v) (o.last w)):=by
 unfold fQ oO gS at *;by_cases b:o.ay<(o.used:Int)+v.length\/o.fuse=0
 .have e:o.fuse=0:=by obtain d|d:=b;omega;exact d
  simp only[D b] at a ⊢;rw[f (by simp)];exact⟨e,.inl rfl⟩
 .simp only[f b] at a ⊢;rw[D (by simp)] at a ⊢;by_cases c:(o.put w (o.b w++v) (o.last w) (gD o.fuse)).fuse=0
  .rw[D c] at a ⊢;exact⟨c,.inr (jy.put _ _ _ _ _)⟩
  .rw[f c] at a;simp at a
theorem Av(a:(fO o w).1=true):jy o (fO o w).2 w [] 0:=by
 unfold fO at *;by_cases b:o.fuse=0
 .rw[D b] at a;simp at a
 .rw[f b];exact jy.put _ _ _ _ _
theorem Aw(b:(fO o w).1=false):(fO o w).2=o/\o.fuse=0:=by
 unfold fO at *;by_cases a:o.fuse=0
 .rw[D a];exact⟨rfl,a⟩
 .rw[f a] at b;simp at b
theorem QS(a:(gS o w).1=true):jy o (gS o w).2 w (o.b w) (o.b w).length:=by
 unfold gS at *;by_cases b:o.fuse=0
 .rw[D b] at a;simp at a
 .rw[f b];exact jy.put _ _ _ _ _
theorem QT(b:(gS o w).1=false):(gS o w).2=o/\o.fuse=0:=by
 unfold gS at *;by_cases a:o.fuse=0
 .rw[D a];exact⟨rfl,a⟩
 .rw[f a] at b;simp at b
theorem QU(a:aH)(b:Nat)(c:List Int):((iq a b c).1=0/\jy a (iq a b c).2 b (a.b b++c) (a.b b++c).length)\/((iq a b c).1=15/\(iq a b c).2=a/\a.ay<(a.used:Int)+c.length)\/((iq a b c).1=16/\(iq a b c).2.fuse=0/\((iq a b c).2=a\/jy a (iq a b c).2 b (a.b b++c) (a.last b))):=by
 unfold iq;by_cases e:a.ay<(a.used:Int)+c.length
 .rw[D e];exact .inr (.inl ⟨rfl,rfl,e⟩)
 .rw[f e];by_cases d:(fQ a b c).1=true
  .rw[D d];exact .inl ⟨rfl,(Gk d).1⟩
  .rw[f d];have d:(fQ a b c).1=false:=by simpa using d
   exact .inr (.inr ⟨rfl,Gl d (by omega)⟩)
theorem Gm(a:aH)(hi:w<2)(b:List Int):((cU a w b).1=0/\(∀j,(cU a w b).2.b j=if j=w then[] else if j=1 - w then a.b (1 - w)++b else a.b j)/\(∀j,(cU a w b).2.last j=if j=w then 0 else if j=1 - w then(if b=[] then a.last (1 - w) else(a.b (1 - w)++b).length) else a.last j)/\(cU a w b).2.ay=a.ay)\/
  ((cU a w b).1=15/\(cU a w b).2=a/\a.ay<(a.used:Int)+b.length)\/((cU a w b).1=16/\(cU a w b).2.fuse=0/\((cU a w b).2=a\/(b≠[]/\∃o,jy a (cU a w b).2 (1 - w) (a.b (1 - w)++b) o))):=by
 unfold cU;by_cases n:a.ay<(a.used:Int)+b.length
 .rw[D n];exact .inr (.inl ⟨rfl,rfl,n⟩)
 rw[f n];simp only;by_cases k:b=[]
 .subst k;simp only[iP];rw[f (by simp)];by_cases e:(fO a w).1=false
  .rw[D e];have:=Aw e;exact .inr (.inr ⟨rfl,by simp only;rw[this.1];exact this.2,.inl this.1⟩)
  .rw[f e];have d:=Av (by simpa using e:(fO a w).1=true);refine .inl ⟨rfl,λj=>?_,λj=>?_,d.ay⟩
   .simp only;rw[d.b];by_cases c:j=w
    .rw[D c,D c]
    .rw[f c,f c];split
     .rename_i c;rw[c];simp
     .rfl
   .simp only;rw[d.last];by_cases c:j=w
    .rw[D c,D c]
    .rw[f c,f c];split
     .rename_i c;rw[c]
     .rfl
 .rw[f k];by_cases l:(fQ a (1 - w) b).1=false
  .rw[D l];have d:=Gl l (by omega);exact .inr (.inr ⟨rfl,d.1,d.2.imp id (λp=>⟨k,_,p⟩)⟩)
  .rw[f l];have d:=(Gk (by simpa using l:(fQ a (1 - w) b).1=true)).1;by_cases e:(fO (fQ a (1 - w) b).2 w).1=false
   .rw[D e];have i:=Aw e;refine .inr (.inr ⟨rfl,by simp only;rw[i.1];exact i.2,.inr ⟨k,(a.b (1 - w)++b).length,?_⟩⟩);simp only;rw[i.1];exact d
   .rw[f e];have i:=Av (by simpa using e:(fO (fQ a (1 - w) b).2 w).1=true);refine .inl ⟨rfl,λj=>?_,λj=>?_,i.ay.trans d.ay⟩
    .simp only;rw[i.b,d.b]
    .simp only;rw[i.last,d.last,f k]
def iK(b:List Int)(a:Nat)(d c:Nat):Nat:=if a<b.length then(min (max (b.getD a 0) 0) ((d:Int) - c)).toNat else 0
def iM(d:List Int)(c:Nat)(e:Int)(a:List Int)(b:Nat):List Int:=
 if iK d c a.length b=0 then a.take b else a.take (b+iK d c a.length b - 1)++[bits BinOp.xor .u8 (a.getD (b+iK d c a.length b - 1) 0) e]
def kp(b:aH)(c:List Int)(d:Int):aH:=⟨λa=>if a<4 then iM c a d (b.b a) (b.last a) else b.b a,λa=>if a<4 then(iM c a d (b.b a) (b.last a)).length else b.last a,b.ay, -1⟩
def uZ(a:aH)(b:Int):aH:=⟨a.b,a.last,a.ay,b⟩
theorem Ax(d:List Int)(c b a:Nat)(e:a<=b):a+iK d c b a<=b:=by
 unfold iK;split<;>omega
theorem QV{d:Type}(b:List d)(a:Nat)(k:a+1<=b.length)(x:d):(b.take (a+1)).set a x=b.take a++[x]:=by
 apply yL
 .simp;omega
 .intro i e j;simp only[kH,eO] at e;rw[pK];by_cases c:a=i
  .subst c;rw[D rfl,uM (by rw[eO];omega)];simp
  .rw[f c,rm,sW (by simp;omega),rm]
theorem QW{keep:List Int}{i:Nat}{s:Int}{c:dk}(e:c.xs=dt v)(d:c.last=w)(k:w<=v.length):jq keep i s c=dt (iM keep i s v w):=by
 have n:iU keep i c=iK keep i v.length w:=by
  unfold iU iK;rw[e,d,lI]
 have p:=Ax keep i v.length w k;unfold jq iM;rw[n,d,e];by_cases b:iK keep i v.length w=0
 .rw[D b,D b,b,tP];unfold dt;rw[List.map_take]
 .rw[f b,f b];obtain⟨a,o⟩:∃a,iK keep i v.length w=a+1:=⟨_,(Nat.succ_pred b).symm⟩;rw[o] at p ⊢;have j:w+(a+1) - 1=w+a:=by omega
  rw[j,show w+(a+1)=(w+a)+1 by omega,QV _ _ (by rw[lI];omega)];have l:(dt v).getD (w+a) undef=.int .u8 (v.getD (w+a) 0):=by
   unfold dt;simp only[qR,qC];rw[du (by omega)];rfl
  rw[l];unfold dt;rw[qK,List.map_take];rfl
theorem QX{S:Nat->Prop}{tb:Nat}(k:aS j S tb o)(b:List Int)(e:Nat)(i:Option Addr)(c:Int)(y:b.length<=9223372036854775807)(v:Reads j (C i b.length e) b.length (b.map (F K)))(w:0<b.length->∀n,(C i b.length e).ownBlock=E n->¬S n):Calls h 23 #[g (E (u tb 0 J)),C i b.length e,.int .u8 c] j λd w'=>d=q (aq #[])/\aS w' S tb (kp o b c)/\G S j w':=by
 have x:=λa hi=>(k.last a hi).1;obtain⟨⟨I,r,l,s,N⟩,O⟩:=k;refine(KT tb b I e i c S j r y v w).mono ?_;rintro d w' ⟨rfl,M,z,A,p,B,H⟩;refine⟨rfl,⟨⟨M,z,λa hi=>?_,by rw[B,s];rfl,by rw[H];rfl⟩,by show(-9223372036854775808:Int)<= -1/\(-1:Int)<=9223372036854775807;decide⟩,A⟩;have d:=QW (keep:=b) (i:=a) (s:=c) (l a hi).1 (l a hi).2 (x a hi);refine⟨?_,?_⟩
 .rw[(p a hi).1,d];show _=dt (if a<4 then iM b a c (o.b a) (o.last a) else o.b a);rw[D hi]
 .rw[(p a hi).2,d,lI];show _=(if a<4 then(iM b a c (o.b a) (o.last a)).length else o.last a);rw[D hi]
theorem QY{S:Nat->Prop}{tb:Nat}(i:aS j S tb o):Calls h 47 #[g (E (u tb 0 J))] j λc w'=>∃a:Nat,c=q (g (E (u a 0 J)))/\j.heap.size<=a/\aS w' (λs=>j.heap.size<=s) a o/\G No j w':=by
 obtain⟨⟨z,k,d,l,n⟩,p⟩:=i;refine(Jc tb z S j k).mono ?_;rintro c w' ⟨a,rfl,r,A,v,w,e,x,y⟩;exact⟨a,rfl,r,⟨⟨A,v,λb hi=>⟨(e b hi).1.trans (d b hi).1,(e b hi).2.trans (d b hi).2⟩,x.trans l,y.trans n⟩,p⟩,w⟩
theorem Ay{S:Nat->Prop}{tb:Nat}(d:aS j S tb o)(a:Int)(k: -9223372036854775808<=a/\a<=9223372036854775807):Calls h 19 #[g (E (u tb 0 J)),F K a] j λb w'=>b=q (aq #[])/\aS w' S tb (uZ o a)/\G (· =tb) j w':=by
 obtain⟨⟨s,c,e,i,p⟩,r⟩:=d;refine(IH tb a j _ c.e (by unfold aL.cells;simp)).mono ?_;rintro b w' ⟨rfl,rfl⟩;exact⟨rfl,⟨⟨_,c.fuse a,λl hi=>by rw[oE];exact e l hi,i,rfl⟩,k⟩,(G.refl (λn=>n=tb) j).setCell (p:=u tb 9 J) (.inl rfl) _⟩
def ks:Array V:=#[C J 0 0,F K 0,F K 0,F K 0,L false]
theorem Gn{r:List aB}{y:Int}(o:bB j R w W r y)(k e d a size:Int)(p:dF r k= -1):Calls h 64 #[g (E (u w 0 J)),F K k,t #[F K e,F K d,F K a],F K size] j λv w'=>Told j w' v ⟨[],0,0,0,false,2⟩:=by
 have i:G No j ((j.alloc (m #[F K e,F K d,F K a] 43)).alloc (m #[C J 0 0,F K 0,F K 0,F K 0,L false] 146)):=((G.refl _ j).alloc _).alloc _;have c:=(o.mod i (λ_ _ z=>z)).find k;rw[p] at c;have c:=l c;have n:=X.new (j.alloc (m #[F K e,F K d,F K a] 43)) #[C J 0 0,F K 0,F K 0,F K 0,L false] 146;rw[bW] at n
 have s:=l (show Told j (((j.alloc (m #[F K e,F K d,F K a] 43)).alloc (m #[C J 0 0,F K 0,F K 0,F K 0,L false] 146))) (q (aq #[t #[C J 0 0,F K 0,F K 0,F K 0,L false],F K 2])) ⟨[],0,0,0,false,2⟩ from
  ⟨⟨C J 0 0,rfl,dx _ _ _ _,λA x=>by simp[aV] at x⟩,i⟩)
 clear o p i n;go_enter func64,ntmps64;go_wp2_with fail;refine(b c).mono ?_;rintro a B ⟨rfl,rfl⟩;go_wp2;refine cN (by simp[results,results64,go_sem];try rfl) rfl ?_;exact b s
abbrev oa(I:Int)(S:Nat->Prop)(j a:U)(k i:Nat)(b:Array V)(d:Array Nat)(e c:Nat):Prop:=kE 63 61 63 6 (bS I).toList S j a k i b d e c
theorem QZ{a7:U}{S:Nat->Prop}{s:Nat}{k:Array V}{v:Array Nat}{I:Int}{o G:Nat}(H:oa I S j a7 w Q k v P p)(x:k[P]? =E (C (E (u o 0 J)) s G))(M:v[P]? =E s)(hi:p<s)(bF:P<4)(W:Exit->Act->U->Prop)(Z aa ao aC a5 a6 ab ad ae af ag ah ai aj ak am ap ar au av aw ax ay az aA aB aD aE aF aG aH aI aJ aK aL aN aO aP aQ aR aS aT bh bi bk bl bm bn bo aU aW aX aY aZ a0 a1 a2 a3 a4:V)
  (Y:∀(bp bq br bs bt bu bv:V) (e:U),Hid (oa I S j e w Q k v P (p+1))->W .normal ⟨#[Z,aa,ao,aC,g (E (u w 0 J)),C (E (u Q 0 J)) 4 4,F K (P:Int),F K (p:Int),a5,a6,ab,ad,ae,af,ag,ah,ai,aj,ak,am,ap,ar,au,av,aw,ax,ay,az,aA,aB,aD,aE,aF,aG,aH,aI,aJ,aK,aL,aN,aO,aP,aQ,aR,aS,aT,bp,bq,br,bs,bt,bu,bv,aU,aW,aX,aY,aZ,a0,a1,a2,a3,a4],[]⟩ e):
  Code.wp h (DW 8) W ⟨#[Z,aa,ao,aC,g (E (u w 0 J)),C (E (u Q 0 J)) 4 4,F K (P:Int),F K (p:Int),a5,a6,ab,ad,ae,af,ag,ah,ai,aj,ak,am,ap,ar,au,av,aw,ax,ay,az,aA,aB,aD,aE,aF,aG,aH,aI,aJ,aK,aL,aN,aO,aP,aQ,aR,aS,aT,bh,bi,bk,bl,bm,bn,bo,aU,aW,aX,aY,aZ,a0,a1,a2,a3,a4],[]⟩ a7:=by
 conv=>arg 4;dsimp only
 conv=>arg 2;whnf
 have T:=l Y;clear Y
 refine vR (n:=63) (λe=>oa I S j e w Q k v P p) (λe X=>oa I S j e w Q k v P (p+1)->oa I S j X w Q k v P (p+1)) (λi n e=>match i with
  |0=>n=C (E (u Q 0 J)) 4 4
  |1=>n=F K (P:Int)
  |2=>n=g (E (u Q P J))
  |3=>n=C (E (u o 0 J)) s G
  |4=>n=F K (p:Int)
  |5=>n=t (bS I)
  |6=>n=g (E ⟨o,p* 6,J⟩)
  |7=>oa I S j e w Q k v P (p+1)
  |_=>True) (by kernel_rfl) rfl (by kernel_rfl) (λi n e X k O=>?_) ?_ ?_ (H.drewN 1)
 .revert O
  repeat' split
  all_goals first|exact id|exact k
 .intro i bd c e N r d hd;have bE:i<8:=(Array.getElem?_eq_some_iff.1 N).1;have y:c.eval (.tmp 4)=g (E (u w 0 J)):=r.rest 4 (by kernel_rfl);have z:c.eval (.tmp 5)=C (E (u Q 0 J)) 4 4:=r.rest 5 (by kernel_rfl);have A:c.eval (.tmp 6)=F K (P:Int):=r.rest 6 (by kernel_rfl);have B:c.eval (.tmp 7)=F K (p:Int):=r.rest 7 (by kernel_rfl);clear T r;have bb:i=0\/i=1\/i=2\/i=3\/i=4\/i=5\/i=6\/i=7:=by omega
  obtain rfl|rfl|rfl|rfl|rfl|rfl|rfl|rfl:=bb
  all_goals
   replace N:=bD (show E _=E bd from N);subst N
  .clear hd;refine dR _ rfl ?_;exact⟨_,rfl,d,id,z⟩
  .clear hd;refine dR _ rfl ?_;exact⟨_,rfl,d,id,A⟩
  .have bw:c.tmps[46]?.getD undef=C (E (u Q 0 J)) 4 4:=by simpa using (show c.tmps.getD 46 undef=_ from hd ⟨0,.data⟩ (by simp) rfl)
   have bx:c.tmps[47]?.getD undef=F K (P:Int):=by simpa using (show c.tmps.getD 47 undef=_ from hd ⟨1,.data⟩ (by simp) rfl)
   have bf:(0:Int)<=P:=by omega
   have bg:(P:Int)<4:=by omega
   have a:=l d;clear hd y z A B H d x M;go_simp
   first|exact b a|exact⟨b a,rfl⟩|exact⟨_,rfl,b a,id,rfl⟩|exact⟨_,rfl,b a,rfl⟩|exact⟨_,rfl,b a⟩
  .have bz:c.tmps[48]?.getD undef=g (E (u Q P J)):=by simpa using (show c.tmps.getD 48 undef=_ from hd ⟨2,.data⟩ (by simp) rfl)
   have bC:e.cell? (u Q P J)=E (C (E (u o 0 J)) s G):=(d.kF.T P).trans x;have a:=l d;clear hd y z A B H d x M;go_simp
   first|exact b a|exact⟨b a,rfl⟩|exact⟨_,rfl,b a,id,rfl⟩|exact⟨_,rfl,b a,rfl⟩|exact⟨_,rfl,b a⟩
  .clear hd;refine dR _ rfl ?_;exact⟨_,rfl,d,id,B⟩
  .clear hd;refine wp_load_mid _ _ rfl w 0 y (bS I).toList pV (d.sD.range 0 _ (λi n O=>by rw[bK];simpa using O)) qY (by kernel_rfl) (by kernel_rfl) ?_;exact⟨_,rfl,d,id,rfl⟩
  .have bA:c.tmps[49]?.getD undef=C (E (u o 0 J)) s G:=by simpa using (show c.tmps.getD 49 undef=_ from hd ⟨3,.data⟩ (by simp) rfl)
   have bB:c.tmps[50]?.getD undef=F K (p:Int):=by simpa using (show c.tmps.getD 50 undef=_ from hd ⟨4,.data⟩ (by simp) rfl)
   have bf:(0:Int)<=p:=by omega
   have bg:(p:Int)<(s:Int):=by omega
   have a:=l d;clear hd y z A B H d x M;go_simp
   first|exact b a|exact⟨b a,rfl⟩|exact⟨_,rfl,b a,id,rfl⟩|exact⟨_,rfl,b a,rfl⟩|exact⟨_,rfl,b a⟩
  .have a9:c.eval (.tmp 52)=g (E ⟨o,p* 6,J⟩):=hd ⟨6,.data⟩ (by simp) rfl;have a8:c.eval (.tmp 51)=t (bS I):=hd ⟨5,.data⟩ (by simp) rfl;obtain⟨bc,R⟩:=d.put (Ma I) x M hi;refine wp_store_mid _ _ _ rfl o (p* 6) (bS I) a9 a8 bc (by kernel_rfl) (all_oneCell_toArray (wI I)) ?_;exact⟨undef,rfl,R.BZ,λ_=>R,R⟩
 .intro c e r d hF;have ba:=hF 7 (by decide);rw[r.lit];simp only[oW,oX,jT,nM,oY,nN,nO];exact(b T) _ _ _ _ _ _ _ e ba
def tp(lv b a:V):Array V:=#[lv,b,a]
structure xJ (w w':U) (yb L:Nat) (lv xv ov l:V) (xs:List V) (xv':V) (rb:Nat) (hs:Array V):Prop where
 e:X w' yb (tp lv xv' ov) 34
 row:w'.ownsRow 0 60 1 xv' (L+1) (xs++[C (E (u rb 0 J)) 4 4])
 box:X w' rb hs 61
 size:hs.size=4
 each:∀(j:Nat) (v:V),hs[j]? =E v->∃m,bp 63 6 w' v m/\iD 6 (bS L).toList w' v m/\m<=1000000/\∀g,v.ownBlock=E g->g≠rb/\g≠yb/\xv'.ownBlock≠E g/\(l.ownBlock=E g\/w.heap.size<=g)
 uJ:w.heap.size<=rb/\xv'.ownBlock≠E rb
 own:∀g,xv'.ownBlock=E g->g≠yb/\(xv.ownBlock=E g\/w.heap.size<=g)
 mod:G (λg=>g=yb\/l.ownBlock=E g\/xv.ownBlock=E g) w w'
theorem Q7{I k x:U}{lv H o ag ah ai s:V}{az:Nat}(aC:o=C B P az)(hy:X j Q (tp lv W H) 34)(R:G No j I)(aK:w<I.heap.size)(av:j.ownsRow 0 60 1 W p n)(N:∀a,o.ownBlock=E a->a≠Q/\W.ownBlock≠E a)(ad:W.ownBlock≠E Q)(r:oa p (λa=>o.ownBlock=E a) I k w S #[o,ag,ah,ai] #[P,P+1,P+2,P+3] 4 0)(aD:∀a,o.ownBlock=E a->a<j.heap.size)(aH:I.heap.size<=S)(aG:P+3<=1000000)
  (ar:x.ownsRow 0 60 1 s (p+1) (n++[C (E (u S 0 J)) 4 4]))(aj:(k.alloc (m #[C (E (u S 0 J)) 4 4] 60)).grownBy x W.ownBlock)(au:fm (k.alloc (m #[C (E (u S 0 J)) 4 4] 60)) W s):xJ j (x.setCell (u Q 1 J) s) Q p lv W H o n s S #[o,ag,ah,ai]:=by
 have aJ:=hy.lt;have ab:=λae M=>fE av ae M;have aE:=R.size;have aF:=r.mod.size;have aI:=r.kF.lt;have af:G (λa=>W.ownBlock=E a) k x:=((G.refl _ k).alloc _).grown aj (λae M=>.inl M);have A:G (λa=>W.ownBlock=E a\/a=Q) k (x.setCell (u Q 1 J) s):=(af.mono (λ_ _ i=>.inl i)).trans ((G.refl _ _).setCell (p:=u Q 1 J) (.inl (.inr rfl)) _)
 have ax:X k Q (tp lv W H) 34:=r.mod.e (R.e hy (λi=>i)) (λb=>(N Q b).1 rfl);have aw:X x Q (tp lv W H) 34:=af.e ax ad;have aa:W.ownBlock≠E S:=λb=>by have:=ab S b;omega
 have y:∀a,s.ownBlock=E a->a≠Q/\(W.ownBlock=E a\/k.heap.size<a):=λa d=>by
  obtain c|c:=au a d
  .exact⟨λb=>ad (by rw[<-b];exact c),.inl c⟩
  .rw[bW] at c;exact⟨by omega,.inr (by omega)⟩
 refine⟨?_,jh ar (a:=u Q 1 J) (λb=>(y Q b).1 rfl) _,A.e r.kF ?_,rfl,λl Z O=>?_,⟨by omega,λb=>?_⟩,λa d=>⟨(y a d).1,(y a d).2.imp id (λc=>by omega)⟩,?_⟩
 .exact aw.set 1 s
 .rintro(b|b)
  .exact aa b
  .omega
 .have ak:l<4:=(Array.getElem?_eq_some_iff.1 O).1;have ap:∃e,(#[P,P+1,P+2,P+3]:Array Nat)[l]? =E e:=⟨_,da (by simpa using ak)⟩;obtain⟨e,v⟩:=ap;obtain⟨T,Y⟩:=r.sl l Z e O v;have ay:=r.full l Z e (by omega) O v;have z:∀a,Z.ownBlock=E a->¬(W.ownBlock=E a\/a=Q):=λa d b=>by
   obtain⟨_,_,c⟩:=Y a d;obtain b|b:=b
   .obtain c|c:=c
    .exact(N a c).2 b
    .have:=ab a b;omega
   .obtain c|c:=c
    .exact(N a c).1 b
    .omega
  have ao:e<=1000000:=by
   have am:l=0\/l=1\/l=2\/l=3:=by omega
   obtain rfl|rfl|rfl|rfl:=am
   .obtain rfl:=bD (show E P=E e from v);omega
   .obtain rfl:=bD (show E (P+1)=E e from v);omega
   .obtain rfl:=bD (show E (P+2)=E e from v);omega
   .obtain rfl:=bD (show E (P+3)=E e from v);omega
  refine⟨e,T.mod A z,ay.mod A (λa d=>⟨T.lt a d,z a d⟩),ao,λa d=>⟨(Y a d).2.1,λb=>z a d (.inr b),λb=>?_,(Y a d).2.2.imp id (λc=>by omega)⟩⟩;obtain c|c:=(y a b).2
  .exact z a d (.inl c)
  .have:=T.lt a d;omega
 .obtain c|c:=(y S b).2
  .exact aa c
  .omega
 .have aA:=(R.trans (S:=No) (G.refl _ _)).mono (S':=λa=>a=Q\/o.ownBlock=E a\/W.ownBlock=E a) (λ_ _ i=>i.elim);exact(aA.trans (r.mod.mono (λ_ _ i=>.inr (.inl i)))).trans (A.mono (λ_ _ i=>i.elim (λaB=>.inr (.inr aB)) .inl))
theorem Gp{w:U}{lv ov:V}(hy:X w Q (tp lv W ov) 34)(aG:w.ownsRow 0 60 1 W S n)(ax:S<=1099511627776)(aB:bp 63 6 w (C B P p) P)(aD:P+3<=1000000)(a3:∀a,(C B P p).ownBlock=E a->a≠Q/\W.ownBlock≠E a)(a5:W.ownBlock≠E Q):Calls h 66 #[g (E (u Q 1 J)),C B P p] w λr w'=>r=q (aq #[])/\∃bF e bx,xJ w w' Q S lv W ov (C B P p) n bF e bx:=by
 obtain⟨ar,au,rfl⟩:=aR aG;have bH:w.cell? (u Q 1 J)=E (C ar S au):=hy.T 1;have a9:=hy.lt;have a0:=l (X.new w (bS S) 63);have aC:G No w (w.alloc (m (bS S) 63)):=(G.refl _ w).alloc _;have am:=l aC;have ak:=l (aB.mod aC (λ_ _ v=>v));have I:=l aB.lt;have aX:=l hy;have aT:=l aG;have aa:=l a3;have aW:=l a5;have ap:=l (show w.heap.size<(w.alloc (m (bS S) 63)).heap.size from by simp)
 obtain⟨i,ad⟩:∃i,i=C B P p:=⟨_,rfl⟩;have bd:=l ad;rw[<-ad] at ak I aa;unfold tp at hy;clear hy aG aB a3 a5 aC;have bc:=l ax;go_enter func66,ntmps66;rw[<-ad];clear ad;go_upto_region 1 with fail;have a1:(w.alloc (m #[F K 0,F K 0,F K 9,F K (S:Int),F K 0,F K 0] 63))=w.alloc (m (bS S) 63):=rfl;rw[a1];clear a1;generalize w.alloc (m (bS S) 63)=A at *;generalize aH:w.heap.size=ag at *;have bg:=l aH
 clear bH a9 aH;refine Nt (b a0) (b ak) aD (λa j=>pG ((b I) a j)) _ _ _ _ _ _ _ _ _ _ _ _ _ _ _ _ _ _ _ _ _ _ _ _ _ _ _ _ _ _ _ _ _ _ _ _ _ _ _ _ _ _ _ _ _ _ _ _ _ _ _ _ _ _ _ _ _ _ _ _ _ _ ?_;intro bZ b0 b1 b2 b3 b4 b5 b6 b7 b8 b9 ca cb cc cd ce cf e T Y Z ao aN;obtain⟨a7,ba,a6,a8,rn,N,O,R⟩:=b aN;have bi:=l (λa j=>Nat.lt_trans ((b I) a j) (b ap):∀a,i.ownBlock=E a->a<A.heap.size)
 have aL:=l (show oa S (λa=>i.ownBlock=E a) A ao ag e #[i,T,Y,Z] #[P,P+1,P+2,P+3] 0 0 from⟨a7,ba,a8,λx z d M k=>by
  have a2:x<4:=(Array.getElem?_eq_some_iff.1 M).1
  have aH:=b ap
  have af:∀(s:V) (aJ:Nat),bp 63 6 ao s aJ->(∀a,s.ownBlock=E a->a≠e/\(i.ownBlock=E a\/A.heap.size<=a))->bp 63 6 ao s aJ/\∀a,s.ownBlock=E a->a≠ag/\a≠e/\(i.ownBlock=E a\/A.heap.size<=a):=λs aJ bs aw=>⟨bs,λa j=>⟨λr=>by
   obtain c|c:=(aw a j).2
   .have:=(b I) a c;omega
   .omega,(aw a j).1,(aw a j).2⟩⟩
  have aA:x=0\/x=1\/x=2\/x=3:=by omega
  obtain rfl|rfl|rfl|rfl:=aA
  .obtain rfl:=bD (show E i=E z from M)
   obtain rfl:=bD (show E P=E d from k)
   exact af _ _ a6 (λa j=>⟨λr=>by have:=(b bi) a j;omega,.inl j⟩)
  .obtain rfl:=bD (show E T=E z from M)
   obtain rfl:=bD (show E (P+1)=E d from k)
   exact af _ _ N.1 N.2
  .obtain rfl:=bD (show E Y=E z from M)
   obtain rfl:=bD (show E (P+2)=E d from k)
   exact af _ _ O.1 O.2
  .obtain rfl:=bD (show E Z=E z from M)
   obtain rfl:=bD (show E (P+3)=E d from k)
   exact af _ _ R.1 R.2,λx z d a2=>absurd a2 (fK _),λz _=>iD.zero⟩)
 have bf:=l rn;clear a7 ba a6 a8 rn N O R aN ak a0;have aO:=l aD;clear aD ax;go_wp2_with fail;go_loopw [6] (λbC wr=>∃c:Nat,bC=F K (c:Int)/\c<=4/\Hid (oa S (λa=>i.ownBlock=E a) A wr ag e #[i,T,Y,Z] #[P,P+1,P+2,P+3] c 0)) (λaK _=>4 - (intOf aK).toNat)
 case atStart=>exact⟨0,rfl,by omega,aL⟩
 case round=>
  obtain⟨c,rfl,bT,y⟩:=hrel;clear aL;by_cases aF:c<4
  .have bw:(c:Int)<4:=by omega
   have bU:(0:Int)<=c:=by omega
   have bV:K.wrap ((c:Int)+1)=((c+1:Nat):Int):=by rw[bh _ (by omega) (by omega)];rfl
   obtain⟨av,az⟩:∃av,(#[i,T,Y,Z]:Array V)[c]? =E av:=⟨_,da (by simpa using aF)⟩;obtain⟨d,k⟩:∃d,(#[P,P+1,P+2,P+3]:Array Nat)[c]? =E d:=⟨_,da (by simpa using aF)⟩;have bR:d<=1000000:=by
    have:=b aO;have aA:c=0\/c=1\/c=2\/c=3:=by omega
    obtain rfl|rfl|rfl|rfl:=aA
    .obtain rfl:=bD (show E P=E d from k);omega
    .obtain rfl:=bD (show E (P+1)=E d from k);omega
    .obtain rfl:=bD (show E (P+2)=E d from k);omega
    .obtain rfl:=bD (show E (P+3)=E d from k);omega
   obtain⟨bk,bm,rfl⟩:=((b y).sl c av d az k).1.slice;have ai:=l az;have aj:=l k;clear az k;go_upto_region 5 with fail;go_upto_block 2 with fail;go_wp2_with fail;go_loopw [7] (λbE wr=>∃o:Nat,bE=F K (o:Int)/\o<=d/\Hid (oa S (λa=>i.ownBlock=E a) A wr ag e #[i,T,Y,Z] #[P,P+1,P+2,P+3] c o)) (λaK _=>d - (intOf aK).toNat)
   case atStart=>exact⟨0,rfl,by omega,y⟩
   case round=>
    obtain⟨o,rfl,hi,H⟩:=hrel;have bl:wr.cell? (u e c J)=E (C bk d bm):=((b H).kF.T c).trans (b ai);have bn:=(b H).kF.lt;by_cases bu:o<d
    .have bt:(o:Int)<(d:Int):=by omega
     have bP:(0:Int)<=o:=by omega
     have bQ:K.wrap ((o:Int)+1)=((o+1:Nat):Int):=by rw[bh _ (by omega) (by omega)];rfl
     have aZ:=l (((b H).sl c _ d (b ai) (b aj)).1.block (by omega));go_upto_region 8 with fail;obtain⟨a,bM,bO,bo,_⟩:=b aZ;injection bo with bq _ br;subst bq br;refine QZ (b H) (b ai) (b aj) bu aF _ _ _ _ _ _ _ _ _ _ _ _ _ _ _ _ _ _ _ _ _ _ _ _ _ _ _ _ _ _ _ _ _ _ _ _ _ _ _ _ _ _ _ _ _ _ _ _ _ _ _ _ _ _ _ _ _ _ _ _ ?_;intro cg ch ci cj ck cl cm bI ah;clear bl bn aZ;go_wp2
     exact⟨⟨o+1,rfl,by omega,ah⟩,by simp[intOf];omega⟩
    .have bt:¬(o:Int)<(d:Int):=by omega
     obtain rfl:o=d:=by omega
     have ah:=l ((b H).next (b aj));go_wp2;exact⟨⟨c+1,rfl,by omega,ah⟩,by simp[intOf];omega⟩
  .have bw:¬(c:Int)<4:=by omega
   obtain rfl:c=4:=by omega
   have ab:=l ((b y).mod.e ((b am).e (b aX) (λv=>v)) (λr=>((b aa) Q r).1 rfl));have aU:=l ((b y).mod.owns ((b am).owns (b aT) (λ_ _ v=>v)) (λbA bv r=>((b aa) bA r).2 bv));have cn:wr.cell? (u Q 1 J)=E (C ar S au):=(b ab).T 1;have a9:=(b ab).lt;have aI:G No wr (wr.alloc (m #[C (E (u e 0 J)) 4 4] 60)):=(G.refl _ _).alloc _;have aP:=l (aI.owns (b aU) (λ_ _ v=>v));have aY:=l (aI.e (b ab) (λv=>v))
   have aS:=l (show Reads (wr.alloc (m #[C (E (u e 0 J)) 4 4] 60)) (C (E (u wr.heap.size 0 J)) 1 1) 1 [C (E (u e 0 J)) 4 4] from .inr ⟨(u wr.heap.size 0 J),1,rfl,λx s hu=>by
    rw[dE,bK,(X.new wr #[C (E (u e 0 J)) 4 4] 60).T,<-dy]
    exact hu⟩)
   have aQ:=l (show ∀s∈[C (E (u e 0 J)) 4 4],s.oneCell'=true from λs hu=>by simp at hu;subst hu;rfl);obtain⟨bz,bB,N,O,R⟩:=fq L8;have ax:=b bc;clear aI ab aU
   go_wp2_with (at_builtin;refine fJ rfl (.tmp 57) (.tmp 59) 29 rfl 60 bz _ 1 24 underlying29 bB N O R rfl (by decide) (C ar S au) S n (by simp[aM]) (by exact b aP) (C (E (u wr.heap.size 0 J)) 1 1) 1 [C (E (u e 0 J)) 4 4] (by simp[aM]) (by exact b aS) rfl (b aQ) (by unfold maxLen;omega) (by omega) ?_;intro bX bY aE ay a4;obtain⟨bJ,bL,rfl⟩:=aR aE;have ae:=X.grown (b aY) ay (λr=>(b aW) r.symm);have co:=ae.T 1;have cq:=ae.lt;have cp:=ae.aC)
   have bb:=l (Q7 (b bd) (b aX) (b am) (b ap) (b aT) (b aa) (b aW) (b y) (λa j=>by rw[b bg];exact(b I) a j) (b bf) (b aO) aE ay a4);clear aE ay a4 ae aP aS aY aQ y;go_wp2;go_end0;exact⟨rfl,_,_,_,b bb⟩
def xK(a:Nat):V:=C (E (u a 0 J)) 4 4
structure gX (w:U) (F:Nat->Prop) (xv:V) (ls:List Nat):Prop where
 row:w.ownsRow 0 60 1 xv ls.length (ls.map xK)
 lZ:∀g,xv.ownBlock=E g->¬F g
 each:∀i (h:i<ls.length),¬F ls[i]/\xv.ownBlock≠E ls[i]/\∃hs:Array V,X w ls[i] hs 61/\hs.size=4/\∀(j:Nat) (v:V),hs[j]? =E v->∃m,bp 63 6 w v m/\iD 6 (bS i).toList w v m/\m<=1000000/\∀g,v.ownBlock=E g->¬F g/\xv.ownBlock≠E g
theorem gX.nil(d:U)(a:Nat->Prop):gX d a (C J 0 0) []:=⟨dx _ _ _ _,λe c=>by simp[aV] at c,λi b=>absurd b (fK _)⟩
theorem gX.mod{w w':U}{F':Nat->Prop}(d:gX w N W k)(e:G N w w')(hF:∀j,j<w.heap.size->F' j->N j):gX w' F' W k:=by
 have y:=λa b=>fE d.row a b;refine⟨e.owns d.row d.lZ,λa b c=>d.lZ a b (hF a (y a b) c),λz hi=>?_⟩;obtain⟨n,p,v,o,r,s⟩:=d.each z hi;refine⟨λc=>n (hF _ o.lt c),p,v,e.e o n,r,λA M x=>?_⟩;obtain⟨B,l,H,I,i⟩:=s A M x;exact⟨B,l.mod e (λa b=>(i a b).1),H.mod e (λa b=>⟨l.lt a b,(i a b).1⟩),I,λa b=>⟨λc=>(i a b).1 (hF a (l.lt a b) c),(i a b).2⟩⟩
theorem gX.more{S w':U}{F':Nat->Prop}{T lv ad R:V}(p:gX j N W k)(P:G No j S)(hd:xJ S w' w k.length lv W ad R (k.map xK) T Q I)(hy:N w)(O:∀a,R.ownBlock=E a->j.heap.size<=a)(hF:∀l,F' l->l<j.heap.size/\N l):gX w' F' T (k++[Q]):=by
 have aj:=λa d=>fE p.row a d;have ai:=P.size
 have x:G (λa=>a=w\/W.ownBlock=E a) j w':=(P.mono (S':=λa=>a=w\/W.ownBlock=E a) (λ_ _ ae=>ae.elim)).trans' hd.mod (λl aa ag=>by
  obtain c|c|c:=aa
  .exact .inl c
  .have:=O l c;omega
  .exact .inr c)
 refine⟨?_,λa d b=>?_,λi hi=>?_⟩
 .rw[bG,qK];exact hd.row
 .obtain⟨af,X⟩:=hF a b;obtain c|c:=(hd.own a d).2
  .exact p.lZ a c X
  .omega
 .by_cases M:i<k.length
  .rw[sW M];obtain⟨A,B,ab,H,Y,Z⟩:=p.each i M;have ah:=H.lt;have f1:¬(k[i]=w\/W.ownBlock=E k[i]):=by
    rintro(b|b)
    .exact A (b ▸ hy)
    .exact B b
   refine⟨λb=>A (hF _ b).2,λb=>?_,ab,x.e H f1,Y,λs o r=>?_⟩
   .obtain c|c:=(hd.own _ b).2
    .exact B c
    .omega
   .obtain⟨v,n,y,z,e⟩:=Z s o r;have f2:∀a,o.ownBlock=E a->¬(a=w\/W.ownBlock=E a):=λa d b=>by
     obtain b|b:=b
     .exact(e a d).1 (b ▸ hy)
     .exact(e a d).2 b
    refine⟨v,n.mod x f2,y.mod x (λa d=>⟨n.lt a d,f2 a d⟩),z,λa d=>⟨λb=>(e a d).1 (hF a b).2,λb=>?_⟩⟩;obtain c|c:=(hd.own _ b).2
    .exact(e a d).2 c
    .have:=n.lt a d;omega
  .obtain rfl:i=k.length:=by simp at hi;omega
   have a:(k++[Q])[k.length]'hi=Q:=by simp
   rw[a];refine⟨λb=>by have:=(hF Q b).1;have:=hd.uJ.1;omega,hd.uJ.2,I,hd.box,hd.size,λs o r=>?_⟩;obtain⟨v,n,y,z,e⟩:=hd.each s o r;refine⟨v,n,y,z,λa d=>⟨λb=>?_,(e a d).2.2.1⟩⟩;have:=(hF a b).1;obtain c|c:=(e a d).2.2.2
   .have:=O a c;omega
   .omega
theorem gX.at(c:gX j N W k)(hi:w<k.length):∃a b i,W=C (E (u a 0 J)) k.length b/\a<j.heap.size/\k[w]? =E i/\j.cell? (u a w J)=E (C (E (u i 0 J)) 4 4):=by
 have l:=c.row;obtain⟨o,p|⟨e,b,n,d,_⟩⟩:=c.row
 .omega
 .refine⟨e,b,k[w],d,fE c.row e (by rw[d];rfl),du hi,?_⟩;have:=l.cells (by rw[d];rfl) w (xK k[w]) (by rw[qC,du hi];rfl);rw[dE,bK] at this;exact this
theorem gX.head{e:U}(r:gX e N W k)(y:k[w]? =E P)(M:Q<4):∃a d i,d<=1000000/\P<e.heap.size/\e.cell? (u P Q J)=E (C a d i)/\∀j,j<d->∃c,a=E (u c 0 J)/\c<e.heap.size/\e.rangeAt c (j* 6) (bS w).toList:=by
 obtain⟨hi,b⟩:=List.getElem?_eq_some_iff.1 y;obtain⟨_,_,z,l,I,s⟩:=r.each w hi;rw[b] at l;obtain⟨n,o⟩:∃n,z[Q]? =E n:=⟨_,da (by omega)⟩;obtain⟨d,p,A,B,_⟩:=s Q n o;obtain⟨a,i,rfl⟩:=p.slice;refine⟨a,d,i,B,l.lt,(l.T Q).trans o,λj x=>?_⟩;obtain⟨c,G,H,b,v,_⟩:=p.block (by omega);injection b with b _ _;exact⟨c,b,v.lt,A c (by rw[b];rfl) j x⟩
end Go.Proofs.YthhibagcpjeihaaGreat
