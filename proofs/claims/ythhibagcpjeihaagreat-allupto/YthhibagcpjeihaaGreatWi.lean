import Derived.Test.YthhibagcpjeihaaGreatWh
import Derived.Test.YthhibagcpjeihaaGreatWf
open Go.Proofs.Tryz
open Go.Addr renaming mk->u,add_mid->dE
open Go.Value renaming int->F,pointer->g,slice->C,bool->L,agg->t,tuple->aq,ownBlock->aV
open Go.IntKind renaming i64->K
open Option renaming none->J,some->E
open Go renaming World->U,Value->V
open Go.Proofs.Tryz renaming prog->h
open Go.Ending renaming returned->q
open Go.Obj renaming cells->m
open Go.Instr renaming typeAssert->eb
open And renaming intro->gE
set_option linter.unusedVariables false
set_option linter.unusedSimpArgs false
set_option maxRecDepth 100000
set_option maxHeartbeats 4000000
namespace Go.Proofs.YthhibagcpjeihaaGreat
open Go.RowKit
open M
theorem Fk:∀(b:List z) (j a:Nat) (d:j<b.length) (c:a<6),(b.flatMap eS)[j* 6+a]? =(eS b[j])[a]?
 |x::b,0,a,_,c=>by
  rw[jE,vJ,bK,vK (by simpa [eS] using c)];rfl
 |x::b,j+1,a,d,c=>by
  rw[jE,tS (by simp[eS];omega)];have:=Fk b j a (by simpa using d) c;rw[show(j+1)* 6+a - (eS x).length=j* 6+a by simp[eS];omega,this];rfl
variable {o:U} {w Q P:Nat} {p S:Int} {j:List z} {k:Nat->Nat} {I:Nat->Option Nat} {v:List (Int×V)} {W:aH} {N:List aD} {B:aD} {R:Nat->Prop} {i:V} {n:List Int}
theorem Fl{a:Option Addr}{c:List z}(k:o.ownsRow 0 202 6 (C a w Q) c.length (c.flatMap eS))(j:Nat)(r:j<c.length):∃b,a=E (u b 0 J)/\b<o.heap.size/\o.cell? ⟨b,j* 6,J⟩=E (F K c[j].row)/\o.cell? ⟨b,j* 6+1,J⟩=E (F K c[j].ae)/\o.cell? ⟨b,j* 6+2,J⟩=E (F K c[j].st)/\o.cell? ⟨b,j* 6+3,J⟩=E (F K c[j].pa)/\o.cell? ⟨b,j* 6+4,J⟩=E (F K c[j].cl)/\o.cell? ⟨b,j* 6+5,J⟩=E (F K c[j].un):=by
 have p:=k;obtain⟨B,G⟩|⟨b,v,x,l,H⟩:=k.2
 .omega
 .injection l with i y A;have d:=λe (s:e<6) n (l:(eS c[j])[e]? =E n)=>k.cells (by rw[i];rfl) (j* 6+e) n (by rw[Fk c j e r s];exact l);refine⟨b,i,(p.lt b (by rw[i];rfl)).2,?_,?_,?_,?_,?_,?_⟩
  .have:=d 0 (by omega) _ rfl;rw[dE] at this;simpa using this
  all_goals first
   |(have:=d 1 (by omega) _ rfl;rw[dE,bK] at this;exact this)
   |(have:=d 2 (by omega) _ rfl;rw[dE,bK] at this;exact this)
   |(have:=d 3 (by omega) _ rfl;rw[dE,bK] at this;exact this)
   |(have:=d 4 (by omega) _ rfl;rw[dE,bK] at this;exact this)
   |(have:=d 5 (by omega) _ rfl;rw[dE,bK] at this;exact this)
def iZ(p:O)(a:List z)(c:List z):List z:=c.foldl (λa b=>a.set (p.idx b.row b.ae) b) a
theorem Pl(p:O)(b c:List z)(a:z):iZ p b (c++[a])=(iZ p b c).set (p.idx a.row a.ae) a:=by
 unfold iZ;rw[sI];rfl
theorem Pm(p:O)(b:List z):∀a,(iZ p b a).length=b.length:=by
 intro a;unfold iZ
 induction a generalizing b with
 |nil=>rfl
 |cons d a c=>rw[jT,c,kH]
def xu(p:O)(a:z):Prop:=a.wf/\p.e a.row a.ae=true
theorem Af{p:O}:∀(d:List z) {b:List z},aJ p b->(∀c∈d,xu p c)->aJ p (iZ p b d)
 |[],b,a,_=>a
 |c::d,b,a,j=>by
  have e:=j c (by simp);have hi:p.idx c.row c.ae<b.length:=bV.wf.jP a e.2;have i:=bV.wf.qA a e.2;exact Af d (aJ.set a hi e.1 i.1.symm i.2.symm) (λl k=>j l (by simp[k]))
theorem cF.Pn{S:Nat->Prop}{p:O}(l:cF o S w p j)(a:Int):cF (o.setCell (u w 24 J) (F K a)) S w (p.at a) j/\G S o (o.setCell (u w 24 J) (F K a)):=by
 obtain⟨s,k,i,c,d,n,b,e,r⟩:=l;refine⟨⟨s,k,i,c.set 24 _,by rw[Below.heap_setCell _ _ _ _ (by exact c.pJ d)];exact d,n,?_,e,r⟩,(G.refl _ o).setCell (p:=u w 24 J) (.inl e) _⟩;exact⟨b.1,b.2,b.3⟩
theorem cF.Po{S:Nat->Prop}{p:O}(b:cF o S w p j):o.cell? (u w 24 J)=E (F K p.ep)/\o.frozen? (u w 24 J)=false/\w<o.heap.size:=by
 obtain⟨e,d,c,a,_⟩:=b;exact⟨a.T 24,a.aC 24,a.lt⟩
theorem aJ.ep{p:O}(a:aJ p j)(b:Int):aJ (p.at b) j:=⟨a.aY,a.bI,a.len,a.place,a.dX⟩
theorem Pp{p:O}{a:Option Addr}(M:X o w (dZ 0 0 0 0 0 0 0 (.map J) 0 0 0 0 0 0 0 0 0 0 0 0 0 0 0 0 0) 164)(N:p.aY=true)(P:p.bI=true)(r:∀e∈j,xu p e)(ao:j.length<=120)(ar:o.ownsRow 0 202 6 (C a j.length Q) j.length (j.flatMap eS))(ak:∀I,(C a j.length Q).ownBlock=E I->I≠w):
  Calls h 160 #[t #[F K p.rows,F K p.y,F K p.Z,F K p.af,F K p.ag,F K p.ai,F K p.aj,C a j.length Q,F K p.ep],g (E (u w 0 J))] o λH w'=>H=q (aq #[])/\cF w' (λd=>d=w\/o.heap.size<=d) w p (iZ p (aI p) j)/\G (λd=>d=w) o w':=by
 have aP:=M.lt;have ae:=l λB (R:yI B w 0)=>yJ (p:=p) 0 R N P;have ad:=l M;have au:G No o (o.alloc (m #[F K p.rows,F K p.y,F K p.Z,F K p.af,F K p.ag,F K p.ai,F K p.aj,C a j.length Q,F K p.ep] 196)):=(G.refl _ _).alloc _;have aa:=l (X.new o #[F K p.rows,F K p.y,F K p.Z,F K p.af,F K p.ag,F K p.ai,F K p.aj,C a j.length Q,F K p.ep] 196);have aB:=l ar;have az:=l ak;have af:=l r;have aD:=l (oH N P)
 have ag:=l au;clear M ar ak r au N P;go_enter func160,ntmps160;go_wp2_with fail;refine((b ae) _ ⟨_,_,_,_,_,_,_,_,_,_,_,_,_,_,_,_,_,_,_,_,_,_,_,_,(b ad).alloc _⟩).mono ?_;rintro H aL ⟨rfl,f1,Y⟩;have ab:=l (f1.wide (S':=λd=>d=w\/o.heap.size<d) (λd S=>by rw[bW] at S;omega));have aG:¬o.heap.size=w:=by omega
 have k:=l (Y.e (b aa) aG);have ah:=l (((b ag).mono (S':=λd=>d=w) λ_ _ i=>i.elim).trans Y);have aF:aL.cell? (u o.heap.size 7 J)=E (C a j.length Q):=(b k).T 7;have ai:=(b k).lt;clear f1 Y ad ae aa ag;go_wp2_with fail
 go_loopw [13] (λe wr=>∃c:Nat,e=F K c/\c<=j.length/\Hid (cF wr (λd=>d=w\/o.heap.size<d) w (p.at 0) (iZ p (aI p) (j.take c)))/\Hid (G (λd=>d=w) o wr)/\Hid (X wr o.heap.size #[F K p.rows,F K p.y,F K p.Z,F K p.af,F K p.ag,F K p.ai,F K p.aj,C a j.length Q,F K p.ep] 196)) (λe _=>j.length - (intOf e).toNat)
 case atStart=>exact⟨0,rfl,by omega,ab,ah,k⟩
 case round=>
  obtain⟨c,rfl,hi,y,A,x⟩:=hrel;clear ab ah k aF ai;by_cases T:c<j.length
  .have aH:(c:Int)<(j.length:Int):=by omega
   have ap:∀d,(C a j.length Q).ownBlock=E d->¬d=w:=b az;obtain⟨I,rfl,aQ,aS,aT,aU,aW,aX,aY⟩:=Fl ((b A).owns (b aB) ap) c T;have n:=(b af) j[c] (eK T);have s:aJ p (iZ p (aI p) (j.take c)):=Af _ (b aD) (λe r=>(b af) e (sM r));have am:p.idx j[c].row j[c].ae<(iZ p (aI p) (j.take c)).length:=bV.wf.jP s n.2;have W:=bV.wf.qA s n.2
   have aA:=l λB (R:cF B (λd=>d=w\/o.heap.size<d) w (p.at 0) (iZ p (aI p) (j.take c)))=>ud R (s.ep 0) (p.idx j[c].row j[c].ae) am j[c] n.1 W.1.symm W.2.symm
   have aC:=l (show(iZ p (aI p) (j.take c)).set (p.idx j[c].row j[c].ae) j[c]=iZ p (aI p) (j.take (c+1)) by
    rw[<-Pl,mD,du T]
    rfl)
   have ay:=l ao;clear n s am W ap;generalize aK:j[c]=e at *;clear aK;go_wp2_with fail;have v:G No wr (wr.alloc (m #[F K e.row,F K e.ae,F K e.st,F K e.pa,F K e.cl,F K e.un] 202)):=(G.refl _ _).alloc _;refine((b aA) _ ((b y).bC v)).mono ?_;rintro H aZ ⟨rfl,f5,Z⟩;rw[b aC] at f5;have aw:=l f5;have aE:=l (((b A).trans (v.mono λ_ _ i=>i.elim)).trans' Z (λd S ao=>by omega))
   have av:=l (Z.e (v.e (b x) (λi=>i)) (by show ¬(o.heap.size=w\/o.heap.size<o.heap.size);omega));have aN:=b ay;clear f5 Z v;go_wp2;exact⟨⟨c+1,rfl,by omega,aw,aE,av⟩,by simp[intOf];omega⟩
  .have aH:¬(c:Int)<(j.length:Int):=by omega
   obtain rfl:c=j.length:=by omega
   have aO:wr.cell? (u o.heap.size 8 J)=E (F K p.ep):=(b x).T 8;have ai:=(b x).lt;obtain⟨f24,a0,aR⟩:=(b y).Po;have ax:=l ((b y).Pn p.ep);go_wp2_with fail;go_end0;have aj:=(b ax).1;rw[fN] at aj;exact⟨rfl,aj.wide (λd S=>by omega),(b A).at 24 _⟩
open Go.ChangeMaps (setBlock)
theorem Pq(b:V)(a:U):(eb (.iface 196 b) 123 159 true).run h a=.ok (aq #[t #[F K 0],L false]) a:=by kernel_rfl
theorem Pr(b:V)(a:U):(nilAhead 357 196 b "Do").run h a=.ok (E false) a:=by kernel_rfl
theorem Ps(a:V)(b:U):(method 357 196 a "Do").run h b=.ok (160,a) b:=by kernel_rfl
attribute [local go_sem] Pq Pr Ps
theorem Pt(d c:Nat)(ag:1<=c/\c<=20)(v:Int)(n:Nat->Option Nat)(p:O)(dP:V)(a:U)(A:U->Prop)(x:X a d (dA v n) 121)(S:n c=J)(R:∀s,G (λah=>ah=d) a s->X s d (dA v (gH n c (a.heap.size+2))) 121->X s (a.heap.size+2) (dZ 0 0 0 0 0 0 0 (.map J) 0 0 0 0 0 0 0 0 0 0 0 0 0 0 0 0 0) 164->
   Calls h 160 #[t #[F K p.rows,F K p.y,F K p.Z,F K p.af,F K p.ag,F K p.ai,F K p.aj,dP,F K p.ep],g (E ⟨a.heap.size+2,0,J⟩)] s λk w'=>k=q (aq #[])/\A w'):Calls h 44 #[g (E (u d 0 J)),t #[F K c,.iface 196 (t #[F K p.rows,F K p.y,F K p.Z,F K p.af,F K p.ag,F K p.ai,F K p.aj,dP,F K p.ep])]] a λk w'=>k=q (aq #[])/\A w':=by
 have Z:=l R;have y:G No a ((a.alloc (m #[F K c,.iface 196 (t #[F K p.rows,F K p.y,F K p.Z,F K p.af,F K p.ag,F K p.ai,F K p.aj,dP,F K p.ep])] 125)).alloc (m #[F K 0] 159)):=((G.refl _ a).alloc _).alloc _;have Q:=y.e x (λaj=>aj)
 have H:X ((a.alloc (m #[F K c,.iface 196 (t #[F K p.rows,F K p.y,F K p.Z,F K p.af,F K p.ag,F K p.ai,F K p.aj,dP,F K p.ep])] 125)).alloc (m #[F K 0] 159)) a.heap.size #[F K c,.iface 196 (t #[F K p.rows,F K p.y,F K p.Z,F K p.af,F K p.ag,F K p.ai,F K p.aj,dP,F K p.ep])] 125:=(X.new a _ _).alloc _;have j:=l Q;have z:=l y;have i:=l H
 have B:=l (show((a.alloc (m #[F K c,.iface 196 (t #[F K p.rows,F K p.y,F K p.Z,F K p.af,F K p.ag,F K p.ai,F K p.aj,dP,F K p.ep])] 125)).alloc (m #[F K 0] 159)).heap.size=a.heap.size+2 by simp);have ak:(c:Int)<21:=by omega
 have am:(0:Int)<=c:=by omega
 have ab:=l x;have aa:=l S;clear x S R y Q H;go_enter func44,ntmps44;go_upto_region 4 with fail;generalize (a.alloc (m #[F K c,.iface 196 (t #[F K p.rows,F K p.y,F K p.Z,F K p.af,F K p.ag,F K p.ai,F K p.aj,dP,F K p.ep])] 125)).alloc (m #[F K 0] 159)=o at *;have M:=(b j).T (1+c);rw[oN v n c (by omega),b aa,show bL J=g J from rfl] at M;have N:o.cell? (u a.heap.size 0 J)=E (F K c):=(b i).T 0
 have P:o.cell? (u a.heap.size 1 J)=E (.iface 196 (t #[F K p.rows,F K p.y,F K p.Z,F K p.af,F K p.ag,F K p.ai,F K p.aj,dP,F K p.ep])):=(b i).T 1;have W:=(b j).lt;have T:=(b i).lt;have af:=(b j).aC (1+c);have w:=b B;rw[w] at W T;have ad:=l (show a.heap.size≠d from λk=>by have:=(b ab).lt;omega);go_quiet (fail);go_wp2_with fail;go_region
 have ik:=C6 (w0:=o.drewN (nq+1)) ag ((b j).drewN _) ((b z).drewN _) w;have I:X (((o.drewN (nq+1)).setCell ⟨d,1+c,J⟩ (g (E ⟨a.heap.size+2,0,J⟩))).alloc (m pT 164)) a.heap.size _ _:=(((b i).drewN (nq+1)).eJ (a:=⟨d,1+c,J⟩) (b ad) _).alloc _;have e:=l ik;have r:=l I;clear ik I M N P W T af w j z i B;unfold pT at e r
 generalize ((o.drewN (nq+1)).setCell ⟨d,1+c,J⟩ (g (E ⟨a.heap.size+2,0,J⟩))).alloc (m #[F K 0,F K 0,F K 0,F K 0,F K 0,F K 0,F K 0,.map J,F K 0,F K 0,F K 0,F K 0,F K 0,F K 0,F K 0,F K 0,F K 0,F K 0,F K 0,F K 0,F K 0,F K 0,F K 0,F K 0,F K 0] 164)=Y at *;have ae:=(b e).keep.T (1+c);rw[oN v _ c (by omega),show bL (gH n c (a.heap.size+2) c)=g (E ⟨a.heap.size+2,0,J⟩) by simp[gH,bL]] at ae
 have N:Y.cell? (u a.heap.size 0 J)=E (F K c):=(b r).T 0;have P:Y.cell? (u a.heap.size 1 J)=E (.iface 196 (t #[F K p.rows,F K p.y,F K p.Z,F K p.af,F K p.ag,F K p.ai,F K p.aj,dP,F K p.ep])):=(b r).T 1;have ao:=(b e).keep.lt;have ap:=(b r).lt;go_wp2_with fail;go_region_with (go_at_call 160;refine((b Z) _ (b e).mod.drew (b e).keep.drew (b e).kY.drew).mono ?_;rintro k ar ⟨rfl,ai⟩)
 all_goals go_wp2
 all_goals go_end0
 all_goals exact⟨rfl,ai⟩
theorem Pu{y:Nat->Option (O×List z)}(d:cI o k w S I y)(e:Nat)(ao:1<=e/\e<=20)(aj:y e=J)(p:O)(T:p.aY=true)(W:p.bI=true){a:Option Addr}{l:List z}(ab:∀au∈l,xu p au)(Z:l.length<=120)(M:o.ownsRow 0 202 6 (C a l.length Q) l.length (l.flatMap eS)):Calls h 44 #[g (E (u w 0 J)),t #[F K e,.iface 196 (t (mM p (C a l.length Q)).toArray)]] o λb w'=>
   b=q (aq #[])/\oR o w' k w I S (λj=>if j=e then E (p,iZ p (aI p) l) else y j):=by
 have ap:∀v,(C a l.length Q).ownBlock=E v->v≠w:=λv r b=>by
  obtain⟨_,R|⟨ax,av,aw,R,_,ak,_⟩⟩:=M
  .rw[R.1] at r;simp[aV] at r
  .rw[R] at r;simp[aV] at r;subst r;exact d.e.ne ak (by decide) b.symm
 refine Pt w e ao S I p (C a l.length Q) o _ d.e (d.gone e (by omega) aj) (λs x B Y=>?_);have az:o.heap.size<=s.heap.size:=x.size;have ay:=Y.lt;refine(Pp Y T W ab Z (x.owns M ap) (λv r b=>by have:=(M.lt v r).2;omega)).mono ?_;rintro b w' ⟨rfl,ai,H⟩
 refine⟨rfl,⟨λc=>if c<o.heap.size then k c else if c=o.heap.size+2\/(s.heap.size<=c/\c<w'.heap.size) then e+2 else 0,gH I e (o.heap.size+2),?_,λc B=>by simp[B],λad hi=>by simp only[gH];rw[f (by omega)]⟩,?_⟩
 .have ar:w<o.heap.size:=d.e.lt;have aa:G (λc=>c=o.heap.size+2) s w':=H;have aA:s.heap.size<=w'.heap.size:=H.size;refine⟨aa.e B (by omega),by simp[ar,d.bw],λc n=>?_,λj A i=>?_,λj P N A i=>?_⟩
  .split at n
   .omega
   .split at n
    .rename_i b;obtain b|b:=b<;>omega
    .exact absurd rfl n
  .by_cases b:j=e
   .rw[D b] at i;exact absurd i (by simp)
   .rw[f b] at i;simp only[gH,f b];exact d.gone j A i
  .by_cases b:j=e
   .rw[D b] at i;simp only[wh,qP] at i;obtain⟨rfl,rfl⟩:=i;subst b;refine⟨o.heap.size+2,by simp[gH],Af _ (oH T W) ab,?_⟩;refine ai.narrow.wide (λc ⟨X,am⟩=>?_);have:¬c<o.heap.size:=by obtain b|b:=X<;>omega
    have ah:c=o.heap.size+2\/(s.heap.size<=c/\c<w'.heap.size):=by obtain b|b:=X;exact .inl b;exact .inr ⟨b,am⟩
    simp only[f this,D ah]
   .rw[f b] at i;obtain⟨b',ae,af,ag⟩:=d.here j P N A i;refine⟨b',by simp only[gH,f b];exact ae,af,?_⟩;have f1:cF s (λc=>k c=j+2) b' P N:=ag.mod x (λc n b=>by subst b;rw[d.bw] at n;omega)
    have f2:cF w' (λc=>k c=j+2) b' P N:=f1.mod aa (λc n b=>by
     subst b
     have:=d.bg _ (show k (o.heap.size+2)≠0 by omega)
     omega)
    refine f2.wide (λc n=>?_);have:=d.bg c (by omega);simp only[D this];exact n
 .refine(x.mono (λc _ (b:c=w)=>by subst b;show k c≠0/\k c<30;rw[d.bw];omega)).trans' H (λad (b:ad=o.heap.size+2) Z=>by omega)
theorem Ag{p:O}:∀(b c:List z),(∀a∈b,p.idx a.row a.ae≠w)->(iZ p c b)[w]? =c[w]?
 |[],_,_=>rfl
 |a::b,c,d=>by
  show(iZ p (c.set (p.idx a.row a.ae) a) b)[w]? =_;rw[Ag b _ (λx e=>d x (by simp[e])),List.getElem?_set_ne (d a (by simp))]
theorem Fm{p:O}{b:z}:∀(a c:List z),w<c.length->b∈a->(∀x∈a,p.idx x.row x.ae=w->x=b)->p.idx b.row b.ae=w->(iZ p c a)[w]? =E b
 |[],_,_,l,_,_=>by simp at l
 |x::a,c,hi,n,hu,j=>by
  show(iZ p (c.set (p.idx x.row x.ae) x) a)[w]? =_;by_cases d:b∈a
  .exact Fm a _ (by simpa using hi) d (λi hy=>hu i (by simp[hy])) j
  .obtain rfl:b=x:=by
    obtain e|e:=List.mem_cons.1 n
    .exact e
    .exact absurd e d
   rw[Ag a _ (λi hy k=>d (by rw[<-hu i (by simp[hy]) k];exact hy)),j,List.getElem?_set_self hi]
theorem xw{p:O}(a:aJ p j):(aI p).length=j.length:=by
 have b:=a.len;simp only at b;simp[aI];omega
theorem Pv{p:O}(b:aJ p j):iZ p (aI p) (j.filter λi=>i.st !=0)=j:=by
 apply BF;intro c;by_cases hi:c<j.length
 .have s:=bV.wf.kU b hi;simp only at s;have w:∀a (d:a<j.length),p.idx j[a].row j[a].ae=c->a=c:=λa d k=>by
   have:=(bV.wf.kU b d).2;simp only at this;omega
  rw[du hi];by_cases e:j[c].st=0
  .rw[Ag _ _ (λi o k=>by
    obtain⟨r,v⟩:=List.mem_filter.1 o
    obtain⟨a,d,rfl⟩:=kB r
    obtain rfl:=w a d k
    simp[e] at v)]
   have n:=b.place c hi;have l:=(b.dX j[c] (eK hi)).bare (.inl e);simp only at n;rw[du (by rw[xw b];exact hi)];simp only[aI,sF,CK,wh];rw[<-n.1,<-n.2];generalize j[c]=i at *;obtain⟨B,x,G,A,y,H⟩:=i;simp only at e l;rw[e,l.1,l.2.1,l.2.2]
  .exact Fm _ _ (by rw[xw b];exact hi) (List.mem_filter.2 ⟨eK hi,by simpa using e⟩) (λi o k=>by
    obtain⟨r,v⟩:=List.mem_filter.1 o
    obtain⟨a,d,rfl⟩:=kB r
    obtain rfl:=w a d k
    rfl) s.2
 .rw[tU (by rw[Pm,xw b];omega),tU (by omega)]
theorem Fo{p:O}(b:aJ p j):∀a∈j.filter (λa=>a.st !=0),xu p a:=λa e=>by
 obtain⟨c,_⟩:=List.mem_filter.1 e;obtain⟨i,d,rfl⟩:=kB c;exact⟨b.dX _ c,(bV.wf.kU b d).1⟩
theorem Pw{x fl':Nat->Option (O×List z)}(l:cI o k w p I x)(Y:0<=p/\p<=4611686018427387000)(a:aK)(hd:br p x a=(0,S,fl'))(v:Int)(T:a.kind≠8->v=a.aF):Calls h 44 #[g (E (u w 0 J)),t #[F K v,eH (aP p a)]] o λs w'=>s=q (aq #[])/\oR o w' k w I S fl':=by
 unfold br at hd;by_cases N:a.kind<1\/a.kind>9
 .rw[D N] at hd;exact absurd hd (by simp)
 rw[f N] at hd;by_cases n:a.kind=8
 .rw[D n] at hd;by_cases Q:1<=a.time/\a.time<=100
  .rw[D Q] at hd;injection hd with _ hd;injection hd with c d;subst c d;rw[zM n];exact zj w v (p+a.time) o _ (λab M=>(yR (l.mod M (λ_ _ j=>j)) (p+a.time)).mono (λs w' ⟨H,Z,B⟩=>⟨H,⟨k,I,Z,λ_ _=>rfl,λ_ _=>rfl⟩,(M.mono (λ_ _ j=>j.elim)).trans B⟩))
  .rw[f Q] at hd;exact absurd hd (by simp)
 rw[f n] at hd;by_cases P:1<=a.aF/\a.aF<=20
 case neg=>rw[D P] at hd;exact absurd hd (by simp)
 rw[f (by simpa using P)] at hd;obtain rfl:=T n;have A:((a.aF.toNat:Nat):Int)=a.aF:=by omega
 cases e:x a.aF.toNat with
 |none=>
  rw[e] at hd;simp only at hd;by_cases b:a.kind=1
  .rw[D b] at hd;by_cases r:a.c.aY=true/\a.c.bI=true
   .rw[D r] at hd;injection hd with _ hd;injection hd with c d;subst c d;rw[zL b];have:=Dd l a.aF.toNat (by omega) e a.c r.1 r.2;rw[A] at this;exact this
   .rw[f r] at hd;exact absurd hd (by simp)
  .rw[f b] at hd;exact absurd hd (by simp)
 |some j=>
  obtain⟨G,aa⟩:=j;rw[e] at hd;simp only at hd;by_cases b:a.kind=1
  .rw[D b] at hd;exact absurd hd (by simp)
  rw[f b] at hd;by_cases i:bH G aa a p=0
  .rw[D i] at hd;injection hd with _ hd;injection hd with c d;subst c d;have X:2<=a.kind/\a.kind<=9/\a.kind≠8:=by omega
   rw[zN X];by_cases y:a.kind=9
   .have:=De l a.aF.toNat (by omega) e a y i;rw[A] at this;exact this
   have:=C7 l a.aF.toNat (by omega) e Y a (by omega) i y;rw[A] at this;refine this.mono ?_;rintro s w' ⟨H,W,B⟩;have R:iG G a=G.next:=by unfold iG;rw[f y]
   rw[R];exact⟨H,⟨k,I,W,λ_ _=>rfl,λ_ _=>rfl⟩,B⟩
  .rw[f i] at hd;exact absurd (mu (·.1) hd) i
abbrev aQ:=Nat->Option (O×List z)
def xx(d:Int)(a:aQ)(i:aD)(e:Int)(fl':aQ):Prop:=
 (∃l,canon i=canon (aP d l)/\br d a l=(0,e,fl'))\/
 (canon i=qd 0 e/\(∀c,a c=J)/\fl'=a/\d<=e)\/
 (∃(b:Nat) (k:O) (j:List z),canon i=qe b k (j.filter λn=>n.st !=0)/\1<=b/\b<=20/\a b=J/\aJ k j/\e=d/\fl'=λc=>if c=b then E (k,j) else a c)
def ki:Int->aQ->List aD->Int->aQ->Prop
 |now,a,[],b,fl'=>b=now/\fl'=a
 |now,a,d::e,b,fl'=>∃c f1,xx now a d c f1/\ki c f1 e b fl'
theorem Px(a:aD)(b:1<=a.kind/\a.kind<=7):(canon a).kind=a.kind:=by
 unfold canon sX uQ uR uS uT qd qe
 repeat' split
 all_goals simp only
 all_goals omega
theorem Ah(b:Int)(a:aK):1<=(aP b a).kind/\(aP b a).kind<=6:=by
 unfold aP;simp only
 repeat' split
 all_goals omega
theorem Py(c:aD)(j:1<=c.kind/\c.kind<=6):eH (canon c)=eH c:=by
 unfold canon;by_cases a:c.kind=1
 .rw[D a];unfold eH;rw[D a];rfl
 by_cases b:c.kind=2
 .rw[f a,D b];unfold eH;rw[f a,D b];rfl
 by_cases d:c.kind=3
 .rw[f a,f b,D d];unfold eH;rw[f a,f b,D d];rfl
 by_cases e:c.kind=4
 .rw[f a,f b,f d,D e];unfold eH;rw[f a,f b,f d,D e];rfl
 by_cases i:c.kind=5
 .rw[f a,f b,f d,f e,D i];unfold eH;rw[f a,f b,f d,f e,D i];rfl
 .rw[f a,f b,f d,f e,f i,D (by omega)];unfold eH;rw[f a,f b,f d,f e,f i];rfl
theorem Pz(b:Int)(a:aK)(c:a.kind≠8):(canon (aP b a)).fl=a.aF:=by
 have d:(aP b a).kind≠6:=by
  unfold aP;simp only
  repeat' split
  all_goals omega
 unfold canon sX uQ uR uS uT qd qe
 repeat' split
 all_goals first|rfl|contradiction
theorem PC{l fl':aQ}(r:cI o k w p I l)(T:0<=p/\p<=4611686018427387000)(W:xx p l B S fl')(a:dV o Q i (canon B)):Calls h 44 #[g (E (u w 0 J)),t #[F K (canon B).fl,i]] o λs w'=>s=q (aq #[])/\oR o w' k w I S fl':=by
 obtain⟨j,c,d⟩|⟨c,d,n,y⟩|⟨b,N,M,c,d,n,y,e,rfl,rfl⟩:=W
 .have G:=Ah p j;rw[c] at a ⊢;unfold dV at a;rw[f (by rw[Px _ ⟨G.1,by omega⟩];omega)] at a;rw[a,Py _ G];exact Pw r T j d _ (λP=>Pz p j P)
 .rw[n];rw[c] at a ⊢;unfold dV at a;rw[f (by simp[qd])] at a;rw[a];show Calls h 44 #[g (E (u w 0 J)),t #[F K 0,pL S]] o _;refine zj w 0 S o _ (λY A=>(yR (r.mod A (λ_ _ x=>x)) S).mono (λB w' ⟨s,H,X⟩=>⟨s,⟨k,I,?_,λ_ _=>rfl,λ_ _=>rfl⟩,(A.mono (λ_ _ x=>x.elim)).trans X⟩));have B:(λb=>(l b).map (jV S))=l:=by
   funext b;rw[d b];rfl
  rw[B] at H;exact H
 .rw[c] at a ⊢;unfold dV at a;rw[D (show(qe (b:Int) N (M.filter λv=>v.st !=0)).kind=7 from rfl)] at a;obtain⟨Z,j,rfl,O,aa⟩:=a;have R:=bV.wf.jO e;have:=Pu r b ⟨d,n⟩ y N e.aY e.bI (Fo e) (by have:=sP (λv:z=>v.st !=0) M;simp only at R;omega) O;rw[Pv e] at this;exact this
def cW(a:aH)(b:Nat):List aD:=(lY (a.b b)).1
def kj(a:aH)(b:Nat):Bool:=(lY (a.b b)).2
def cZ(a:aH):Nat:=if pd (cW a 1).length (cW a 0).length (a.b 1).length (a.b 0).length=true then 1 else 0
def fF(a:aH):Int×aH:=ig a (cZ a) (a.b (cZ a)).length (a.b (1 - cZ a)).length
theorem dV.qi{w':U}{S:Nat->Prop}(b:dV o w i B)(p:G S o w')(r:∀a,w<=a->a<o.heap.size->¬S a):dV w' w i B:=by
 unfold dV at b ⊢;split
 .rename_i c;rw[D c] at b;obtain⟨k,l,n,d,e⟩:=b;exact⟨k,l,n,p.owns d (λa j=>r a (e a j) (d.lt a j).2),e⟩
 .rename_i c;rw[f c] at b;exact b
theorem cV.qi{w':U}{S:Nat->Prop}(e:G S o w')(i:∀d,w<=d->d<o.heap.size->¬S d):∀ {b:List (Int×V)} {c:List aD},cV o w b c->cV w' w b c
 |[],[],_=>trivial
 |x::b,j::c,a=>⟨⟨a.1.1,a.1.2.qi e i⟩,cV.qi e i a.2⟩
 |[],_::_,a=>a.elim
 |_::_,[],a=>a.elim
theorem gW.qi{w':U}{S:Nat->Prop}(b:gW o w i v)(d:G S o w')(e:∀a,w<=a->a<o.heap.size->¬S a):gW w' w i v:=⟨d.owns b.row (λa c=>e a (b.own a c) (b.row.lt a c).2),b.own,b.one⟩
def ja(i:aH)(n l:Nat)(o:V)(k:U):Prop:=∃b d a e c,n<=b/\d<=l/\gW a b o e/\cV a b e c/\a.heap.size<=d/\G (λj=>j<b\/d<=j) a k/\(c=cW i 0\/c=cW i 1)
theorem ja.step(c a:Nat)(i:V)(d e:U)(A:ja W c a i d)(y:G (λb=>b<c\/a<=b) d e):ja W c a i e:=by
 obtain⟨z,p,k,j,o,l,n,r,s,v,w,x⟩:=A;exact⟨z,p,k,j,o,l,n,r,s,v,w.trans (y.mono (λb _ B=>by omega)),x⟩
theorem ja.low(e i c d:Nat)(j:V)(b:U)(w:e<=i)(v:d<=c)(a:ja W i d j b):ja W e c j b:=by
 obtain⟨p,o,l,k,n,r,s,a⟩:=a;exact⟨p,o,l,k,n,by omega,by omega,a⟩
theorem ja.get(s:ja W w Q i o):∃b a,gW o w i b/\cV o w b a/\(a=cW W 0\/a=cW W 1):=by
 obtain⟨A,y,v,b,a,c,x,j,k,z,d,l⟩:=s;exact⟨b,a,(j.qi d (λr n p e=>by omega)).low c,(k.qi d (λr n p e=>by omega)).low c,l⟩
theorem Fp{S:Nat->Prop}{tb:Nat}(d:aS o S tb W)(b:Nat)(hi:b<2)(w:(W.b b).length<=1099511627776):Calls h 69 #[g (E (u tb 0 J)),F K b] o λi w'=>∃a c,i=q (nT b (W.b b).length (C a (cW W b).length c) (kj W b))/\ja W o.heap.size w'.heap.size (C a (cW W b).length c) w'/\G No o w':=by
 refine Nx d b (by omega) (cW W b).length (kj W b) (ja W) (λn x v l=>?_) ja.step ja.low;obtain⟨a,c,rfl⟩:=aR l;refine(Pk l w (d.bytes b (by omega)) (by have:=d.lt;have:=v.size;omega)).mono ?_;rintro i w' ⟨a',p,e,rfl,j,k,r⟩;have s:e.length=(cW W b).length:=k.len;rw[s] at j ⊢;refine⟨a',p,rfl,⟨n.heap.size,w'.heap.size,w',e,cW W b,cz _,cz _,j,k,cz _,G.refl _ _,?_⟩,r⟩;have:b=0\/b=1:=by omega
 obtain rfl|rfl:=this
 .exact .inl rfl
 .exact .inr rfl
theorem PD{S:Nat->Prop}{tb:Nat}(d:aS o S tb W)(hS:∀l,S l->l<o.heap.size)(n:(W.b 0).length<=1099511627776)(p:(W.b 1).length<=1099511627776):Calls h 43 #[g (E (u tb 0 J))] o λk w'=>aS w' S tb (fF W).2/\G S o w'/\((fF W).1=0->∃a j,k=q (aq #[t #[g (E (u tb 0 J)),F K (cZ W:Nat),L (!(kj W (cZ W)))],C a (cW W (cZ W)).length j,F K 0])/\ja W o.heap.size w'.heap.size (C a (cW W (cZ W)).length j) w')/\
   ((fF W).1≠0->k=q (aq #[t #[g J,F K 0,L false],C J 0 0,F K 16])):=by
 unfold fF;have f0:∀b,G No o b->_:=λb e=>Fp (d.bC e) 0 (by omega) n;have f1:∀b,G No o b->_:=λb e=>Fp (d.bC e) 1 (by omega) p;by_cases c:pd (cW W 1).length (cW W 0).length (W.b 1).length (W.b 0).length=true
 .have i:cZ W=1:=by unfold cZ;rw[D c]
  rw[i];exact DZ d hS _ _ _ _ _ _ _ 1 _ _ _ _ (ja W) f0 f1 ja.step ja.low c (.inr ⟨rfl,rfl,rfl,rfl,rfl,rfl⟩)
 .have i:cZ W=0:=by unfold cZ;rw[f c]
  rw[i];exact DZ d hS _ _ _ _ _ _ _ 0 _ _ _ _ (ja W) f0 f1 ja.step ja.low (by simpa using c) (.inl ⟨rfl,rfl,rfl,rfl,rfl,rfl⟩)
theorem Fq{d fl':aQ}{c:aK}(b:br p d c=(0,S,fl')):p<=S/\S<=p+100:=by
 unfold br at b
 repeat' split at b
 all_goals first
  |(injection b with e a;injection a with a i;subst a;omega)
  |(injection b with e a;injection a with a i;omega)
theorem Fs{b fl':aQ}(a:xx p b B S fl'):p<=S:=by
 obtain⟨c,_,a⟩|⟨_,_,_,a⟩|⟨e,i,d,_,_,_,_,_,a,_⟩:=a
 .exact(Fq a).1
 .exact a
 .omega
theorem Ft:∀(a:List aD) {c d:Int} {e fl':aQ},ki c e a d fl'->c<=d
 |[],_,_,_,_,b=>by have:=b.1;omega
 |n::a,_,_,_,_,b=>by
  obtain⟨o,f1,i,j⟩:=b;have k:=Fs i;have l:=Ft a j;omega
theorem cV.get:∀ {c:List (Int×V)} {d:List aD},cV o w c d->∀(a:Nat) (b:a<c.length) (k:a<d.length),c[a].1=d[a].fl/\dV o w c[a].2 d[a]
 |x::c,i::d,b,0,_,_=>b.1
 |x::c,i::d,b,a+1,e,j=>cV.get b.2 a (by simpa using e) (by simpa using j)
 |[],[],_,a,e,_=>by simp at e
 |[],_::_,b,_,_,_=>b.elim
 |_::_,[],b,_,_,_=>b.elim
theorem Fu:∀(b:List (Int×V)) (j a:Nat) (d:j<b.length) (c:a<2),(b.flatMap gz)[j* 2+a]? =(gz b[j])[a]?
 |x::b,0,a,_,c=>by
  rw[jE,vJ,bK,vK (by simpa [gz] using c)];rfl
 |x::b,j+1,a,d,c=>by
  rw[jE,tS (by simp[gz];omega)];have:=Fu b j a (by simpa using d) c;rw[show(j+1)* 2+a - (gz x).length=j* 2+a by simp[gz];omega,this];rfl
theorem Fv{a:Option Addr}(i:gW o w (C a Q P) v)(j:Nat)(p:j<v.length):∃b,a=E (u b 0 J)/\b<o.heap.size/\o.cell? ⟨b,j* 2,J⟩=E (F K v[j].1)/\o.cell? ⟨b,j* 2+1,J⟩=E v[j].2:=by
 have k:=i.row;obtain⟨A,B⟩|⟨b,s,x,e,G⟩:=i.row.2
 .omega
 .injection e with d y z;have l:=λc (r:c<2) n (e:(gz v[j])[c]? =E n)=>k.cells (by rw[d];rfl) (j* 2+c) n (by rw[Fu v j c p r];exact e);refine⟨b,d,(k.lt b (by rw[d];rfl)).2,?_,?_⟩
  .have:=l 0 (by omega) _ rfl;rw[dE] at this;simpa using this
  .have:=l 1 (by omega) _ rfl;rw[dE,bK] at this;exact this
def n7(tb b:Nat)(c:Bool):Nat->Option Nat:=λa=>if a=29 then E tb else if a=30 then(if b=1 then E 0 else J) else if a=31 then(if c=true then E 0 else J) else J
theorem PE(tb:Nat)(b:w=0\/w=1)(a:Bool):dA 0 (n7 tb w a)=#[F K 0,g J,g J,g J,g J,g J,g J,g J,g J,g J,g J,g J,g J,g J,g J,g J,g J,g J,g J,g J,g J,g J,.map J,.map J,.map J,.map J,.map J,.map J,.map J,.map J,g (E (u tb 0 J)),F K (w:Nat),L a]:=by
 obtain rfl|rfl:=b<;>cases a<;>rfl
theorem PF(tb:Nat)(b:w=0\/w=1)(a:Bool):oM (n7 tb w a)=w/\nG (n7 tb w a)=a:=by
 obtain rfl|rfl:=b<;>cases a<;>exact⟨rfl,rfl⟩
structure rA (w2 wr:U) (kb tb f:Nat) (torn:Bool) (es0:List aD) (i:Nat) (now:Int) (fl:aQ):Prop where
 keep:∃ow dS n1 f1,cI wr ow kb n1 dS f1/\(∀k,k<kb->ow k=0)/\(∀j,21<=j->dS j=n7 tb f torn j)/\ki n1 f1 (es0.drop i) now fl/\0<=n1
 mod:G (λk=>kb<=k) w2 wr
 ge:w2.heap.size<=kb
theorem rA.next{w2 wr:U}{tb f i:Nat}{n:Bool}{d:aQ}(c:w2.heap.size<=w)(A:G (λa=>w<=a) w2 wr)(l:∀a,a<w->k a=0)(H:∀j,21<=j->I j=n7 tb f n j){f2:aQ}(z:oR wr o k w I S f2)(Q:w<wr.heap.size)(y:ki S f2 (N.drop (i+1)) p d)(B:0<=S):rA w2 o w tb f n N (i+1) p d:=by
 obtain⟨⟨M,O,r,s,v⟩,x⟩:=z
 exact⟨⟨M,O,S,f2,r,λa c=>by rw[s a (by omega)];exact l a c,λj e=>by rw[v j e];exact H j e,y,B⟩,A.trans (x.mono (λa _ b=>by
  have b:k a≠0/\k a<30:=b
  show w<=a
  by_cases P:a<w
  .exact absurd (l a P) b.1
  .omega)),c⟩
structure uV (w w':U) (wR:Nat->Nat) (kb tb f:Nat) (torn:Bool) (T:aH) (now:Int) (fl:aQ):Prop where
 ex:∃ow dS,dH w' ow kb now dS fl ⟨tb,f,torn,true,T⟩/\(∀k,k<w.heap.size->ow k=if wR k=30 then 30 else 0)/\∀j,21<=j->j<29->dS j=J
 new:w.heap.size<=kb
 mod:G (λk=>wR k=30) w w'
theorem rA.fin{w2 wr:U}{tb:Nat}{l:Bool}{n:aQ}(B:rA w2 wr w tb Q l N P p n)(i:Q=0\/Q=1)(hi:N.length<=P)(hS:∀a,k a=30->a<o.heap.size)(O:aS w2 (λa=>k a=30) tb W)(v:G (λa=>k a=30) o w2):uV o wr k w tb Q l W p n:=by
 obtain⟨⟨x,Y,aj,f1,c,H,d,r,ae⟩,e,af⟩:=B;rw[List.drop_eq_nil_of_le hi] at r;obtain⟨rfl,rfl⟩:=r;have ai:=v.size;have s:=PF tb i l;have z:=d 30 (by omega);have A:=d 31 (by omega);refine⟨⟨λa=>if a<o.heap.size then(if k a=30 then 30 else 0) else x a,Y,⟨?_,?_,?_,?_,?_⟩,λa b=>D b,λR I ag=>?_⟩,by omega,v.trans' e (λa b ah=>by omega)⟩
 .refine⟨c.e,by rw[f (by omega)];exact c.bw,λa b=>?_,c.gone,λT X S M i=>?_⟩
  .by_cases j:a<o.heap.size
   .have:=e.size;omega
   .rw[f j] at b;exact c.bg a b
  .obtain⟨y,Z,aa,ab⟩:=c.here T X S M i;refine⟨y,Z,aa,ab.wide (λa b=>?_)⟩;by_cases j:a<o.heap.size
   .rw[H a (by omega)] at b;omega
   .rw[f j];exact b
 .rw[d 29 (by omega)];rfl
 .have:=s.1;unfold oM at this ⊢;rw[z];exact this
 .have:=s.2;unfold nG at this ⊢;rw[A];exact this
 .refine(O.mod e (λa b ad=>?_)).wide (λa b=>?_)
  .have:=hS a b;omega
  .have:=hS a b;show(if a<o.heap.size then(if k a=30 then 30 else 0) else x a)=30;rw[D this,D b]
 .rw[d R I];unfold n7;rw[f (by omega),f (by omega),f (by omega)]
theorem dV.iface(a:dV o w i B):∃c d,i=.iface c d:=by
 unfold dV at a;split at a
 .obtain⟨e,j,b,_⟩:=a;exact⟨_,_,b⟩
 .rw[a];exact sS _
theorem Fw{d c e:Nat}{a:Option Addr}{k:List V}(i:o.ownsRow w Q P (C a d e) c k):d=c:=by
 obtain⟨b,r⟩|⟨p,l,n,j,_⟩:=i.2
 .injection b with _ b _;omega
 .injection j
theorem PH{tb:Nat}(ae:aS o (λc=>k c=30) tb W)(hS:∀c,k c=30->c<o.heap.size)(bz:¬W.ay<200)(av:(W.b 0).length<=1099511627776)(aw:(W.b 1).length<=1099511627776){B:aQ}(bx:p<=4611686018427387000)(aE:∀r,r=cW W 0\/r=cW W 1->r.length=(cW W (cZ W)).length->∃e,r=e.map canon/\ki 0 gJ e p B):
  Calls h 20 #[g (E (u tb 0 J))] o λj w'=>((fF W).1=0->∃aO,j=q (aq #[g (E (u aO 0 J)),F K 0])/\uV o w' k aO tb (cZ W) (!(kj W (cZ W))) (fF W).2 p B)/\((fF W).1≠0->j=q (aq #[g J,F K 16])/\aS w' (λc=>k c=30) tb (fF W).2/\G (λc=>k c=30) o w'):=by
 obtain⟨a3,aG,aI⟩:=ae.ay;have Y:=l (vM tb W.ay o a3 aG aI);have S:=l (PD ae hS av aw);have aX:=l hS;have T:=l aE;have bb:cZ W=0\/cZ W=1:=by unfold cZ;split<;>simp
 have ar:=l bb;have bp:=l (show 0<=o.heap.size by omega);clear ae aG aI hS av aw aE;generalize cZ W=n at *;generalize kj W n=al at *;go_enter func20,ntmps20;go_wp2_with fail;refine(b Y).mono ?_;rintro j bJ ⟨rfl,rfl⟩;go_wp2_with fail;refine(b S).mono ?_;rintro j d ⟨t2,O,aa,Z⟩;by_cases z:(fF W).1=0
 .obtain⟨bq,br,rfl,aP⟩:=aa z;obtain⟨i,r,A,ad,aB⟩:=aP.get;have aD:i.length=r.length:=ad.len;have ay:(cW W n).length=i.length:=Fw A.row;obtain⟨e,rfl,aF⟩:=(b T) r aB (by omega);have aC:i.length=e.length:=by rw[aD,ui]
  rw[ay];have ba:=A.row.1;have v:G No d (d.alloc (m #[g (E (u tb 0 J)),F K n,L (!al)] 110)):=(G.refl _ _).alloc _;have aj:G No d ((d.alloc (m #[g (E (u tb 0 J)),F K n,L (!al)] 110)).alloc (m (dA 0 (n7 tb n (!al))) 121)):=v.alloc _;have ax:=PE tb (b ar) (!al)
  have w:rA d ((d.alloc (m #[g (E (u tb 0 J)),F K n,L (!al)] 110)).alloc (m (dA 0 (n7 tb n (!al))) 121)) (d.heap.size+1) tb n (!al) e 0 p B:=by
   refine⟨⟨λc=>if c=d.heap.size+1 then 1 else 0,n7 tb n (!al),0,gJ,⟨?_,D rfl,λc y=>?_,λbk bh _=>?_,λbk bH bE bh a9=>by cases a9⟩,λc y=>f (by omega),λbC _=>rfl,by simpa using aF,by omega⟩,aj.mono (λ_ _ s=>s.elim),by omega⟩
   .exact X.DY d _ _ _
   .by_cases j:c=d.heap.size+1
    .rw[j];simp
    .rw[f j] at y;exact absurd rfl y
   .unfold n7;rw[f (by omega),f (by omega),f (by omega)]
  rw[ax] at w aj;have w:=l w;have aY:=l t2;have a0:=l O;have aW:=l A;have aU:=l ad;have bv:i.length<=9223372036854775807:=by
   obtain⟨_,a7⟩|⟨a6,bt,bu,bA,_,_,a7,a8,_⟩:=A.row.2
   .omega
   .unfold maxLen at a8;omega
  have aZ:=l z;have R:=l aC;clear aC t2 O aa Z S Y T aF aD ay ba v aj ax A ad aB aP z;go_wp2_with fail;go_loopw [31] (λak wr=>∃a:Nat,ak=F K a/\a<=i.length/\Hid (rA d wr (d.heap.size+1) tb n (!al) e a p B)) (λak _=>i.length - (intOf ak).toNat)
  case atStart=>exact⟨0,rfl,by omega,w⟩
  case round=>
   obtain⟨a,rfl,hi,x⟩:=hrel;clear w;by_cases I:a<i.length
   .have bg:(a:Int)<(i.length:Int):=by omega
    have N:=(b x).mod;have aJ:=(b aW).qi N (λc y bc j=>by omega);have aA:=(b aU).qi N (λc y bc j=>by omega);obtain⟨a6,rfl,bw,a2,bs⟩:=Fv aJ a I;obtain⟨ao,P⟩:=aA.get a I (by rw[ui,<-b R];exact I);rw[sF] at ao P;have M:a<e.length:=by rw[<-b R];exact I
    obtain⟨bm,bn,bF,f1,af,aK,aL,aN,bi⟩:=(b x).keep;have hd:e.drop a=e[a]'M::e.drop (a+1):=zq M;rw[hd] at aN;obtain⟨bl,f2,ag,ah⟩:=aN;have bd:=Ft _ ah;have bf:=Fs ag;have bB:K.wrap ((a:Int)+1)=((a+1:Nat):Int):=by rw[lF];omega
    generalize hu:i[a].2=bI at *;obtain⟨aR,aT,rfl⟩:=P.iface;rw[ao] at a2;have ai:G No wr (wr.alloc (m #[F K (canon e[a]).fl,.iface aR aT] 125)):=(G.refl _ _).alloc _;have az:=PC (af.mod ai (λ_ _ s=>s)) (by omega) ag (P.mod ai (λ_ _ s=>s));generalize (canon e[a]).fl=a5 at *;have ap:=l az
    have au:=l λam (H:oR (wr.alloc (m #[F K a5,.iface aR aT] 125)) am bm (d.heap.size+1) bn bl f2)=>rA.next (i:=a) (b x).ge (N.alloc _) aK aL H (by rw[bW];have:=af.e.lt;omega) ah (by omega)
    have bo:=l M;clear M N aJ aA ao P af aK aL ag ah hd ai az bd bf bi;go_wp2_with fail;refine(b ap).mono ?_;rintro j am ⟨rfl,H⟩;have a1:=l ((b au) am H);clear H ap au;go_wp2;exact⟨⟨a+1,rfl,by omega,a1⟩,by simp[intOf];omega⟩
   .have bg:¬(a:Int)<(i.length:Int):=by omega
    have Q:=l ((b x).fin (b ar) (by have:=b R;omega) (b aX) (b aY) (b a0));clear x;go_wp2_with fail;go_ret2;exact⟨λ_=>⟨_,rfl,b Q⟩,λab=>absurd (b aZ) ab⟩
 .have a4:=Z z;subst a4;have v:G No d (d.alloc (m #[g J,F K 0,L false] 110)):=(G.refl _ _).alloc _;have Q:=l (gE (t2.bC v) (O.trans (v.mono λ_ _ s=>s.elim)));clear t2 O aa Z S Y T v;go_wp2_with fail;go_ret2;exact⟨λab=>absurd ab z,λ_=>⟨rfl,b Q⟩⟩
theorem Fx(a:Int):∀(c:List z) (b:z),il a (c++[b])=il a c++iT a b
 |[],b=>by simp[il]
 |x::c,b=>by
  show iT a x++il a (c++[b])=_;rw[Fx a c b];simp[il]
theorem Ai(b:Int):∀(a:List z),(il b a).length<=36* a.length
 |[]=>by simp[il]
 |c::a=>by
  have:=Dk b c;have:=Ai b a;simp only[il,bG,eL];omega
theorem Fy(p:O):(jm p).length<=63:=by
 have a:=wG p;have b:=(eM p.af).2;have c:=(eM p.ag).2;have d:=(eM p.ai).2;have e:=(eM p.aj).2;unfold jm;simp only[bG];omega
theorem PJ(P:∃k,db R o w k n S)(ah:gv R o)(bf:n.length<1099511600000)(p:O)(a4:O.fit p)(aZ:0<=p.ep/\p.ep<9223372036854775808){a:Option Addr}(c:List z)(aG:∀d∈c,lS S d)(a6:c.length<=120)(aF:o.ownsRow 0 202 6 (C a c.length Q) c.length (c.flatMap eS))(aD:∀ag,(C a c.length Q).ownBlock=E ag->¬R ag):
  Calls h 129 #[g (E (u w 0 J)),t #[F K p.rows,F K p.y,F K p.Z,F K p.af,F K p.ag,F K p.ai,F K p.aj,C a c.length Q,F K p.ep]] o λj w'=>j=q (aq #[])/\eQ R o w' w (n++lH S p c) S:=by
 obtain⟨k,P⟩:=P;have bh:=Fy p;have bc:=(eM p.ep).2;have bg:=(eM (c.length:Int)).2;have aj:G No o (o.alloc (m #[F K p.rows,F K p.y,F K p.Z,F K p.af,F K p.ag,F K p.ai,F K p.aj,C a c.length Q,F K p.ep] 196)):=(G.refl _ _).alloc _;have am:=l (X.new o #[F K p.rows,F K p.y,F K p.Z,F K p.af,F K p.ag,F K p.ai,F K p.aj,C a c.length Q,F K p.ep] 196)
 have Z:=l (ah.box (m #[F K p.rows,F K p.y,F K p.Z,F K p.af,F K p.ag,F K p.ai,F K p.aj,C a c.length Q,F K p.ep] 196));have au:=l (CW ⟨k,P.box (m #[F K p.rows,F K p.y,F K p.Z,F K p.af,F K p.ag,F K p.ai,F K p.aj,C a c.length Q,F K p.ep] 196)⟩ (b Z) (by omega) p a4);have ax:=l (aj.owns aF (λ_ _ v=>v));have M:=l aD;have aL:=l aG;have aP:=l aj;have ba:=l ah;clear P ah aF aD aG aj
 go_enter func129,ntmps129;go_wp2_with fail;refine(b au).mono ?_;rintro j aH ⟨rfl,x⟩;have H:=x.mod.e (b am) (λr=>r.2 rfl);have aU:aH.cell? (u o.heap.size 7 J)=E (C a c.length Q):=H.T 7;have aY:aH.cell? (u o.heap.size 8 J)=E (F K p.ep):=H.T 8;have I:=H.lt;have aa:=l ((b Z).mod x.mod);have av:=l (lQ x.ex (b aa) (by simp only[bG];omega) p.ep aZ);have aA:=l (x.mod.owns (b ax) (λi s j=>(b M) i s j.1))
 have ay:=l x.mod;have ao:=l H;clear x H au am ax Z;go_wp2_with fail;refine(b av).mono ?_;rintro j a8 ⟨rfl,y⟩;have N:=y.mod.e (b ao) (λr=>r.2 rfl);have aW:a8.cell? (u o.heap.size 7 J)=E (C a c.length Q):=N.T 7;have a2:=N.lt;have ab:=l ((b aa).mod y.mod);have aw:=l (lQ y.ex (b ab) (by simp only[bG];omega) (c.length:Int) (by omega));have aB:=l (y.mod.owns (b aA) (λi s j=>(b M) i s j.1))
 have az:=l ((b ay).trans y.mod);have ap:=l N;clear y N av ao aA aa ay aU aY I;go_wp2_with fail;refine(b aw).mono ?_;rintro j w3 ⟨rfl,A⟩;have af:=A.mod.e (b ap) (λr=>r.2 rfl);have aX:w3.cell? (u o.heap.size 7 J)=E (C a c.length Q):=af.T 7;have a3:=af.lt;have aJ:=l ((b ab).mod A.mod);have aS:=l (A.mod.owns (b aB) (λi s j=>(b M) i s j.1));have aR:=l ((b az).trans A.mod);have aC:=l A.ex
 clear A af aw ap aB ab az aW a2;generalize ai:n++jm p++bX p.ep++bX (c.length:Int)=ae at *;have bb:ae.length<1099511601000:=by rw[<-ai];simp only[bG];omega
 have aN:=l ai;clear ai;go_wp2_with fail;go_loopw [22] (λd wr=>∃e:Nat,d=F K e/\e<=c.length/\Hid (∃k,db (λi=>R i/\i≠o.heap.size) wr w k (ae++il S (c.take e)) S)/\Hid (G (λi=>R i/\i≠o.heap.size) w3 wr)) (λd _=>c.length - (intOf d).toNat)
 case atStart=>exact⟨0,rfl,by omega,by rw[DD];show Hid (∃k,db _ w3 w k (ae++[]) S);rw[dG];exact aC,G.refl _ _⟩
 case round=>
  obtain⟨e,rfl,hi,ad,B⟩:=hrel;clear aC aX a3;by_cases I:e<c.length
  .have a1:(e:Int)<(c.length:Int):=by omega
   obtain⟨ag,rfl,bd,d0,d1,d2,d3,d4,d5⟩:=Fl ((b B).owns (b aS) (λi s j=>(b M) i s j.1)) e I;have aE:=(b aL) c[e] (eK I);have a0:=Ai S (c.take e);have aK:=l (show il S (c.take (e+1))=il S (c.take e)++iT S c[e] from by rw[<-Fx,mD,du I];rfl);have a7:(c.take e).length<=120:=by rw[eO];omega
   generalize a5:c[e]=d at *;have W:G No wr (wr.alloc (m #[F K d.row,F K d.ae,F K d.st,F K d.pa,F K d.cl,F K d.un] 202)):=(G.refl _ _).alloc _
   have ar:=l (Dl (O:=λi=>R i/\i≠o.heap.size) (w:=wr.alloc (m #[F K d.row,F K d.ae,F K d.st,F K d.pa,F K d.cl,F K d.un] 202)) (by
    obtain⟨k,T⟩:=b ad
    exact⟨k,T.mod W (λ_ _ v=>v)⟩) (((b aJ).mod (b B)).mod W) (by simp only[bG];omega) d aE)
   have aQ:=l W;have aI:=l a6;clear a5 aE a0 a7 W;go_wp2_with fail;refine(b ar).mono ?_;rintro j bi ⟨rfl,ak⟩;have aT:=l ak.ex;have aO:=l (((b B).trans ((b aQ).mono λ_ _ v=>v.elim)).trans ak.mod);have a9:=b aI;clear ak ar;go_wp2;refine⟨⟨e+1,rfl,by omega,?_,aO⟩,by simp[intOf];omega⟩;rw[b aK,<-cQ];exact aT
  .have a1:¬(e:Int)<(c.length:Int):=by omega
   obtain rfl:e=c.length:=by omega
   have Y:eQ R o wr w (n++lH S p c) S:=by
    obtain⟨k,T⟩:=b ad;rw[fN,<-b aN] at T;refine⟨⟨k,?_⟩,((b aP).mono λ_ _ v=>v.elim).trans (((b aR).trans (b B)).mono λ_ _ r=>r.1)⟩;unfold lH;rw[<-cQ,<-cQ,<-cQ];exact T.wide (λi r=>r.1)
   have Y:=l Y;clear ad B;go_wp2_with fail;go_end0;exact⟨rfl,b Y⟩
attribute [local go_sem] Dm Dn Dp Dq Dr Ds Dt
theorem PK(s:∃A,db R o w A n S)(W:gv R o)(aB:n.length<1099511599000)(i:Int)(aj:0<=i/\i<32)(p:O)(ak:O.fit p)(ai:0<=p.ep/\p.ep<9223372036854775808){a:Option Addr}{c:Nat}(d:List z)(aa:∀ao∈d,lS S ao)(am:d.length<=120)(Z:o.ownsRow 0 202 6 (C a d.length c) d.length (d.flatMap eS))(Y:∀T,(C a d.length c).ownBlock=E T->¬R T):
  Calls h 110 #[g (E (u w 0 J)),t #[F K i,.iface 196 (t #[F K p.rows,F K p.y,F K p.Z,F K p.af,F K p.ag,F K p.ai,F K p.aj,C a d.length c,F K p.ep])]] o λk w'=>k=q (aq #[])/\eQ R o w' w (n++((32* 7+i)::lH S p d)) S:=by
 obtain⟨A,s⟩:=s;have H:=l (X.rh o (m #[F K i,.iface 196 (t #[F K p.rows,F K p.y,F K p.Z,F K p.af,F K p.ag,F K p.ai,F K p.aj,C a d.length c,F K p.ep])] 125) #[F K p.rows,F K p.y,F K p.Z,F K p.af,F K p.ag,F K p.ai,F K p.aj,C a d.length c,F K p.ep] 196)
 have P:=l (W.j8 (m #[F K i,.iface 196 (t #[F K p.rows,F K p.y,F K p.Z,F K p.af,F K p.ag,F K p.ai,F K p.aj,C a d.length c,F K p.ep])] 125) (m #[F K p.rows,F K p.y,F K p.Z,F K p.af,F K p.ag,F K p.ai,F K p.aj,C a d.length c,F K p.ep] 196))
 have M:=l (qW ⟨A,s.j8 (m #[F K i,.iface 196 (t #[F K p.rows,F K p.y,F K p.Z,F K p.af,F K p.ag,F K p.ai,F K p.aj,C a d.length c,F K p.ep])] 125) (m #[F K p.rows,F K p.y,F K p.Z,F K p.af,F K p.ag,F K p.ai,F K p.aj,C a d.length c,F K p.ep] 196)⟩ (b P) (by omega) 7 i (by omega) aj)
 have ab:G No o ((o.alloc (m #[F K i,.iface 196 (t #[F K p.rows,F K p.y,F K p.Z,F K p.af,F K p.ag,F K p.ai,F K p.aj,C a d.length c,F K p.ep])] 125)).alloc (m #[F K p.rows,F K p.y,F K p.Z,F K p.af,F K p.ag,F K p.ai,F K p.aj,C a d.length c,F K p.ep] 196)):=((G.refl _ _).alloc _).alloc _;have af:=l (ab.owns Z (λ_ _ B=>B));have I:=l Y;clear s W Z Y ab;have ag:=l aa;clear aa;go_enter func110,ntmps110
 go_wp2_with fail;refine(b M).mono ?_;rintro k j ⟨rfl,r⟩;have e:=r.mod.e (b H) (λv=>v.2 rfl);have ap:j.cell? ⟨o.heap.size+1,0,J⟩=E (F K p.rows):=e.T 0;have ar:j.cell? ⟨o.heap.size+1,1,J⟩=E (F K p.y):=e.T 1;have au:j.cell? ⟨o.heap.size+1,2,J⟩=E (F K p.Z):=e.T 2;have av:j.cell? ⟨o.heap.size+1,3,J⟩=E (F K p.af):=e.T 3;have aw:j.cell? ⟨o.heap.size+1,4,J⟩=E (F K p.ag):=e.T 4
 have ax:j.cell? ⟨o.heap.size+1,5,J⟩=E (F K p.ai):=e.T 5;have ay:j.cell? ⟨o.heap.size+1,6,J⟩=E (F K p.aj):=e.T 6;have az:j.cell? ⟨o.heap.size+1,7,J⟩=E (C a d.length c):=e.T 7;have aA:j.cell? ⟨o.heap.size+1,8,J⟩=E (F K p.ep):=e.T 8;have aC:=e.lt;have ae:=l ((b P).mod r.mod);have Q:=l r
 have N:=l (PJ r.ex (b ae) (by simp only[bG,ri];omega) p ak ai d (b ag) am (r.mod.owns (b af) (λy x k=>(b I) y x k.1.1)) (λy x k=>(b I) y x k.1.1));clear r e M H;go_wp2_with fail;refine(b N).mono ?_;rintro k aD ⟨rfl,ad⟩;have ah:=l ((ad.after (b Q).mod (λ_ _ B=>B)).qZ);clear ad N Q;go_wp2;go_end0;refine⟨rfl,?_⟩;have v:=b ah;rw[cQ] at v;exact v
theorem eY.at :∀ {a:List aD} {c:Int},eY c a->∀(b:Nat) (hi:b<a.length),pn (mI c a b) a[b]
 |e::a,c,d,0,_=>d.1
 |e::a,c,d,b+1,hi=>by
  have:=eY.at d.2 b (by simpa using hi);exact this
 |[],_,_,b,hi=>by simp at hi
theorem PL(b:Int)(p:O)(a:List z):(lH b p a).length<=81+36* a.length:=by
 have c:=Fy p;have d:=(eM p.ep).2;have e:=(eM (a.length:Int)).2;have i:=Ai b a;unfold lH;simp only[bG];omega
theorem PM(a:pn p B):(ia p B).length<=4500:=by
 by_cases b:B.kind=7
 .have c:=PL p B.c B.Y;have d:=(a.w b).1;unfold ia;rw[f (by omega),f (by omega),f (by omega),f (by omega),f (by omega),f (by omega)];simp only[eL];omega
 .have:=wL (a.c b);omega
theorem Fz:∀ {b:List aD} {c:Int},eY c b->(ic c b).length<=4500* b.length
 |[],_,_=>by simp[ic]
 |i::b,c,d=>by
  have a:=PM d.1;have e:=Fz d.2;simp only[ic,bG,eL];omega
theorem eY.take:∀ {a:List aD} {d:Int},eY d a->∀c,eY d (a.take c)
 |_,_,_,0=>by rw[DD];trivial
 |[],_,b,_+1=>by rw[List.take_nil];trivial
 |e::a,d,b,c+1=>⟨b.1,eY.take b.2 c⟩
theorem PN{d:U}(j:∃i,db R d w i n p)(l:gv R d)(y:n.length<1099511599000)(e:pn p B)(c:dV o Q i B)(z:G No o d)(v:∀b,b<o.heap.size->¬R b):Calls h 110 #[g (E (u w 0 J)),t #[F K B.fl,i]] d λS w'=>S=q (aq #[])/\eQ R d w' w (n++ia p B) (ib p B):=by
 unfold dV at c;by_cases a:B.kind=7
 .rw[D a] at c;obtain⟨r,s,rfl,k,Z⟩:=c;obtain⟨I,M,N,O,P,aa⟩:=e.p a;obtain⟨W,X⟩:=e.w a;have:=PK j l y B.fl (e.fl a) B.c ⟨⟨I.1,by omega⟩,⟨M.1,by omega⟩,⟨N.1,by omega⟩,λH=>by have:=O H;omega⟩ ⟨P,by omega⟩ (a:=r) (c:=s) B.Y (λT A=>(X T A).1) W (z.owns k (λ_ _ Y=>Y)) (λb x=>v b (k.lt b x).2);unfold ia ib;rw[f (by omega),f (by omega),f (by omega),f (by omega),f (by omega),f (by omega),f (by omega)]
  exact this
 .rw[f a] at c;rw[c];exact Dy j l (by omega) B (e.c a)
theorem PO(e:cV o w v N):∀a,∃c d,a<v.length->∀(b:a<v.length),v[a].2=.iface c d:=λa=>by
 by_cases b:a<v.length
 .obtain⟨c,d,i⟩:=(e.get a b (by rw[<-e.len];exact b)).2.iface;exact⟨c,d,λ_ _=>i⟩
 .exact⟨0,.nilIface,λj=>absurd j b⟩
theorem PQ{y:Nat}(n:gW o y (C (E (u w 0 J)) Q P) v)(l:cV o y v N)(s:eY p N)(aa:1<=N.length/\N.length<=21):Calls h 81 #[F K p,C (E (u w 0 J)) Q P] o λS w'=>∃z,S=q z/\uD o w' z (aT p N):=by
 have Y:=l.len;have ab:Q=v.length:=Fw n.row;have i:∀a,∃j k I,∀(c:a<v.length),v[a].2=.iface j k/\v[a].1=I:=λa=>by
  obtain⟨j,k,b⟩:=PO l a;by_cases c:a<v.length
  .exact⟨j,k,v[a].1,λc=>⟨b c c,rfl⟩⟩
  .exact⟨j,k,0,λb=>absurd b c⟩
 obtain⟨b,x⟩:∃b:Nat->TypeId×V×Int,∀a (c:a<v.length),v[a].2=.iface (b a).1 (b a).2.1/\v[a].1=(b a).2.2:=
  ⟨λa=>((i a).choose,(i a).choose_spec.choose,(i a).choose_spec.choose_spec.choose),λa c=>(i a).choose_spec.choose_spec.choose_spec c⟩
 refine Dx p w 0 Q P o N (by omega) (by omega) (λa=>(b a).2.2) (λa=>(b a).1) (λa=>(b a).2.1) (λa hi=>?_) (n.row.lt w rfl).2 (λa hi=>?_) (λa hi T r af ag ad O=>?_)
 .have e:=x a (by omega);obtain⟨M,d,_,G,H⟩:=Fv n a (by omega);injection d with d;injection d with d _ _;subst d;rw[bK];exact⟨by rw[G,e.2],by rw[H,e.1]⟩
 .have W:=Fz (s.take a);have X:(N.take a).length<=21:=by rw[eO];omega
  unfold j9;omega
 .have e:=x a (by omega);obtain⟨A,B⟩:=l.get a (by omega) hi;rw[e.1] at B;rw[e.2] at A;rw[A];exact PN O (λae R=>cC r.size R) (by omega) (s.at a hi) B r (λM Z b=>by omega)
end Go.Proofs.YthhibagcpjeihaaGreat
