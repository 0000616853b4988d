import Derived.Test.YthhibagcpjeihaaGreatMWr1ToRd3
open Go.Proofs.Tryz
open Go.Value renaming int->y,pointer->b,agg->l
open Go.IntKind renaming i64->K
open Option renaming none->F,some->E
open Go renaming World->U,Value->V
open Go.Proofs.Tryz renaming prog->T
open Go.Ending renaming returned->g
open Go.Obj renaming cells->v
open Array renaming getElem?_eq_getElem->bX
open Go.World renaming size_alloc->bj
open List renaming eq_nil_of_length_eq_zero->fS
open And renaming intro->eL
namespace Go.Proofs.YthhibagcpjeihaaGreat
open Go.RowKit
open M
set_option linter.unusedVariables false
set_option linter.unusedSimpArgs false
set_option maxRecDepth 100000
set_option maxHeartbeats 8000000
def mN:Nat->List Int->List Int->Option (List Int×List Int)
 |0,c,d=>E (c,d)
 |e+1,c,d=>aw (bc d 0 0) λa f=>mN e (c++[a]) f
def lL(a:Int×Int×Int) (xs:List Int):O:=⟨a.1,a.2.1,a.2.2,xs.getD 0 0,xs.getD 1 0,xs.getD 2 0,xs.getD 3 0,0⟩
def kG(c:List Int):Option (O×List Int):=aw (mv c) λd a=>aw (mN 4 [] a) λxs a=>E (lL d xs,a)
def lM(p:O):List V:=[y K p.rows,y K p.w,y K p.front,y K p.I,y K p.R,y K p.n,y K p.f]
def xZ(p:O):Prop:=(Fit p.rows/\Fit p.w/\Fit p.front)/\Fit p.I/\Fit p.R/\Fit p.n/\Fit p.f
structure qp (w w1 wr:U) (rb gb b sb:Nat) (s:Int×Int×Int) (R:List Int) (t1:Bool) (now:Int) (j:Nat) (xs:List Int):Prop where
 len:xs.length=j
 fit:∀x∈xs,Fit x
 box:X wr b (lM (lL s xs)).toArray 39
 res:X wr sb #[y K 0,y K 0,y K 0,y K 0,y K 0,y K 0,y K 0] 39
 mod:G (· =rb) w wr
 Fm:w1.heap.size<=wr.heap.size
 rd:∃n t2,aT wr rb gb n now t2/\∀(w2:U) (g:List Int->Prop),cz w2 rb gb (mN (4 - j) xs n) now t2 g->cz w2 rb gb (mN 4 [] R) now t1 g
theorem qp.next{t A wr w2:U} {e f c q:Nat} {p:Int×Int×Int} {r:List Int} {t1:Bool} {now:Int} {j:Nat} {xs:List Int} (i:qp t A wr e f c q p r t1 now j xs) (aa:j<4) (M:c≠e/\c≠f/\q≠e/\q≠c/\t.heap.size<=c) {x:List Int} {t2:Bool} {a:Int} (w:∀(w2:U) (m:List Int->Prop),cz w2 e f (mN (4 - j) xs x) now t2 m->cz w2 e f (mN 4 [] r) now t1 m) (k:de wr w2 e f (bc x 0 0) now t2 (λu=>u=a)) (I:Fit a):qp t A (w2.setCell ⟨c,3+j,F⟩ (y K a)) e f c q p r t1 now (j+1) (xs++[a]):=by
 obtain⟨z,Q,R,S,ab⟩:=M;have s:G (λn=>n=c) w2 (w2.setCell ⟨c,3+j,F⟩ (y K a)):=(G.refl (λn=>n=c) w2).setCell (p:=⟨c,3+j,F⟩) (.inl rfl) _;obtain⟨P,t3,D,O⟩:=cz.bind (β:=List Int) k.2;have hl:=i.len
 refine⟨by simp;omega,λu N=>?_,?_,s.has (k.1.has i.res R) S,(i.mod.trans k.1).trans' s (λn w hl=>by omega),by have:=i.Fm;have:=k.1.size;simp;omega,P,t3,D.mod s (λd=>z d.symm) (λd=>Q d.symm),λH m J=>w H m ?_⟩
 ·obtain o|o:=List.mem_append.1 N
  ·exact i.fit u o
  ·simp at o;subst o;exact I
 ·have:=(k.1.has i.box z).set (3+j) (y K a);have d:(lM (lL p (xs++[a]))).toArray=(lM (lL p xs)).toArray.setIfInBounds (3+j) (y K a):=by
   have L:j=0\/j=1\/j=2\/j=3:=by omega
   obtain d|d|d|d:=L<;>subst d
   ·obtain rfl:xs=[]:=fS hl;rfl
   ·obtain⟨B,rfl⟩:=List.length_eq_one_iff.1 hl;rfl
   ·obtain _|⟨B,_|⟨X,_|⟨Y,xs⟩⟩⟩:=xs<;>simp at hl;rfl
   ·obtain _|⟨B,_|⟨X,_|⟨Y,_|⟨D,xs⟩⟩⟩⟩:=xs<;>simp at hl;rfl
  rw[d];exact this
 ·rw[show 4 - j=(4 - (j+1))+1 by omega];exact O _ _ _ J
theorem cz.ret{d m:Type} {k:U} {i e:Nat} {p:Option (d×List Int)} {n:d} {y:d->m} {now:Int} {j:Bool} {g:m->Prop} (a:cz k i e p now j (λc=>c=n)) (o:g (y n)):cz k i e (aw p λc f=>E (y c,f)) now j g:=by
 obtain _|⟨c,f⟩:=p
 ·exact a
 ·obtain⟨rfl,a⟩:=a;exact⟨o,a⟩
theorem Fo{d:U} {a:Nat} {r c f x0 x1 x2 x3:Int} (j:X d a #[y K 0,y K 0,y K 0,y K 0,y K 0,y K 0,y K 0] 39):G (λi=>i=a) d (((((((d.setCell ⟨a,0,F⟩ (y K r)).setCell ⟨a,1,F⟩ (y K c)).setCell ⟨a,2,F⟩ (y K f)).setCell ⟨a,3,F⟩ (y K x0)).setCell ⟨a,4,F⟩ (y K x1)).setCell ⟨a,5,F⟩ (y K x2)).setCell ⟨a,6,F⟩ (y K x3))/\(((((((d.setCell ⟨a,0,F⟩ (y K r)).setCell ⟨a,1,F⟩ (y K c)).setCell ⟨a,2,F⟩ (y K f)).setCell ⟨a,3,F⟩ (y K x0)).setCell ⟨a,4,F⟩ (y K x1)).setCell ⟨a,5,F⟩ (y K x2)).setCell ⟨a,6,F⟩ (y K x3)).cell? ⟨a,0,F⟩=E (y K r)/\(((((((d.setCell ⟨a,0,F⟩ (y K r)).setCell ⟨a,1,F⟩ (y K c)).setCell ⟨a,2,F⟩ (y K f)).setCell ⟨a,3,F⟩ (y K x0)).setCell ⟨a,4,F⟩ (y K x1)).setCell ⟨a,5,F⟩ (y K x2)).setCell ⟨a,6,F⟩ (y K x3)).cell? ⟨a,1,F⟩=E (y K c)/\(((((((d.setCell ⟨a,0,F⟩ (y K r)).setCell ⟨a,1,F⟩ (y K c)).setCell ⟨a,2,F⟩ (y K f)).setCell ⟨a,3,F⟩ (y K x0)).setCell ⟨a,4,F⟩ (y K x1)).setCell ⟨a,5,F⟩ (y K x2)).setCell ⟨a,6,F⟩ (y K x3)).cell? ⟨a,2,F⟩=E (y K f)/\(((((((d.setCell ⟨a,0,F⟩ (y K r)).setCell ⟨a,1,F⟩ (y K c)).setCell ⟨a,2,F⟩ (y K f)).setCell ⟨a,3,F⟩ (y K x0)).setCell ⟨a,4,F⟩ (y K x1)).setCell ⟨a,5,F⟩ (y K x2)).setCell ⟨a,6,F⟩ (y K x3)).cell? ⟨a,3,F⟩=E (y K x0)/\(((((((d.setCell ⟨a,0,F⟩ (y K r)).setCell ⟨a,1,F⟩ (y K c)).setCell ⟨a,2,F⟩ (y K f)).setCell ⟨a,3,F⟩ (y K x0)).setCell ⟨a,4,F⟩ (y K x1)).setCell ⟨a,5,F⟩ (y K x2)).setCell ⟨a,6,F⟩ (y K x3)).cell? ⟨a,4,F⟩=E (y K x1)/\(((((((d.setCell ⟨a,0,F⟩ (y K r)).setCell ⟨a,1,F⟩ (y K c)).setCell ⟨a,2,F⟩ (y K f)).setCell ⟨a,3,F⟩ (y K x0)).setCell ⟨a,4,F⟩ (y K x1)).setCell ⟨a,5,F⟩ (y K x2)).setCell ⟨a,6,F⟩ (y K x3)).cell? ⟨a,5,F⟩=E (y K x2)/\(((((((d.setCell ⟨a,0,F⟩ (y K r)).setCell ⟨a,1,F⟩ (y K c)).setCell ⟨a,2,F⟩ (y K f)).setCell ⟨a,3,F⟩ (y K x0)).setCell ⟨a,4,F⟩ (y K x1)).setCell ⟨a,5,F⟩ (y K x2)).setCell ⟨a,6,F⟩ (y K x3)).cell? ⟨a,6,F⟩=E (y K x3):=by
 have e:=(((((((j.set 0 (y K r)).set 1 (y K c)).set 2 (y K f)).set 3 (y K x0)).set 4 (y K x1)).set 5 (y K x2)).set 6 (y K x3))
 exact⟨((((((((G.refl (λi=>i=a) d).setCell (p:=⟨a,0,F⟩) (.inl rfl) _).setCell (p:=⟨a,1,F⟩) (.inl rfl) _).setCell (p:=⟨a,2,F⟩) (.inl rfl) _).setCell (p:=⟨a,3,F⟩) (.inl rfl) _).setCell (p:=⟨a,4,F⟩) (.inl rfl) _).setCell (p:=⟨a,5,F⟩) (.inl rfl) _).setCell (p:=⟨a,6,F⟩) (.inl rfl) _),e.cell 0,e.cell 1,e.cell 2,e.cell 3,e.cell 4,e.cell 5,e.cell 6⟩
theorem x'{a:U} {r u:Nat} {P:List Int} {now:Int} {R:Bool} (D:aT a r u P now R):Calls T 138 #[b (E ⟨r,0,F⟩)] a λA w'=>∃p,A=g (l (lM p).toArray)/\xZ p/\de a w' r u (kG P) now R (λx=>x=p):=by
 have aQ:Hid True:=trivial;have ak:a.heap.size≠r:=by have:=D.kz;omega
 have a0:a.heap.size≠u:=by have:=D.lt;omega
 have Y:a.heap.size+1≠r:=by have:=D.kz;omega
 have aA:a.heap.size+1≠u:=by have:=D.lt;omega
 have L:=(X.new a #[y K 0,y K 0,y K 0,y K 0,y K 0,y K 0,y K 0] 39).alloc (v #[y K 0,y K 0,y K 0,y K 0,y K 0,y K 0,y K 0] 39);have I:=X.new (a.alloc (v #[y K 0,y K 0,y K 0,y K 0,y K 0,y K 0,y K 0] 39)) #[y K 0,y K 0,y K 0,y K 0,y K 0,y K 0,y K 0] 39;rw[bj] at I;have L:=i L;have I:=i I
 have av:=i ((((G.refl No a).alloc (v #[y K 0,y K 0,y K 0,y K 0,y K 0,y K 0,y K 0] 39)).alloc (v #[y K 0,y K 0,y K 0,y K 0,y K 0,y K 0,y K 0] 39)));have ae:=i ((D.alloc (v #[y K 0,y K 0,y K 0,y K 0,y K 0,y K 0,y K 0] 39)).alloc (v #[y K 0,y K 0,y K 0,y K 0,y K 0,y K 0,y K 0] 39));clear D;go_enter func138,ntmps138;go_wp2_with fail;refine(xy (k ae)).mono ?_;rintro A w ⟨f,d,e,rfl,fs,hs⟩
 have z:=hs.1.has (k I) Y;have ad:=hs.1.has (k L) ak;obtain⟨aa,t1,c,am⟩:=cz.bind (β:=O) hs.2;have aD:=hs.1.size;rw[bj,bj] at aD
 have Q:G (λJ=>J=a.heap.size+1) w (((w.setCell ⟨a.heap.size+1,0,F⟩ (y K f)).setCell ⟨a.heap.size+1,1,F⟩ (y K d)).setCell ⟨a.heap.size+1,2,F⟩ (y K e)):=(((G.refl (λJ=>J=a.heap.size+1) w).setCell (p:=⟨a.heap.size+1,0,F⟩) (.inl rfl) _).setCell (p:=⟨a.heap.size+1,1,F⟩) (.inl rfl) _).setCell (p:=⟨a.heap.size+1,2,F⟩) (.inl rfl) _
 have M:qp a w (((w.setCell ⟨a.heap.size+1,0,F⟩ (y K f)).setCell ⟨a.heap.size+1,1,F⟩ (y K d)).setCell ⟨a.heap.size+1,2,F⟩ (y K e)) r u (a.heap.size+1) a.heap.size (f,d,e) aa t1 now 0 []:=
  ⟨rfl,λx aE=>by simp at aE,((z.set 0 (y K f)).set 1 (y K d)).set 2 (y K e),Q.has ad (by omega),((((k av).mono (S':=(· =r)) λ_ _ x=>x.elim).trans hs.1).trans' Q (λJ aC hl=>by omega)),by simp,aa,t1,c.mod Q (by omega) (by omega),λaO aZ ay=>ay⟩
 have M:=i M;have au:=i am;have ap:=i fs;have aH:w.cell? ⟨a.heap.size+1,0,F⟩=E (y K 0):=z.cell 0;have aI:w.cell? ⟨a.heap.size+1,1,F⟩=E (y K 0):=z.cell 1;have aK:w.cell? ⟨a.heap.size+1,2,F⟩=E (y K 0):=z.cell 2;have aM:=z.frozen;have aL:=z.lt;clear hs z ad c am Q fs L I ae;go_wp2_with fail
 go_loopw [14] (λab wr=>∃(o:Nat) (xs:List Int),ab=y K (o:Int)/\o<=4/\Hid (qp a w wr r u (a.heap.size+1) a.heap.size (f,d,e) aa t1 now o xs)) (λab _=>4 - (intOf ab).toNat)
 case atStart=>exact⟨0,[],rfl,by omega,M⟩
 case round=>
  obtain⟨o,xs,rfl,a1,t⟩:=hrel;clear M aH aI aK aM aL;obtain⟨aF,t2,B,N⟩:=(k t).rd;by_cases a2:(o:Int)<4
  ·have aB:o<4:=by omega
   have ai:=i B;have af:=i N;clear B N;go_wp2_with fail;refine(jF (k ai)).mono ?_;rintro A aN ⟨ax,rfl,aj,S⟩;have n:=S.1.has (k t).box Y;have hl:=(k t).len;obtain⟨H,hv⟩:∃H,aN.cell? ⟨a.heap.size+1,3+o,F⟩=E H:=by
    have A:∃H,(lM (lL (f,d,e) xs)).toArray[3+o]? =E H:=⟨_,bX (by show 3+o<7;omega)⟩;obtain⟨H,A⟩:=A;exact⟨H,(n.cell (3+o)).trans A⟩
   have a4:=n.frozen (3+o);have a3:=n.lt;have aw:=i ((k t).next aB ⟨Y,aA,ak,by omega,by omega⟩ (k af) S aj);clear S n hl aj ai af;go_wp2_with fail;exact⟨⟨o+1,xs++[ax],by simp,by omega,aw⟩,by simp[intOf];omega⟩
  ·obtain rfl:o=4:=by omega
   obtain⟨j,c,s,m,rfl⟩:∃j c B m,xs=[j,c,B,m]:=by
    have hl:=(k t).len;obtain _|⟨j,_|⟨c,_|⟨B,_|⟨m,_|⟨a5,xs⟩⟩⟩⟩⟩:=xs<;>simp at hl;exact⟨_,_,_,_,rfl⟩
   have hf:=(k t).fit;have n:X wr (a.heap.size+1) #[y K f,y K d,y K e,y K j,y K c,y K s,y K m] 39:=(k t).box;have q:=(k t).res;obtain⟨d0,d1,d2,d3,d4,d5,d6,d7⟩:=Fo (r:=f) (c:=d) (f:=e) (x0:=j) (x1:=c) (x2:=s) (x3:=m) q;have ag:=(k t).mod.trans' d0 (λJ aC hl=>by omega)
   have ah:cz (((((((wr.setCell ⟨a.heap.size,0,F⟩ (y K f)).setCell ⟨a.heap.size,1,F⟩ (y K d)).setCell ⟨a.heap.size,2,F⟩ (y K e)).setCell ⟨a.heap.size,3,F⟩ (y K j)).setCell ⟨a.heap.size,4,F⟩ (y K c)).setCell ⟨a.heap.size,5,F⟩ (y K s)).setCell ⟨a.heap.size,6,F⟩ (y K m)) r u (kG P) now R (λx=>x=lL (f,d,e) [j,c,s,m]):=by
    refine(k au) _ _ _ (cz.ret (n:=[j,c,s,m]) (N _ _ ?_) rfl);show cz _ r u (E ([j,c,s,m],aF)) now t2 _;exact⟨rfl,B.mod d0 (by omega) (by omega)⟩
   have ao:=i (show de a _ r u (kG P) now R (λx=>x=lL (f,d,e) [j,c,s,m]) from⟨ag,ah⟩);have ar:=i (eL d1 (eL d2 (eL d3 (eL d4 (eL d5 (eL d6 d7))))));have aq:=i (show xZ (lL (f,d,e) [j,c,s,m]) from⟨k ap,hf j (by simp),hf c (by simp),hf s (by simp),hf m (by simp)⟩);have bd:=q.frozen;have bf:=q.lt;have aR:wr.cell? ⟨a.heap.size+1,0,F⟩=E (y K f):=n.cell 0
   have aS:wr.cell? ⟨a.heap.size+1,1,F⟩=E (y K d):=n.cell 1;have aU:wr.cell? ⟨a.heap.size+1,2,F⟩=E (y K e):=n.cell 2;have aV:wr.cell? ⟨a.heap.size+1,3,F⟩=E (y K j):=n.cell 3;have aW:wr.cell? ⟨a.heap.size+1,4,F⟩=E (y K c):=n.cell 4;have aX:wr.cell? ⟨a.heap.size+1,5,F⟩=E (y K s):=n.cell 5;have aY:wr.cell? ⟨a.heap.size+1,6,F⟩=E (y K m):=n.cell 6
   have a6:wr.cell? ⟨a.heap.size,0,F⟩=E (y K 0):=q.cell 0;have a7:wr.cell? ⟨a.heap.size,1,F⟩=E (y K 0):=q.cell 1;have a8:wr.cell? ⟨a.heap.size,2,F⟩=E (y K 0):=q.cell 2;have a9:wr.cell? ⟨a.heap.size,3,F⟩=E (y K 0):=q.cell 3;have ba:wr.cell? ⟨a.heap.size,4,F⟩=E (y K 0):=q.cell 4;have bb:wr.cell? ⟨a.heap.size,5,F⟩=E (y K 0):=q.cell 5;have bc:wr.cell? ⟨a.heap.size,6,F⟩=E (y K 0):=q.cell 6
   clear d0 d1 d2 d3 d4 d5 d6 d7 ag ah B N hf n q t;go_wp2_with fail;obtain⟨d1,d2,d3,d4,d5,d6,d7⟩:=k ar;refine bodyPost_ret (by simp[results,results138,go_sem,d1,d2,d3,d4,d5,d6,d7];try rfl) rfl ?_;exact⟨lL (f,d,e) [j,c,s,m],rfl,k aq,k ao⟩
end Go.Proofs.YthhibagcpjeihaaGreat
