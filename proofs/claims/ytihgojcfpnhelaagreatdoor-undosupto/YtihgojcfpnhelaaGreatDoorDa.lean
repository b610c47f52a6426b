import Derived.Test.YtihgojcfpnhelaaGreatDoorMw
set_option maxRecDepth 100000
set_option maxHeartbeats 4000000
set_option linter.all false
namespace Go.Proofs.YtihgojcfpnhelaaGreatDoor
open Value renaming slice->B,agg->zd,tuple->zp,bool->zF,pointer->zK
open Obj renaming cells->zM
open Ending renaming returned->zP
open Option renaming some->A
open Or renaming inl->zR,inr->zZ
open Go renaming World->zW,Value->zV,Calls->zC,Addr->zD
open Go.RowKit Go.Proofs.Tryz
open List renaming length→G
structure W3 (r:zV) (k n:Int) (x:By) (sl:zV) (w W:zW):Prop where
 bS:zB w W
 c0:W.cell? (yh w.heap.size)=A (bH r)
 p:W.heap[w.heap.size+1]?=A (zM #[J k,Q x,J n,sl] 87 (0,0))
 R:W.heap[w.heap.size+1+1]?=A (zM #[J 0,J 0] 177 (0,0))
def W3.start (r:zV) (k n:Int) (x:By) (a:zV) (w:zW):W3 r k n x a w (((w.alloc (zM #[bH r] 306)).alloc (zM #[J k,Q x,J n,a] 87)).alloc (zM #[J 0,J 0] 177)):=by
 have b:(((w.alloc (zM #[bH r] 306)).alloc (zM #[J k,Q x,J n,a] 87)).alloc (zM #[J 0,J 0] 177)).heap[w.heap.size]?=A (zM #[bH r] 306 (0,0)):=(by rw [cj _ _ _ (by simp;omega),cj _ _ _ (by simp)];exact bL w _);refine ⟨og w _ _ _,(Aq b).1,?_,fZ w _ _ _ _⟩;rw [cj _ _ _ (by simp)];exact bc w _ _ _
def W3.next {r:zV} {k n:Int} {x:By} {b:zV} {w W c:zW} (h:W3 r k n x b w W) (a:zB W c):W3 r k n x b w c:=
 ⟨h.bS.t (a.m h.bS.size),(a.cell (p:=yh w.heap.size) (gI W _ h.c0)).t h.c0,(a.block _ (cz.1 h.p).1).t h.p,(a.block _ (cz.1 h.R).1).t h.R⟩
def W3.fin {r:zV} {k n:Int} {x:By} {a:zV} {w W:zW} (h:W3 r k n x a w W) (u:Vl):dx u w (zP (zd #[J u.1,J u.2])) ((W.setCell (yh (w.heap.size+1+1)) (J u.1)).setCell (X (w.heap.size+1+1) 1) (J u.2)):=
 ⟨rfl,dJ h.bS _ (by omega) _ _⟩
def cb (r:zV) (x:By) (n:Int) (a:Option zD) (l c:Nat) (w:zW) :
  zC prog 220 #[zd #[bH r],zd #[J 1,Q x,J n,B a l c]] w (dx (1,n) w):=by
 have g:=I (W3.start r 1 n x (B a l c) w);go_in;go_wp2_with (go_at_call 240;refine mo (xh _ _) ?_;rintro e E ⟨rfl,b⟩);have d:=I (g.o.next b);obtain ⟨⟨C,D⟩,⟨f0,f1⟩,f⟩:=cq d.o.R;clear b;apply I;go_wp2;refine aK (v:=zd #[J 1,J n]) (by simp [results,results220,go_sem,C,D]) rfl ?_;exact d.o.fin (1,n)
def kC (r:zV) (x:By) (n:Int) (a:Option zD) (l c:Nat) (u:Vl) (w:zW) (f:∀ W,zB w W->zC prog 198 #[r,Q x] W (dx u W)) :
  zC prog 220 #[zd #[bH r],zd #[J 2,Q x,J n,B a l c]] w (dx u w):=by
 have d:=I (W3.start r 2 n x (B a l c) w);have h:=I (λW (j:zB w W)=>f W j);clear f;go_in;go_wp2_with (go_at_call 198;refine mo (h.o _ d.o.bS) ?_;rintro e E ⟨rfl,b⟩);have g:=I (d.o.next b);obtain ⟨⟨C,D⟩,⟨f0,f1⟩,i⟩:=cq g.o.R;clear b;apply I;go_wp2;refine aK (v:=zd #[J u.1,J u.2]) (by simp [results,results220,go_sem,C,D]) rfl ?_;exact g.o.fin (u)
def kM (r:zV) (x:By) (n:Int) (a:Option zD) (l c:Nat) (w:zW) :
  zC prog 220 #[zd #[bH r],zd #[J 7,Q x,J n,B a l c]] w (dx ((2,1)) w):=by
 have g:=I (W3.start r 7 n x (B a l c) w);go_in;go_wp2_with (go_at_call 241;refine mo (lK true _) ?_;rintro e E ⟨rfl,b⟩);rw [show (bD true).1=2 from rfl,show (bD true).2=1 from rfl];have d:=I (g.o.next b);obtain ⟨⟨C,D⟩,⟨f0,f1⟩,f⟩:=cq d.o.R;clear b;apply I;go_wp2;refine aK (v:=zd #[J 2,J 1]) (by simp [results,results220,go_sem,C,D]) rfl ?_;exact d.o.fin ((2,1))
def k9 (r:zV) (x:By) (n:Int) (a:Option zD) (l c:Nat) (w:zW) :
  zC prog 220 #[zd #[bH r],zd #[J 8,Q x,J n,B a l c]] w (dx ((2,0)) w):=by
 have g:=I (W3.start r 8 n x (B a l c) w);go_in;go_wp2_with (go_at_call 241;refine mo (lK false _) ?_;rintro e E ⟨rfl,b⟩);rw [show (bD false).1=2 from rfl,show (bD false).2=0 from rfl];have d:=I (g.o.next b);obtain ⟨⟨C,D⟩,⟨f0,f1⟩,f⟩:=cq d.o.R;clear b;apply I;go_wp2;refine aK (v:=zd #[J 2,J 0]) (by simp [results,results220,go_sem,C,D]) rfl ?_;exact d.o.fin ((2,0))
def la (r:zV) (x:By) (n:Int) (a:Option zD) (l c:Nat) (q:Nat->Pt) (Q0:Nat->Option zD) (L C:Nat->Nat) (v:Nat->Vl) (w:zW) (O:1<=l) (H:l<=3) (t:ib w a l q Q0 L C) (s:kG r w l q Q0 L C v) :
  zC prog 220 #[zd #[bH r],zd #[J 9,Q x,J n,B a l c]] w (dx (v 0) w):=by
 obtain ⟨g,rfl,j,c0,c1,c2,c3⟩:=t 0 (by omega);rw [jC] at c0 c1 c2 c3;rw [cS] at c1 c2 c3;have y:=I s;have F:(0:Int)<(l:Int):=(by omega);clear t s;obtain ⟨d,f⟩:∃ d,d=(((w.alloc (zM #[bH r] 306)).alloc (zM #[J 9,Q x,J n,zS g l c] 87)).alloc (zM #[J 0,J 0] 177)):=⟨_,rfl⟩;have b:W3 r 9 n x (zS g l c) w d:=by rw [f];exact W3.start r 9 n x _ w
 have E:=I b;have i:=I f;obtain ⟨⟨_,_,_,V⟩,_,Z⟩:=aX b.p;obtain ⟨⟨m0,m1⟩,⟨f0,f1⟩,zn⟩:=cq b.R;have M:=b.c0;have N:=(b.bS.cell (p:=yh g) j).t c0;have R:=(b.bS.cell (p:=X g 1) j).t c1;have Y:=(b.bS.cell (p:=X g 2) j).t c2;have S:=(b.bS.cell (p:=X g 3) j).t c3;have m:=I (λW (o:zB d W)=>y.o 0 (by omega) W (b.bS.t (o.m b.bS.size)));have U:=I (λk W (o:zB d W)=>(y.o.next (b.bS.t (o.m b.bS.size))).only 0 (by omega) k);have G:=I (λu W=>zm u W);have e:=I (λu W=>rZ u W);clear b c0 c1 c2 c3;go_in
 go_upto_region 10 with fail
 rw [<- i.o];clear f i
 go_region_with (first|(go_at_call 220;refine (m.o _ (aM d.heap.size d).drew).m ?_;rintro Q5 w1 ⟨rfl,h⟩;have z:=I (E.o.next ((aM d.heap.size d).drew.t h));obtain ⟨⟨K,T⟩,⟨P,Q4⟩,D⟩:=cq z.o.R;clear h))
 all_goals go_wp2
 all_goals refine aK (v:=zd #[J (v 0).1,J (v 0).2]) (by simp [results,results220,go_sem,K,T]) rfl ?_
 all_goals exact z.o.fin (v 0)
def lc (r:zV) (x:By) (n:Int) (a:Option zD) (l c:Nat) (q:Nat->Pt) (Q0:Nat->Option zD) (L C:Nat->Nat) (v:Nat->Vl) (w:zW) (V:1<=l) (QV:l<=3) (y:ib w a l q Q0 L C) (t:kG r w l q Q0 L C v) :
  zC prog 220 #[zd #[bH r],zd #[J 14,Q x,J n,B a l c]] w (dx (iW (aP 1 (v 0))) w):=by
 obtain ⟨g,rfl,j,c0,c1,c2,c3⟩:=y 0 (by omega);rw [jC] at c0 c1 c2 c3;rw [cS] at c1 c2 c3;have z:=I t;have H:(0:Int)<(l:Int):=(by omega);clear y t;obtain ⟨f,h⟩:∃ f,f=(((w.alloc (zM #[bH r] 306)).alloc (zM #[J 14,Q x,J n,zS g l c] 87)).alloc (zM #[J 0,J 0] 177)):=⟨_,rfl⟩;have b:W3 r 14 n x (zS g l c) w f:=by rw [h];exact W3.start r 14 n x _ w
 have G:=I b;have i:=I h;obtain ⟨⟨_,_,_,S⟩,_,M⟩:=aX b.p;obtain ⟨⟨m1,Y⟩,⟨f0,f1⟩,zn⟩:=cq b.R;have O:=b.c0;have P:=(b.bS.cell (p:=yh g) j).t c0;have Q4:=(b.bS.cell (p:=X g 1) j).t c1;have Q6:=(b.bS.cell (p:=X g 2) j).t c2;have m0:=(b.bS.cell (p:=X g 3) j).t c3;have F:=I (λW (s:zB f W)=>z.o 0 (by omega) W (b.bS.t (s.m b.bS.size)));have m:=I (λk W (s:zB f W)=>(z.o.next (b.bS.t (s.m b.bS.size))).only 0 (by omega) k);have o:=I (λu W=>zm u W);have Z:=I (λu W=>rZ u W);clear b c0 c1 c2 c3;go_in
 go_upto_region 12 with fail
 rw [<- i.o];clear h i
 go_region_with (first|(go_at_call 243;refine (m.o 1 _ (aM f.heap.size f).drew).m ?_;rintro e w1 ⟨rfl,d⟩;have K:=I ((aM f.heap.size f).drew.t d);have N:=((aM f.heap.size f).drew.t d).size;clear d)|(go_at_call 242;refine (o.o _ _).m ?_;rintro e w2 ⟨rfl,d⟩;have D:=I (G.o.next (K.o.t (d.m K.o.size)));obtain ⟨⟨T,U⟩,⟨R,Q5⟩,E⟩:=cq D.o.R;clear d))
 all_goals go_wp2
 all_goals refine aK (v:=zd #[J (iW (aP 1 (v 0))).1,J (iW (aP 1 (v 0))).2]) (by simp [results,results220,go_sem,T,U]) rfl ?_
 all_goals exact D.o.fin (iW (aP 1 (v 0)))
def lw (r:zV) (x:By) (n:Int) (a:Option zD) (l c:Nat) (q:Nat->Pt) (Q0:Nat->Option zD) (L C:Nat->Nat) (v:Nat->Vl) (w:zW) (U:1<=l) (Y:l<=3) (y:ib w a l q Q0 L C) (t:kG r w l q Q0 L C v) :
  zC prog 220 #[zd #[bH r],zd #[J 6,Q x,J n,B a l c]] w (dx (nH (aP 2 (v 0))) w):=by
 obtain ⟨g,rfl,j,c0,c1,c2,c3⟩:=y 0 (by omega);rw [jC] at c0 c1 c2 c3;rw [cS] at c1 c2 c3;have z:=I t;have H:(0:Int)<(l:Int):=(by omega);clear y t;obtain ⟨f,h⟩:∃ f,f=(((w.alloc (zM #[bH r] 306)).alloc (zM #[J 6,Q x,J n,zS g l c] 87)).alloc (zM #[J 0,J 0] 177)):=⟨_,rfl⟩;have b:W3 r 6 n x (zS g l c) w f:=by rw [h];exact W3.start r 6 n x _ w
 have G:=I b;have i:=I h;obtain ⟨⟨_,_,_,Q4⟩,_,M⟩:=aX b.p;obtain ⟨⟨Q5,V⟩,⟨f0,f1⟩,zn⟩:=cq b.R;have O:=b.c0;have P:=(b.bS.cell (p:=yh g) j).t c0;have m0:=(b.bS.cell (p:=X g 1) j).t c1;have QT:=(b.bS.cell (p:=X g 2) j).t c2;have m1:=(b.bS.cell (p:=X g 3) j).t c3;have F:=I (λW (o:zB f W)=>z.o 0 (by omega) W (b.bS.t (o.m b.bS.size)));have m:=I (λk W (o:zB f W)=>(z.o.next (b.bS.t (o.m b.bS.size))).only 0 (by omega) k);have Z:=I (λu W=>zm u W);have s:=I (λu W=>rZ u W);clear b c0 c1 c2 c3;go_in
 go_upto_region 14 with fail
 rw [<- i.o];clear h i
 go_region_with (first|(go_at_call 243;refine (m.o 2 _ (aM f.heap.size f).drew).m ?_;rintro e w1 ⟨rfl,d⟩;have K:=I ((aM f.heap.size f).drew.t d);have N:=((aM f.heap.size f).drew.t d).size;clear d)|(go_at_call 244;refine (s.o _ _).m ?_;rintro e w2 ⟨rfl,d⟩;have D:=I (G.o.next (K.o.t (d.m K.o.size)));obtain ⟨⟨S,T⟩,⟨R,Q6⟩,E⟩:=cq D.o.R;clear d))
 all_goals go_wp2
 all_goals refine aK (v:=zd #[J (nH (aP 2 (v 0))).1,J (nH (aP 2 (v 0))).2]) (by simp [results,results220,go_sem,S,T]) rfl ?_
 all_goals exact D.o.fin (nH (aP 2 (v 0)))
section
section
def I8 (R c o:Nat):List By:=(List.replicate (R - c) [[44],aH 82 o]).flatten++[[41]]
def kh (R c o:Nat):List By:=if c=0 then aH 82 o::I8 R 1 o else I8 R c o
def sS (R o:Nat):List By:=[40]::kh R 0 o
def I9 (R c o:Nat) (a:1<=c) (h:c<R):kh R c o=[44]::aH 82 o::kh R (c+1) o:=by
 unfold kh I8;rw [aA (by omega),aA (by omega),show R - c=R - (c+1)+1 by omega,BC];simp
def LW (R o:Nat) (h:1<=R):kh R R o=[[41]]:=by
 unfold kh I8;rw [aA (by omega),nK];rfl
def SF:Tk [40]:=⟨40,_,rfl,by decide,by decide⟩
def LX:Tk [41]:=⟨41,_,rfl,by decide,by decide⟩
def LY:Tk [44]:=⟨44,_,rfl,by decide,by decide⟩
def lQ (len:Nat) (K:List (By × Nat)) (S L:List By) (i j m:Nat):Prop:=∀ C q,cF len (m+q) (S++C) (K.drop i)=cF len q (L++C) (K.drop j)
section
variable {len:Nat} {K:List (By × Nat)}
def lQ.go {S Q0 L:List By} {i j k m n:Nat} (h:lQ len K S (Q0++L) i j m) (g:kH len K Q0 j k n):lQ len K S L i k (m+n):=λC q=>by rw [oJ,h C (n+q),kI,g (L++C) q]
def lQ.no {S Q0 L:List By} {i j m n p:Nat} {er:Int} (h:lQ len K S (Q0++L) i j m) (g:ic len K Q0 j er p n):ic len K S i er p (m+n):=λC q=>by rw [oJ,h C (n+q),kI,g (L++C) q]
def lQ.tok {S L:List By} {x:By} {i j m:Nat} (h:lQ len K S (x::L) i j m) (b:Tk x) (a:aw K j=x):lQ len K S L i (j+1) (m+1):=λC q=>by
 rw [oJ,h C (1+q),mP 1 q,gT,mU len K x j q (L++C) b a]
def lQ.bad {S L:List By} {x:By} {i j m:Nat} (h:lQ len K S (x::L) i j m) (b:Tk x) (a:aw K j≠x):ic len K S i 3 (eF len K j) (m+1):=λC q=>by
 rw [oJ,h C (1+q),mP 1 q,gT,xO len K x j q (L++C) b a]
def lQ.go1 {S:List By} {i j m:Nat} (h:lQ len K S [] i j m):kH len K S i j m:=λC q=>h C q
end
inductive mO (K:List (By × Nat)) (i:Nat):List Pt->Nat->Prop
 | one (j:Nat) (a:Pt):aw K i=[40]->bh K 1 (i+1) j a->mO K i [a] j
 | snoc (l:List Pt) (j j':Nat) (a:Pt):mO K i l j->aw K j=[44]->bh K 1 (j+1) j' a->mO K i (l++[a]) j'
def mO.ne {K:List (By × Nat)} {i j:Nat} {l:List Pt} (h:mO K i l j):l≠[]:=by
 cases h<;>simp
def mO.inv1 {K:List (By × Nat)} {i j:Nat} {l:List Pt} (h:mO K i l j) (d:G l=1):∃ a,l=[a]/\aw K i=[40]/\bh K 1 (i+1) j a:=by
 cases h with
 | one _ a b c=>exact ⟨a,rfl,b,c⟩
 | snoc l j a _ b c e=>
  have:=b.ne;cases l with
  | nil=>exact absurd rfl this
  | cons x l=>simp at d
def mO.inv2 {K:List (By × Nat)} {i j:Nat} {l:List Pt} (h:mO K i l j) (n:Nat) (f:G l=n+2):∃ c a b,l=c++[a]/\G c=n+1/\mO K i c b/\aw K b=[44]/\bh K 1 (b+1) j a:=by
 cases h with
 | one _ a d e=>simp at f
 | snoc l b _ a d e g=>exact ⟨l,a,b,rfl,by simp at f;omega,d,e,g⟩
def mO.ane {K:List (By × Nat)} {i j:Nat} {l:List Pt} (h:mO K i l j) (r:G l=3):∃ a b c d e,l=[a,b,c]/\aw K i=[40]/\bh K 1 (i+1) d a/\aw K d=[44]/\bh K 1 (d+1) e b/\aw K e=[44]/\bh K 1 (e+1) j c:=by
 obtain ⟨u,c,e,rfl,f,q,k,o⟩:=h.inv2 1 r;obtain ⟨v,b,d,rfl,m,p,n,g⟩:=q.inv2 0 f;obtain ⟨a,rfl,s,t⟩:=p.inv1 m;exact ⟨a,b,c,d,e,rfl,s,t,n,g,k,o⟩
abbrev KR:=Pt × Option zD × Nat × Nat
def ky (C:List KR):List zV:=C.flatMap λx=>[J (x.1.k:Int),Q x.1.nm,J (x.1.n:Int),B x.2.1 x.2.2.1 x.2.2.2]
def VG (C:List KR) (x:KR):ky (C++[x])=ky C++[J (x.1.k:Int),Q x.1.nm,J (x.1.n:Int),B x.2.1 x.2.2.1 x.2.2.2]:=by simp [ky]
def Dp (C:List KR) (j:Nat) (h:j<G C):(ky C)[j*4]?=A (J (C[j].1.k:Int))/\(ky C)[j*4+1]?=A (Q C[j].1.nm)/\(ky C)[j*4+2]?=A (J (C[j].1.n:Int))/\(ky C)[j*4+3]?=A (B C[j].2.1 C[j].2.2.1 C[j].2.2.2):=by
 induction C generalizing j with
 | nil=>simp at h
 | cons t C E=>
  have D:ky (t::C)=J (t.1.k:Int)::Q t.1.nm::J (t.1.n:Int)::B t.2.1 t.2.2.1 t.2.2.2::ky C:=(by simp [ky]);rw [D];cases j with
  | zero=>simp
  | succ j=>
   have:=E j (by simpa using h);rw [show (j+1)*4=j*4+1+1+1+1 by omega];simpa using this
def Fu:(prog.info? 87).map (λi=>(i.zero,i.size,i.bytes))=A (A (zd #[J 0,Q [],J 0,zN]),4,56):=by kernel_rfl
def dR.row {w:zW} {S:Nat->Prop} {C:List KR} {g d Q4:Nat} (a:w.ownsRow Q4 87 4 (zS g (G C) d) (G C) (ky C)) (n:∀ x,x∈C->dR w S x.1 x.2.1 x.2.2.1 x.2.2.2) (m:S g) (p:Pt) (i:p.kids=C.map (·.1)) (l:C≠[]):dR w S p (A (yh g)) (G C) d:=by
 have e:G p.kids=G C:=by rw [i,fy]
 have c:∀ j (h:j<G p.kids),p.kids[j]=(C[j]'(by omega)).1:=λj h=>by
  simp only [i,kJ]
 have:=dR.node (w:=w) (S:=S) p g d (λj=>((C[j]?).map (·.2.1)).getD none) (λj=>((C[j]?).map (·.2.2.1)).getD 0) (λj=>((C[j]?).map (·.2.2.2)).getD 0) m (by rw [i];simpa using l) (λj k=>?_) (λj k=>?_)
 .rw [e] at this;exact this
 .have b:j<G C:=(by omega);have f:=Dp C j b;rw [c j k];simp only [b,cU,oH,Option.getD_some];refine ⟨?_,?_,?_,?_⟩
  .rw [a.cellAt (j*4) (by omega)];exact f.1
  .rw [a.cellAt (j*4+1) (by omega)];exact f.2.1
  .rw [a.cellAt (j*4+2) (by omega)];exact f.2.2.1
  .rw [a.cellAt (j*4+3) (by omega)];exact f.2.2.2
 .have b:j<G C:=(by omega);rw [c j k];simp only [b,cU,oH,Option.getD_some];exact n _ (bt b)
section
variable {len:Nat} {K:List (By × Nat)} {b bl cp:Nat}
def lE (kd R i:Nat) (d e:Int) (w:zW) (h:cX w b bl cp (aL len K) i d e) (k:((aL len K)[i]'h.lt).1≠9) :
  zC prog 159 #[zJ b,J kd,J R] w λr C=>r=zP (zp #[zd #[J 0,Q [],J 0,zN],zF false])/\cX C b bl cp (aL len K) i d 3/\Kp b w C:=by
 have H:=I (λw1 (g:cX w1 b bl cp (aL len K) i d e)=>P9 w1 b bl cp _ i d e 9 g k);have D:=h.size;have m:=I h;clear k h;go_in;go_wp2_with (go_at_call 94;refine mo (H.o _ (m.o.next (bZ _))) ?_;rintro e C ⟨rfl,j,a⟩);obtain ⟨⟨E,F,L,M⟩,⟨f0,f1,f2,f3⟩,l⟩:=aX (a.blk (q:=w.heap.size) (bL w _) (by omega));have n:=I a;have c:=I j;clear j a;apply I;go_wp2;refine aK (v:=zp #[zd #[J 0,Q [],J 0,zN],zF false]) (by simp [results,results159,go_sem,E,F,L,M]) rfl ?_;have f:Kp b w C:=(Kp.of (bZ _) D).t n.o;exact ⟨rfl,c.o.ep w.heap.size _ _ _ _ D,f.dF w.heap.size _ _ _ _ (aG _) D⟩
def lM (kd R i:Nat) (e:Int) (w:zW) (h:cX w b bl cp (aL len K) i 6 e) (l:((aL len K)[i]'h.lt).1=9) :
  zC prog 159 #[zJ b,J kd,J R] w λr C=>r=zP (zp #[zd #[J 0,Q [],J 0,zN],zF false])/\cX C b bl cp (aL len K) i 6 4/\Kp b w C:=by
 have H:=I (λw1 (g:cX w1 b bl cp (aL len K) i 6 e)=>Bn w1 b bl cp _ i 6 e 9 g l);have n:=I (λw1 (g:cX w1 b bl cp (aL len K) i 6 e)=>FJ w1 b bl cp _ i e g);have D:=h.size;have j:=I h;clear l h;go_in;go_wp2_with (first|(go_at_call 94;refine (H.o _ (j.o.next (bZ _))).m ?_;rintro e C ⟨rfl,rfl⟩)|(go_at_call 158;refine mo (n.o _ (j.o.next (bZ _))) ?_;rintro e C ⟨rfl,k,a⟩));obtain ⟨⟨F,L,M,N⟩,⟨f0,f1,f2,f3⟩,E⟩:=aX (a.blk (q:=w.heap.size) (bL w _) (by omega));have m:=I a;have d:=I k;clear k a;apply I;go_wp2;refine aK (v:=zp #[zd #[J 0,Q [],J 0,zN],zF false]) (by simp [results,results159,go_sem,F,L,M,N,E]) rfl ?_;have f:Kp b w C:=(Kp.of (bZ _) D).t m.o;have c:=f.dF w.heap.size (J 0) (Q []) (J 0) (zN) (aG _) D;exact ⟨rfl,(d.o.ep w.heap.size _ _ _ _ D).next (bZ _),c.next (bZ _) (by have:=c.size;omega)⟩
end
end
end
section
section
structure A9 (len:Nat) (K:List (By × Nat)) (b bl cp:Nat) (w:zW) (gW kd d:Nat) (e:Int) (wr:zW) (U:Nat) (ks:List KR) (Z:Option zD) (n cap:Nat):Prop where
 st:St len K wr b bl cp U (d+1) e
 kp:Kp b w wr
 res:wr.heap[w.heap.size]?=A (zM #[J 0,Q [],J 0,zN] 87 (0,0))
 sO:wr.heap[gW]?=A (zM #[J kd,Q [],J 0,B Z n cap] 87 (0,0))
 own:wr.ownsRow (gW+1) 87 4 (B Z n cap) n (ky ks)
 len:n=G ks
 kid:∀ x,x∈ks->dR wr (λq=>gW<q/\q<wr.heap.size/\(B Z n cap).ownBlock≠A q) x.1 x.2.1 x.2.2.1 x.2.2.2
 gw:w.heap.size<gW
 env:Env w
 bw:b<w.heap.size
section
variable {len:Nat} {K:List (By × Nat)} {b bl cp:Nat} {w:zW} {gW kd d:Nat} {e:Int} {wr:zW} {U:Nat} {ks:List KR} {Z:Option zD} {n cap:Nat}
def St.ajR {c d2:Nat} {d w2 w3:zW} (h:St len K w2 b bl cp c d2 e) (g:w3.heap[b]?=w2.heap[b]?) (i:w3.heap[bl]?=w2.heap[bl]?) (f:Env d) (a:Below b d w3):St len K w3 b bl cp c d2 e:=
 ⟨h.rd.apart g i,f.below a (by have:=h.low;have:=h.rd.blk;omega),h.low⟩
def A9.keep (h:A9 len K b bl cp w gW kd d e wr U ks Z n cap) {w2:zW} (a:Kp b wr w2):w2.ownsRow (gW+1) 87 4 (B Z n cap) n (ky ks)/\∀ x,x∈ks->dR w2 (λq=>gW<q/\q<w2.heap.size/\(B Z n cap).ownBlock≠A q) x.1 x.2.1 x.2.2.1 x.2.2.2:=by
 have l:=h.gw;have m:=h.bw;have i:=a.size;refine ⟨?_,λx j=>?_⟩
 .refine h.own.kept (row:=A b) ⟨a.bS.os,a.bS.tape,a.bS.output,a.size,λk g f=>a.heap (λe=>f (by rw [e])) g⟩ (zZ λe=>?_);have:=(h.own.lt b e).1;omega
 .exact ((h.kid x j).next λq c=>a.heap (by omega) c.2.1).wide λq c=>⟨c.1,by omega,c.2.2⟩
def A9.call (h:A9 len K b bl cp w gW kd d e wr U ks Z n cap) {w2:zW} {c:Nat} (a:Kp b wr w2) (f:St len K w2 b bl cp c (d+1) e):A9 len K b bl cp w gW kd d e w2 c ks Z n cap:=by
 have g:=h.gw;have i:=h.bw;exact ⟨f,h.kp.t a,a.blk h.res (by omega),a.blk h.sO (by omega),(h.keep a).1,h.len,(h.keep a).2,h.gw,h.env,h.bw⟩
def A9.app (h:A9 len K b bl cp w gW kd d e wr U ks Z n cap) {w2:zW} {QV:Nat} (Q4:Kp b wr w2) (O:St len K w2 b bl cp QV (d+1) e) (x:KR) (N:dR w2 (λq=>wr.heap.size<=q/\q<w2.heap.size) x.1 x.2.1 x.2.2.1 x.2.2.2)
  {W w3:zW} (z:zB w2 W) (c:W.grownBy w3 (B Z n cap).ownBlock) {g a:Nat} (E:(B Z n cap).ownBlock=A g\/g=W.heap.size)
  (v:w3.ownsRow (gW+1) 87 4 (zS g (n+1) a) (n+1) (ky ks++[J (x.1.k:Int),Q x.1.nm,J (x.1.n:Int),B x.2.1 x.2.2.1 x.2.2.2])) :
  A9 len K b bl cp w gW kd d e (w3.setCell (X gW 3) (zS g (n+1) a)) QV (ks++[x]) (A (yh g)) (n+1) a:=by
 have t:=h.call Q4 O;have R:=h.gw;have S:=h.bw;have M:=Q4.size;have G:=z.size;have H:=c.size;have F:gW<wr.heap.size:=(cz.1 h.sO).1;have l:∀ q,(B Z n cap).ownBlock=A q->gW+1<=q/\q<wr.heap.size:=h.own.lt;have i:∀ q,q<w2.heap.size->(B Z n cap).ownBlock≠A q->q≠gW->(w3.setCell (X gW 3) (zS g (n+1) a)).heap[q]?=w2.heap[q]?:=λq f j o=>by
  rw [cY _ _ _ _ (by exact o),c.block q (by omega) (λe=>j e.symm),z.block q f]
 have m:∀ q,q<=gW->(B Z n cap).ownBlock≠A q:=λq f e=>by have:=l q e;omega
 have Y:=h.st.rd.blk;have V:=t.kp.size;have r:Below b w (w3.setCell (X gW 3) (zS g (n+1) a)):=
  t.kp.bS.t (((z.m (by omega)).grown c (by omega) (λk Q4=>by have:=l k Q4;omega)).setCell (p:=X gW 3) (by show b<=gW;omega) _)
 have C:Kp b w (w3.setCell (X gW 3) (zS g (n+1) a)):=
  ⟨r,λq f D=>(i q (by omega) (m q (by omega)) (by omega)).t (t.kp.up q f D)⟩
 have P:=t.st.rd.size;have u:w3.heap[gW]?=w2.heap[gW]?:=by rw [c.block gW (by omega) (λe=>m gW (aG _) e.symm),z.block gW (by omega)]
 have s:(w3.setCell (X gW 3) (zS g (n+1) a)).heap.size=w3.heap.size:=(by simp);have o:∀ q,q<w2.heap.size->(B Z n cap).ownBlock≠A q->(B (A (yh g)) (n+1) a).ownBlock≠A q:=λq f j e=>by
  have e1:g=q:=by simpa [Value.ownBlock] using e
  rcases E with L|L
  .exact j (by rw [L,e1])
  .omega
 refine ⟨?_,C,?_,?_,?_,?_,λy T=>?_,h.gw,h.env,h.bw⟩
 .refine t.st.ajR ?_ ?_ h.env r
  .exact i b (by omega) (m b (by omega)) (by omega)
  .exact i bl (by omega) (m bl (by omega)) (by omega)
 .exact (i w.heap.size (by omega) (m _ (by omega)) (by omega)).t t.res
 .rw [aj (u.t t.sO)];rfl
 .rw [VG];exact ym v (by show gW<gW+1;omega) _
 .rw [b6,h.len];rfl
 .rw [cG,iB] at T;rcases T with T|rfl
  .exact ((t.kid y T).next λq f=>i q f.2.1 f.2.2 (by omega)).wide λq f=>⟨f.1,by rw [s];omega,o q f.2.1 f.2.2⟩
  .have j:∀ q,wr.heap.size<=q->(B Z n cap).ownBlock≠A q:=λq f e=>by have:=l q e;omega
   exact (N.next λq f=>i q f.2 (j q f.1) (by omega)).wide λq f=>⟨by omega,by rw [s];omega,o q f.2 (j q f.1)⟩
def A9.fin (h:A9 len K b bl cp w gW kd d e wr U ks Z n cap) {i:zW} (u:Kp b wr i) (t:1<=n) (v0 v1 v2 v3:zV) (p:Pt) (s:p.kids=ks.map (·.1)) :
  dR ((((i.setCell (yh w.heap.size) v0).setCell (X w.heap.size 1) v1).setCell (X w.heap.size 2) v2).setCell (X w.heap.size 3) v3) (λq=>w.heap.size<=q/\q<((((i.setCell (yh w.heap.size) v0).setCell (X w.heap.size 1) v1).setCell (X w.heap.size 2) v2).setCell (X w.heap.size 3) v3).heap.size) p Z n cap:=by
 obtain ⟨a,c⟩:=h.keep u;have v:=h.gw;have y:=h.bw;obtain ⟨g,k,l,o,j⟩:=a.form (by omega);simp only [B.injEq,true_and] at l;obtain ⟨rfl,rfl⟩:=l;have f:=h.len;subst f;refine dR.row (Q4:=gW+1) (ym (ym (ym (ym a (by show w.heap.size<gW+1;omega) _) (by show w.heap.size<gW+1;omega) _) (by show w.heap.size<gW+1;omega) _) (by show w.heap.size<gW+1;omega) _) (λx r=>?_) ?_ p s (λe=>by subst e;simp at t)
 .exact ((c x r).next λq m=>lx i w.heap.size v0 v1 v2 v3 (by omega)).wide λq m=>⟨by omega,by rw [js];exact m.2.1⟩
 .exact ⟨by omega,by rw [js];exact j⟩
end
end
end
section
section
def VH (K:List (By × Nat)) (i kd R:Nat) (a:Nat) (p:Pt):Prop:=∃ l j,mO K i l j/\G l=R/\aw K j=[41]/\a=j+1/\p.k=kd/\p.nm=[]/\p.n=0/\p.kids=l
def lN (kd R:Nat) (e:R=1\/(R=3/\kd=3)) (l:List Pt) (d:G l=R):∃ p:Pt,p.k=kd/\p.nm=[]/\p.n=0/\p.kids=l:=by
 rcases e with rfl|⟨rfl,rfl⟩
 .match l,d with
  | [a],_=>exact ⟨.un kd a,rfl,rfl,rfl,rfl⟩
 .match l,d with
  | [a,b,c],_=>exact ⟨.ifs a b c,rfl,rfl,rfl,rfl⟩
section
variable {len:Nat} {K:List (By × Nat)} {b bl cp:Nat}
def lP (AU:fV K) (ag:Nat) (IH:zv len K b bl cp ag) (kd R i d:Nat) (hR:R=1\/(R=3/\kd=3)) (e:Int) (w:zW) (hd:d<6) (ht:aw K i=[40]) (hF:10*(G K - i)<ag) (hS:St len K w b bl cp i d e) :
  zC prog 159 #[zJ b,J kd,J R] w (dQ len K (sS R (d+1)) (VH K i kd R) 14 b bl cp i d e w):=by
 have bu:=hS.rd.lt;have hi:i<G K:=uE (by decide) ht;have aJ:((aL len K)[i]).1=9:=(AU.word bu [40] 9 (by decide)).2 ht;have ak:=I (λF (g:cX F b bl cp (aL len K) i (d:Int) e)=>Bn F b bl cp _ i d e 9 g aJ);have H2:=I (λF (g:cX F b bl cp (aL len K) i (d:Int) e)=>DG F b bl cp _ i d e g hd (by rw [kP];omega));have N:=hS.rd.size;have b0:=hS.rd.blk;have bO:=hS.rd.many;have HS:=I hS;have SK:=I IH;have HT:=I ht;have AW:=I AU;have ba:=I hR;have au:1<=R:=(by omega);have bX:R<=3:=(by omega);obtain ⟨i0,Ud,a0,a1,a2⟩:=fe Fu;clear IH ht AU aJ hR;go_in;go_wp2_with (first|(go_at_call 94;refine (ak.o _ (HS.o.rd.next (bZ _))).m ?_;rintro e w' ⟨rfl,rfl⟩)|(go_at_call 158;refine mo (H2.o _ (HS.o.rd.next (bZ _))) ?_;rintro e F ⟨rfl,hr,af⟩));have aa:=af.blk (q:=w.heap.size) (bL w _) (by omega);have Jj:Kp b w F:=(Kp.of (bZ _) N).t af;have av:St len K F b bl cp (i+1) (d+1) e:=HS.o.down (d':=d+1) hr Jj.bS;have Cg:=(cz.1 aa).1;generalize ((aL len K)[i]).2.2.2=tn at *;generalize ((aL len K)[i]).2.2.1=tx at *;generalize ((aL len K)[i]).2.1=tp at *;generalize ((aL len K)[i]).1=tk at *;have bb:=I (show A9 len K b bl cp w (F.heap.size+1) kd d e ((F.alloc (zM #[J tk,J tp,Q tx,J tn] 134)).alloc (zM #[J kd,Q [],J 0,zN] 87)) (i+1) [] none 0 0 from
  ⟨av.next (aY _ _ _),Jj.next (aY _ _ _) (by omega),(tC _ _ _ Cg).t aa,by have:=bL (F.alloc (zM #[J tk,J tp,Q tx,J tn] 134)) (zM #[J kd,Q [],J 0,zN] 87);simpa using this,eW _ _ _ _,rfl,(λcd hx=>by cases hx),by omega,HS.o.env,N⟩)
 clear hr af aa Jj av ak H2;apply I;go_wp2;go_loopw [29] (λci wr=>∃ (c n m:Nat) (P:List KR) (U:Option zD) (C:Nat),c<=R/\ci=J c/\i<n/\m+19<=20*(n - i)/\Hid (A9 len K b bl cp w (F.heap.size+1) kd d e wr n P U c C)/\Hid (lQ len K (sS R (d+1)) (kh R c (d+1)) i n m)/\Hid ((c=0->n=i+1)/\(0<c->mO K i (P.map (·.1)) n))) (λci _=>R - (intOf ci).toNat)
 case atStart=>
  refine ⟨0,i+1,1,[],none,0,by omega,rfl,by omega,by omega,bb,?_,λ_=>rfl,λh=>absurd h (by omega)⟩;intro QT a3;rw [mP 1 a3];exact mU len K [40] i a3 _ SF HT.o
 case round=>
  obtain ⟨c,n,m,P,U,C,hc,rfl,b2,hm,f,NL,A0⟩:=hrel;have b3:n<=G K:=f.o.st.le;by_cases bs:c<R
  .by_cases h0:c=0
   .subst h0;have HL:=I (SK.o 1 n (d+1) e wr (by omega) (by omega) (by omega) (by omega) f.o.st);go_wp2_with (go_at_call 93;refine HL.o.m ?_;rintro A2 M (⟨H,W,p,a,l,z,rfl,hp,hD,Q4,br,o,D7,k2⟩|⟨H,W,d2,er,bN,n2,s2,a,l,z,rfl,oO,ks,o,D7,k3⟩)<;>apply Hid.o)
    .have u:=f.o.call o Q4;obtain ⟨⟨V,Y,Z,j⟩,⟨f0,f1,f2,f3⟩,x⟩:=aX u.sO;have y:=I u;have q:=I Q4;have r:=I o;have S:=I hp;have A5:=I (show lQ len K (sS R (d+1)) (kh R (0+1) (d+1)) i H (m+W) from lQ.go (Q0:=[aH (lv 1) (d+1)]) (by rw [vL];exact NL.o) k2);have A7:=I (show mO K i ((P++[(p,a,l,z)]).map (·.1)) H by
      have h1:=A0.o.1 trivial;have u:=f.o.len;obtain rfl:P=[]:=oD u.symm;subst h1;exact mO.one H p HT.o hD)
     have Q6:=I (show ∀ A1 h2,([Value.int .i64 (p.k:Int),Q p.nm,J p.n,B a l z])[A1]?=A h2->((M.alloc (zM #[J p.k,Q p.nm,J p.n,B a l z] 87)).alloc (zM #[J p.k,Q p.nm,J p.n,B a l z] 87)).cell? (((yh (M.heap.size+1)):zD).add A1)=A h2 by
      have:=World.news_of_block (cs:=#[J p.k,Q p.nm,J p.n,B a l z]) (t:=87) (fr:=(0,0)) (bL (M.alloc (zM #[J p.k,Q p.nm,J p.n,B a l z] 87)) (zM #[J p.k,Q p.nm,J p.n,B a l z] 87));simpa using this)
     clear u Q4 o hp hD k2;apply I;go_wp2_with (at_builtin;refine rq _ rfl (.tmp 49) (.tmp 51) 85 rfl (F.heap.size+1+1) 87 i0 (zd #[J 0,Q [],J 0,zN]) 4 56 underlying85 Ud a0 a1 a2 rfl (by decide) (B U 0 C) 0 (ky P) rfl ((y.o.own.alloc _).alloc _) (yh (M.heap.size+1)) 1 1 [J p.k,Q p.nm,J p.n,B a l z] rfl rfl Q6.o (by simp [Value.oneCell']) (by omega) (by unfold maxLen;omega) (by omega) (by simp;omega) (M.heap.size+1+1) (by simp) ?_;intro g ad w3 Q5 w1 k1 _;apply Hid.o);have k0:=(w1.block (F.heap.size+1) (by simp;omega) (λe=>by have:=(y.o.own.lt _ e.symm).1;omega)).t ((tC M _ _ x).t y.o.sO);obtain ⟨⟨_,_,_,q3⟩,⟨_,_,_,g3⟩,oU⟩:=aX k0;have A6:=I (f.o.app r.o q.o (p,a,l,z) S.o (aY M _ _) w1 (by simpa using k1) Q5);clear k0 Q5 w1 k1 V Y Z j f0 f1 f2 f3 Q6;apply I;go_wp2;go_roundw
     case rel=>exact ⟨0+1,H,m+W,P++[(p,a,l,z)],A (yh g),ad,by omega,by go_num,by omega,by omega,A6,A5,λh=>by omega,λ_=>A7.o⟩
     case measure=>simp [intOf];omega
    .obtain ⟨⟨V,Y,Z,j⟩,⟨f0,f1,f2,f3⟩,x⟩:=aX (o.blk f.o.res (by omega));have q:=I oO;have r:=I (f.o.kp.t o);have S:=I (show ic len K (sS R (d+1)) i er (eF len K H) (m+W) from lQ.no (Q0:=[aH (lv 1) (d+1)]) (L:=kh R (0+1) (d+1)) (by rw [vL];exact NL.o) k3);have A4:=I ks;clear oO o k3 ks;apply I;go_wp2;refine aK (v:=zp #[zd #[J 0,Q [],J 0,zN],zF false]) (by simp [results,results159,go_sem,V,Y,Z,j,x]) rfl ?_;have T:=r.o.dF w.heap.size (J 0) (Q []) (J 0) (zN) (aG _) N;exact zZ ⟨H,m+W,d2,er,0,0,[],none,0,0,rfl,(q.o.ep w.heap.size _ _ _ _ N).next (bZ _),A4.o,T.next (bZ _) (by have:=T.size;omega),by omega,S.o⟩
   .have bk:1<=c:=(by omega);have hs:=f.o.st.rd.lt;have an:=I (I9 R c (d+1) bk bs);have b1:(0:Int)<(c:Int):=(by omega);by_cases O:aw K n=[44]
    .have bn:n<G K:=uE (by decide) O;have QV:((aL len K)[n]).1=11:=(AW.o.word hs [44] 11 (by decide)).2 O;have HP:=I (FI wr b bl cp _ n _ e 11 f.o.st.rd QV (by rw [kP];omega));have SI:=I (show lQ len K (sS R (d+1)) (aH 82 (d+1)::kh R (c+1) (d+1)) i (n+1) (m+1) from lQ.tok (by rw [<- an.o];exact NL.o) LY O);have a5:=I O;clear O QV;go_wp2_with (go_at_call 188;refine mo HP.o ?_;rintro A2 D ⟨rfl,s,k⟩);have A3:=I (f.o.call k (f.o.st.down (d':=d+1) s k.bS));have HL:=I (SK.o 1 (n+1) (d+1) e D (by omega) (by omega) (by omega) (by omega) A3.o.st);clear s k HP;apply I;go_wp2_with (go_at_call 93;refine HL.o.m ?_;rintro A2 M (⟨H,W,p,a,l,z,rfl,hp,hD,Q4,br,o,D7,k2⟩|⟨H,W,d2,er,bN,n2,s2,a,l,z,rfl,oO,ks,o,D7,k3⟩)<;>apply Hid.o)
     .have u:=A3.o.call o Q4;obtain ⟨⟨V,Y,Z,j⟩,⟨f0,f1,f2,f3⟩,x⟩:=aX u.sO;have y:=I u;have q:=I Q4;have r:=I o;have S:=I hp;have A5:=I (show lQ len K (sS R (d+1)) (kh R (c+1) (d+1)) i H ((m+1)+W) from lQ.go (Q0:=[aH (lv 1) (d+1)]) (by rw [vL];exact SI.o) k2);have A7:=I (show mO K i ((P++[(p,a,l,z)]).map (·.1)) H by
       rw [fK];exact mO.snoc _ n H p (A0.o.2 (by omega)) a5.o hD)
      have Q6:=I (show ∀ A1 h2,([Value.int .i64 (p.k:Int),Q p.nm,J p.n,B a l z])[A1]?=A h2->((M.alloc (zM #[J p.k,Q p.nm,J p.n,B a l z] 87)).alloc (zM #[J p.k,Q p.nm,J p.n,B a l z] 87)).cell? (((yh (M.heap.size+1)):zD).add A1)=A h2 by
       have:=World.news_of_block (cs:=#[J p.k,Q p.nm,J p.n,B a l z]) (t:=87) (fr:=(0,0)) (bL (M.alloc (zM #[J p.k,Q p.nm,J p.n,B a l z] 87)) (zM #[J p.k,Q p.nm,J p.n,B a l z] 87));simpa using this)
      clear u Q4 o hp hD k2;apply I;go_wp2_with (at_builtin;refine rq _ rfl (.tmp 49) (.tmp 51) 85 rfl (F.heap.size+1+1) 87 i0 (zd #[J 0,Q [],J 0,zN]) 4 56 underlying85 Ud a0 a1 a2 rfl (by decide) (B U c C) c (ky P) rfl ((y.o.own.alloc _).alloc _) (yh (M.heap.size+1)) 1 1 [J p.k,Q p.nm,J p.n,B a l z] rfl rfl Q6.o (by simp [Value.oneCell']) (by omega) (by unfold maxLen;omega) (by omega) (by simp;omega) (M.heap.size+1+1) (by simp) ?_;intro g ad w3 Q5 w1 k1 _;apply Hid.o);have k0:=(w1.block (F.heap.size+1) (by simp;omega) (λe=>by have:=(y.o.own.lt _ e.symm).1;omega)).t ((tC M _ _ x).t y.o.sO);obtain ⟨⟨_,_,_,q3⟩,⟨_,_,_,g3⟩,oU⟩:=aX k0;have A6:=I (A3.o.app r.o q.o (p,a,l,z) S.o (aY M _ _) w1 (by simpa using k1) Q5);clear k0 Q5 w1 k1 V Y Z j f0 f1 f2 f3 Q6;apply I;go_wp2;go_roundw
      case rel=>exact ⟨c+1,H,(m+1)+W,P++[(p,a,l,z)],A (yh g),ad,by omega,by go_num,by omega,by omega,A6,A5,λh=>by omega,λ_=>A7.o⟩
      case measure=>simp [intOf];omega
     .obtain ⟨⟨V,Y,Z,j⟩,⟨f0,f1,f2,f3⟩,x⟩:=aX (o.blk A3.o.res (by omega));have q:=I oO;have r:=I (A3.o.kp.t o);have S:=I (show ic len K (sS R (d+1)) i er (eF len K H) ((m+1)+W) from lQ.no (Q0:=[aH (lv 1) (d+1)]) (L:=kh R (c+1) (d+1)) (by rw [vL];exact SI.o) k3);have A4:=I ks;clear oO o k3 ks;apply I;go_wp2;refine aK (v:=zp #[zd #[J 0,Q [],J 0,zN],zF false]) (by simp [results,results159,go_sem,V,Y,Z,j,x]) rfl ?_;have T:=r.o.dF w.heap.size (J 0) (Q []) (J 0) (zN) (aG _) N;exact zZ ⟨H,(m+1)+W,d2,er,0,0,[],none,0,0,rfl,(q.o.ep w.heap.size _ _ _ _ N).next (bZ _),A4.o,T.next (bZ _) (by have:=T.size;omega),by omega,S.o⟩
    .have QV:((aL len K)[n]).1≠11:=λh=>O ((AW.o.word hs [44] 11 (by decide)).1 h);have HP:=I (LB wr b bl cp _ n _ e 11 f.o.st.rd QV);have S:=I (show ic len K (sS R (d+1)) i 3 (eF len K n) (m+1) from lQ.bad (by rw [<- an.o];exact NL.o) LY O);clear O QV;go_wp2_with (go_at_call 188;refine mo HP.o ?_;rintro A2 D ⟨rfl,s,k⟩);obtain ⟨⟨V,Y,Z,j⟩,⟨f0,f1,f2,f3⟩,x⟩:=aX (k.blk f.o.res (by omega));have q:=I s;have r:=I (f.o.kp.t k);clear s k HP;apply I;go_wp2;refine aK (v:=zp #[zd #[J 0,Q [],J 0,zN],zF false]) (by simp [results,results159,go_sem,V,Y,Z,j]) rfl ?_;exact zZ ⟨n,m+1,_,3,0,0,[],none,0,0,rfl,q.o.ep w.heap.size _ _ _ _ N,by decide,r.o.dF w.heap.size _ _ _ _ (aG _) N,by omega,S.o⟩
  .obtain rfl:c=R:=(by omega);obtain ⟨_,c2,_,fz⟩:=f.o.st.rd.cell;have bS:=fz 1;clear fz;obtain ⟨⟨V,Y,Z,j⟩,⟨f0,f1,f2,f3⟩,x⟩:=aX f.o.res;obtain ⟨⟨q0,q1,q2,q3⟩,_,JY⟩:=aX f.o.sO;have ar:((d+1:Nat):Int)=(d:Int)+1:=(by omega);rw [ar] at c2;clear ar;obtain ⟨ax,ay⟩:=f.o.st.Ay d;have am:=I ax;have al:=I ay;clear ax ay;have a9:=I (λw4 (g:cX w4 b bl cp (aL len K) n (d:Int) e) hk hi=>FI w4 b bl cp _ n _ e 10 g hk hi);have a8:=I (λw4 (g:cX w4 b bl cp (aL len K) n (d:Int) e) hk=>LB w4 b bl cp _ n _ e 10 g hk);have hs:=f.o.st.rd.lt;have ao:=I (show lQ len K (sS c (d+1)) ([41]::[]) i n m by have:=NL.o;rw [LW c (d+1) au] at this;exact this);have HX:=I (show ∀ D,Kp b ((wr.setCell (X b 1) (J d)).drew) D->D.heap[w.heap.size]?=A (zM #[J 0,Q [],J 0,zN] 87 (0,0))/\D.heap[F.heap.size+1]?=A (zM #[J kd,Q [],J 0,B U c C] 87 (0,0)) from λD h=>
    ⟨h.blk ((cY wr (X b 1) (J d) w.heap.size (by show w.heap.size≠b;omega)).t f.o.res) (by omega),h.blk ((cY wr (X b 1) (J d) (F.heap.size+1) (by show F.heap.size+1≠b;omega)).t f.o.sO) (by omega)⟩)
   by_cases E:aw K n=[41]
   .have bn:n<G K:=uE (by decide) E;have w2:((aL len K)[n]).1=10:=(AW.o.word hs [41] 10 (by decide)).2 E;have ac:=I w2;have bj:=I (show n+1<(aL len K).length by rw [kP];omega);have HG:=I (show kH len K (sS c (d+1)) i (n+1) (m+1) from lQ.go1 (lQ.tok ao.o LX E));have a4:=I E;clear E w2;have iL:=I (show ∀ D,cX D b bl cp (aL len K) (n+1) (d:Int) e->Kp b ((wr.setCell (X b 1) (J d)).drew) D->∀ v0 v1 v2 v3,dQ len K (sS c (d+1)) (VH K i kd c) 14 b bl cp i d e w (zP (zp #[zd #[J kd,Q [],J 0,B U c C],zF true])) ((((D.setCell (yh w.heap.size) v0).setCell (X w.heap.size 1) v1).setCell (X w.heap.size 2) v2).setCell (X w.heap.size 3) v3) from λD s k v0 v1 v2 v3=>by
     have T:Kp b wr D:=(Kp.drew al.o).t k;have cc:=f.o.len;obtain ⟨p,e1,e2,e3,e4⟩:=lN kd c ba.o (P.map (·.1)) (by rw [fy];omega);refine zR ⟨n+1,m+1,p,U,c,C,by rw [e1,e2,e3];rfl,f.o.fin T au v0 v1 v2 v3 p e4,⟨P.map (·.1),n,A0.o.2 (by omega),by rw [fy];omega,a4.o,rfl,e1,e2,e3,e4⟩,(f.o.st.down (d':=d) s T.bS).ep w.heap.size _ _ _ _ N,by omega,(f.o.kp.t T).dF w.heap.size _ _ _ _ (aG _) N,by omega,HG.o⟩)
    go_wp2_with fail
    go_region_with (first|(go_at_call 188;refine (a9.o _ am.o.rd.drew ac.o bj.o).m ?_;rintro A2 D ⟨rfl,s,k⟩;obtain ⟨⟨y0,y1,y2,y3⟩,⟨z0,z1,z2,z3⟩,bw⟩:=aX (HX.o _ k).1;obtain ⟨⟨x0,x1,x2,x3⟩,_,bv⟩:=aX (HX.o _ k).2;have B1:=I s;have B2:=I k;clear s k))
    all_goals go_wp2
    all_goals refine aK (v:=zp #[zd #[J kd,Q [],J 0,B U c C],zF true]) (by simp [results,results159,go_sem,y0,y1,y2,y3]) rfl ?_
    all_goals exact iL.o D B1.o B2.o _ _ _ _
   .have w2:((aL len K)[n]).1≠10:=λh=>E ((AW.o.word hs [41] 10 (by decide)).1 h);have ac:=I w2;have S:=I (show ic len K (sS c (d+1)) i 3 (eF len K n) (m+1) from lQ.bad ao.o LX E);clear E w2;have iL:=I (show ∀ D,cX D b bl cp (aL len K) n (d:Int) 3->Kp b ((wr.setCell (X b 1) (J d)).drew) D->∀ v0 v1 v2 v3,dQ len K (sS c (d+1)) (VH K i kd c) 14 b bl cp i d e w (zP (zp #[zd #[J kd,Q [],J 0,B U c C],zF false])) ((((D.setCell (yh w.heap.size) v0).setCell (X w.heap.size 1) v1).setCell (X w.heap.size 2) v2).setCell (X w.heap.size 3) v3) from λD s k v0 v1 v2 v3=>by
     have T:Kp b wr D:=(Kp.drew al.o).t k;exact zZ ⟨n,m+1,d,3,kd,0,[],U,c,C,rfl,s.ep w.heap.size _ _ _ _ N,by decide,(f.o.kp.t T).dF w.heap.size _ _ _ _ (aG _) N,by omega,S.o⟩)
    go_wp2_with fail
    go_region_with (first|(go_at_call 188;refine (a8.o _ am.o.rd.drew ac.o).m ?_;rintro A2 D ⟨rfl,s,k⟩;obtain ⟨⟨y0,y1,y2,y3⟩,⟨z0,z1,z2,z3⟩,bw⟩:=aX (HX.o _ k).1;obtain ⟨⟨x0,x1,x2,x3⟩,_,bv⟩:=aX (HX.o _ k).2;have B1:=I s;have B2:=I k;clear s k))
    all_goals go_wp2
    all_goals refine aK (v:=zp #[zd #[J kd,Q [],J 0,B U c C],zF false]) (by simp [results,results159,go_sem,y0,y1,y2,y3]) rfl ?_
    all_goals exact iL.o D B1.o B2.o _ _ _ _
end
end
end
section
section
def Ja (t:By) (k d:Nat) (h:ij t k) (c:k=1\/k=2\/k=7\/k=8):ey t d=[t]:=by
 have a:t≠[]:=by
  rcases h with ⟨h,_⟩|⟨_,h,_⟩|⟨_,h⟩|h
  .rintro rfl;cases h
  .rintro rfl;cases h
  .omega
  .exact (show ∀ x,x∈eb->x.1≠[] by decide) _ h
 have b:(ae t||t=[116,114,117,101]||t=[102,97,108,115,101]||bm t)=true:=by
  rcases h with ⟨h,_⟩|⟨_,h,_⟩|⟨_,h⟩|h
  .simp [h]
  .simp [h]
  .omega
  .simp only [eb,bQ,jA,iK,mI] at h;rcases h with ⟨rfl,rfl⟩|⟨rfl,rfl⟩|⟨rfl,rfl⟩|⟨rfl,rfl⟩|⟨rfl,rfl⟩|⟨rfl,rfl⟩|⟨rfl,rfl⟩|⟨rfl,rfl⟩|⟨rfl,rfl⟩|⟨rfl,rfl⟩|⟨rfl,rfl⟩|⟨rfl,rfl⟩|⟨rfl,rfl⟩|⟨rfl,rfl⟩|⟨rfl,rfl⟩|⟨rfl,rfl⟩<;>first|decide|omega
 unfold ey;rw [aA a,aB b]
def LZ (t:By) (k d:Nat) (h:ij t k) (c:k≠1/\k≠2/\k≠7/\k≠8/\k≠3) (b:k≠9) (a:k≠13):ey t d=[iF]:=by
 rcases h with ⟨_,h⟩|⟨_,_,h⟩|⟨rfl,_⟩|h
 .omega
 .omega
 .rfl
 .simp only [eb,bQ,jA,iK,mI] at h;rcases h with ⟨rfl,rfl⟩|⟨rfl,rfl⟩|⟨rfl,rfl⟩|⟨rfl,rfl⟩|⟨rfl,rfl⟩|⟨rfl,rfl⟩|⟨rfl,rfl⟩|⟨rfl,rfl⟩|⟨rfl,rfl⟩|⟨rfl,rfl⟩|⟨rfl,rfl⟩|⟨rfl,rfl⟩|⟨rfl,rfl⟩|⟨rfl,rfl⟩|⟨rfl,rfl⟩|⟨rfl,rfl⟩<;>first|rfl|omega
def L1 (d:Nat) (a:d<6):ey [40] d=sS 1 (d+1):=by
 show eT [40] 82 d++[[41]]=_;unfold eT;rw [aA (by omega)];rfl
def Jb:ey [40] 6=[fj,[41]]:=by decide
def VJ (d:Nat) (a:d<6):ey [105,102] d=[105,102]::sS 3 (d+1):=by
 unfold ey;rw [aA (by decide),aA (by decide),aA (by decide),aA (by decide),aA (by simp;omega),aB rfl];rfl
def QX:ey [105,102] 6=[[105,102],jX]:=by decide
section
variable {len:Nat} {K:List (By × Nat)} {b bl cp:Nat}
def dQ.form {S:List By} {D:Nat->Pt->Prop} {c1 i d:Nat} {e:Int} {w:zW} {r:Ending} {w':zW} (h:dQ len K S D c1 b bl cp i d e w r w'):∃ (z:Bool) (k n:Int) (s:By) (a:Option zD) (l c:Nat),r=zP (zp #[zd #[J k,Q s,J n,B a l c],zF z]):=by
 rcases h with ⟨_,_,p,a,l,c,h,_⟩|⟨_,_,_,_,k,n,s,a,l,c,h,_⟩
 .exact ⟨_,_,_,_,_,_,_,h⟩
 .exact ⟨_,_,_,_,_,_,_,h⟩
def dQ.kp {S:List By} {D:Nat->Pt->Prop} {c1 i d:Nat} {e:Int} {w:zW} {r:Ending} {w':zW} (h:dQ len K S D c1 b bl cp i d e w r w'):Kp b w w':=by
 rcases h with ⟨_,_,p,a,l,c,_,_,_,_,_,h,_⟩|⟨_,_,_,_,k,n,s,a,l,c,_,_,_,h,_⟩
 .exact h
 .exact h
def dQ.lift {S S':List By} {D F:Nat->Pt->Prop} {c1 j x i g d:Nat} {e:Int} {w W:zW} {r:Ending} {w2:zW} (h:dQ len K S D c1 b bl cp i d e W r w2) (E:Kp b w W) (Q5:w.heap.size<W.heap.size) (o:b<w.heap.size) (L:i<=G K) (T:g<=i)
  (R:x+j<=c1+20*(i - g)) (M:∀ f p,D f p->F f p) (t:∀ f m,kH len K S i f m->kH len K S' g f (m+x)) (C:∀ er p m,ic len K S i er p m->ic len K S' g er p (m+x)) (v0 v1 v2 v3:zV) :
  dQ len K S' F j b bl cp g d e w r ((((w2.setCell (yh w.heap.size) v0).setCell (X w.heap.size 1) v1).setCell (X w.heap.size 2) v2).setCell (X w.heap.size 3) v3):=by
 rcases h with ⟨f,m,p,a,l,c,y,V,N,Y,Q4,P,H,v⟩|⟨f,m,Z,er,k,n,s,a,l,c,y,u,z,P,H,U⟩
 .refine zR ⟨f,m+x,p,a,l,c,y,(V.next λq O=>?_).wide λq O=>?_,M _ _ N,Y.ep w.heap.size _ _ _ _ o,by omega,(E.t P).dF w.heap.size _ _ _ _ (aG _) o,by omega,t _ _ v⟩
  .exact lx w2 w.heap.size v0 v1 v2 v3 (by omega)
  .rw [js];omega
 .exact zZ ⟨f,m+x,Z,er,k,n,s,a,l,c,y,u.ep w.heap.size _ _ _ _ o,z,(E.t P).dF w.heap.size _ _ _ _ (aG _) o,by omega,C _ _ _ U⟩
def SG (g:fV K) (F:Nat) (p:zv len K b bl cp F) (kd R i d:Nat) (s:R=1\/(R=3/\kd=3)) (e:Int) (w:zW) (t:d<=6) (hF:10*(G K - i)<F) (l:St len K w b bl cp i d e) (S:List By)
  (m:d<6->aw K i=[40]->S=sS R (d+1)) (n:d=6->aw K i=[40]->ic len K S i 4 (eF len K i) 2) (q:aw K i≠[40]->ic len K S i 3 (eF len K i) 2) :
  zC prog 159 #[zJ b,J kd,J R] w (dQ len K S (VH K i kd R) 14 b bl cp i d e w):=by
 have k:=l.rd.lt;by_cases a:aw K i=[40]
 .have c:=(g.word k [40] 9 (by decide)).2 a;by_cases o:d=6
  .subst o;refine (lM kd R i e w l.rd c).m ?_;rintro r C ⟨rfl,j,f⟩;exact zZ ⟨i,2,6,4,0,0,[],none,0,0,rfl,j,by decide,f,by omega,n rfl a⟩
  .rw [m (by omega) a];exact lP g F p kd R i d s e w (by omega) a hF l
 .have c:((aL len K)[i]).1≠9:=λh=>a ((g.word k [40] 9 (by decide)).1 h);refine (lE kd R i d e w l.rd c).m ?_;rintro r C ⟨rfl,j,f⟩;exact zZ ⟨i,2,d,3,0,0,[],none,0,0,rfl,j,by decide,f,by omega,q a⟩
def Handed (len:Nat) (K:List (By × Nat)) (S:List By) (D:Nat->Pt->Prop) (b bl cp i d:Nat) (e:Int) (w:zW) (r:Ending) (w':zW):Prop:=
 ∃ W C E F H L,dQ len K S D 14 b bl cp i d e W r C/\Kp b w W/\w.heap.size<W.heap.size/\w'=((((C.setCell (yh w.heap.size) E).setCell (X w.heap.size 1) F).setCell (X w.heap.size 2) H).setCell (X w.heap.size 3) L)
def lR (k i:Nat) (d e:Int) (w:zW) (h:cX w b bl cp (aL len K) i d e) (s:i+1<(aL len K).length) (o:((aL len K)[i]'h.lt).1=(k:Int)) (j:k=1\/k=2\/k=7\/k=8) :
  zC prog 129 #[zJ b] w λr O=>r=zP (zp #[zd #[J k,.string ⟨((aL len K)[i]'h.lt).2.2.1.toArray⟩,J (((aL len K)[i]'h.lt).2.2.2:Int),zN],zF true])/\cX O b bl cp (aL len K) (i+1) d e/\Kp b w O:=by
 have C:=h.size;have a:=h.lt;have H:=I (λw1 (g:cX w1 b bl cp (aL len K) i d e)=>ou w1 b bl cp _ i d e g);have p:=I (λw1 (g:cX w1 b bl cp (aL len K) i d e)=>ye w1 b bl cp _ i d e g s);have l:=I h;have n:=I o;clear o;rcases j with rfl|rfl|rfl|rfl
 all_goals (go_in;go_wp2_with (first|(go_at_call 127;refine (H.o _ (l.o.next (bZ _))).m ?_;rw [n.o];rintro e O ⟨rfl,rfl⟩)|(go_at_call 130;refine (p.o _ (l.o.next (bZ _))).m ?_;rw [n.o];rintro e O ⟨rfl,m,c⟩;apply Hid.o));obtain ⟨⟨F,L,M,N⟩,⟨f0,f1,f2,f3⟩,E⟩:=aX (c.blk (q:=w.heap.size) (bL w _) (by omega));have f:=I c;have P:=I m;clear m c;apply I;go_wp2)
 .refine aK (v:=zp #[zd #[J 1,.string ⟨((aL len K)[i]'a).2.2.1.toArray⟩,J (((aL len K)[i]'a).2.2.2:Int),zN],zF true]) (by simp [results,results129,go_sem,F,L,M,N,E]) rfl ?_;have D:=((Kp.of (bZ _) C).t f.o).dF w.heap.size (J 1) (.string ⟨((aL len K)[i]'a).2.2.1.toArray⟩) (J (((aL len K)[i]'a).2.2.2:Int)) (zN) (aG _) C;exact ⟨rfl,(P.o.ep w.heap.size _ _ _ _ C).next (bZ _),D.next (bZ _) (by have:=D.size;omega)⟩
 .refine aK (v:=zp #[zd #[J 2,.string ⟨((aL len K)[i]'a).2.2.1.toArray⟩,J (((aL len K)[i]'a).2.2.2:Int),zN],zF true]) (by simp [results,results129,go_sem,F,L,M,N,E]) rfl ?_;have D:=((Kp.of (bZ _) C).t f.o).dF w.heap.size (J 2) (.string ⟨((aL len K)[i]'a).2.2.1.toArray⟩) (J (((aL len K)[i]'a).2.2.2:Int)) (zN) (aG _) C;exact ⟨rfl,(P.o.ep w.heap.size _ _ _ _ C).next (bZ _),D.next (bZ _) (by have:=D.size;omega)⟩
 .refine aK (v:=zp #[zd #[J 7,.string ⟨((aL len K)[i]'a).2.2.1.toArray⟩,J (((aL len K)[i]'a).2.2.2:Int),zN],zF true]) (by simp [results,results129,go_sem,F,L,M,N,E]) rfl ?_;have D:=((Kp.of (bZ _) C).t f.o).dF w.heap.size (J 7) (.string ⟨((aL len K)[i]'a).2.2.1.toArray⟩) (J (((aL len K)[i]'a).2.2.2:Int)) (zN) (aG _) C;exact ⟨rfl,(P.o.ep w.heap.size _ _ _ _ C).next (bZ _),D.next (bZ _) (by have:=D.size;omega)⟩
 .refine aK (v:=zp #[zd #[J 8,.string ⟨((aL len K)[i]'a).2.2.1.toArray⟩,J (((aL len K)[i]'a).2.2.2:Int),zN],zF true]) (by simp [results,results129,go_sem,F,L,M,N,E]) rfl ?_;have D:=((Kp.of (bZ _) C).t f.o).dF w.heap.size (J 8) (.string ⟨((aL len K)[i]'a).2.2.1.toArray⟩) (J (((aL len K)[i]'a).2.2.2:Int)) (zN) (aG _) C;exact ⟨rfl,(P.o.ep w.heap.size _ _ _ _ C).next (bZ _),D.next (bZ _) (by have:=D.size;omega)⟩
def mc (i d:Nat) (e:Int) (w:zW) (t:St len K w b bl cp i d e) (M:i+1<(aL len K).length) (Q4:((aL len K)[i]'t.rd.lt).1=3) (S:List By) (D:Nat->Pt->Prop)
  (y:∀ w1,St len K w1 b bl cp (i+1) d e->zC prog 159 #[zJ b,J 3,J 3] w1 (dQ len K S D 14 b bl cp (i+1) d e w1)) :
  zC prog 129 #[zJ b] w (Handed len K S D b bl cp (i+1) d e w):=by
 have O:=t.rd.size;have H:=I (λw1 (g:cX w1 b bl cp (aL len K) i (d:Int) e)=>ou w1 b bl cp _ i d e g);have N:=I (λw1 (g:cX w1 b bl cp (aL len K) i (d:Int) e)=>ye w1 b bl cp _ i d e g M);have u:=I t;have G:=I Q4;have F:=I y;clear Q4 y;go_in;go_wp2_with (first|(go_at_call 127;refine (H.o _ (u.o.rd.next (bZ _))).m ?_;rw [G.o];rintro e W ⟨rfl,rfl⟩)|(go_at_call 130;refine mo (N.o _ (u.o.rd.next (bZ _))) ?_;rintro e w1 ⟨rfl,L,h⟩));have m:=h.blk (q:=w.heap.size) (bL w _) (by omega);have j:Kp b w w1:=(Kp.of (bZ _) O).t h;have E:=I (F.o w1 (u.o.down (d':=d) L j.bS));have x:=I j;have o:=I m;clear L h j m;apply I;go_wp2_with (go_at_call 159;refine E.o.m ?_;intro r V f;obtain ⟨z,k,n,s,a,l,c,rfl⟩:=f.form;apply Hid.o);obtain ⟨⟨P,R,T,U⟩,⟨f0,f1,f2,f3⟩,C⟩:=aX (f.kp.blk o.o (by omega));have p:=I f;clear f;apply I;go_wp2;refine aK (v:=zp #[zd #[J k,Q s,J n,B a l c],zF z]) (by simp [results,results129,go_sem,P,R,T,U]) rfl ?_;exact ⟨w1,V,_,_,_,_,p.o,x.o,(cz.1 o.o).1,rfl⟩
def md (k i d:Nat) (e:Int) (w:zW) (m:St len K w b bl cp i d e) (p:((aL len K)[i]'m.rd.lt).1=(k:Int)) (j:k≠1/\k≠2/\k≠7/\k≠8/\k≠3) (S:List By) (D:Nat->Pt->Prop)
  (q:∀ w1,St len K w1 b bl cp i d e->zC prog 159 #[zJ b,J 9,J 1] w1 (dQ len K S D 14 b bl cp i d e w1)) :
  zC prog 129 #[zJ b] w (Handed len K S D b bl cp i d e w):=by
 have O:=m.rd.size;have H:=I (λw1 (g:cX w1 b bl cp (aL len K) i (d:Int) e)=>ou w1 b bl cp _ i d e g);have o:=I m;have E:=I p;have N:=I q;obtain ⟨y,u,x,M,C⟩:=j;have Y:((k:Int) == 1)=false:=bo.2 (by omega);have F:((k:Int) == 2)=false:=bo.2 (by omega);have L:((k:Int) == 7)=false:=bo.2 (by omega);have W:((k:Int) == 8)=false:=bo.2 (by omega);have G:((k:Int) == 3)=false:=bo.2 (by omega);clear p q y u x M C;go_in;go_wp2_with (first|(go_at_call 127;refine (H.o _ (o.o.rd.next (bZ _))).m ?_;rw [E.o];rintro e Z ⟨rfl,rfl⟩)|(go_at_call 159;refine (N.o _ (o.o.next (bZ _))).m ?_;intro r V f;obtain ⟨z,k,n,s,a,l,c,rfl⟩:=f.form;apply Hid.o));obtain ⟨⟨P,R,T,U⟩,⟨f0,f1,f2,f3⟩,t⟩:=aX (f.kp.blk (bL w _) (by omega));have h:=I f;clear f;apply I;go_wp2;refine aK (v:=zp #[zd #[J k,Q s,J n,B a l c],zF z]) (by simp [results,results129,go_sem,P,R,T,U]) rfl ?_;exact ⟨_,V,_,_,_,_,h.o,Kp.of (bZ _) O,(by simp),rfl⟩
def me (o:fV K) (F:Nat) (IH:zv len K b bl cp F) (i d:Nat) (e:Int) (w:zW) (hd:d<=6) (hm:aw K i≠[45]) (hF:10*(G K - i)<F) (y:St len K w b bl cp i d e) :
  zC prog 129 #[zJ b] w (dQ len K [aH 65 d] (λD p=>bh K 6 i D p) 12 b bl cp i d e w):=by
 have QT:=y.rd.lt;have g:ku 65 d (aw K i)=ey (aw K i) d:=rfl;obtain ⟨k,s,v,ac,Q5⟩:=o.cls QT;have ag:=y.le;have hs:=y.rd.size;by_cases H:k=1\/k=2\/k=7\/k=8
 .have M:i<G K:=by
   rcases cC i (G K) with h|h
   .exact h
   .have:=Q5.2 (by omega);omega
  have v3:=qY QT M;refine (lR k i d e w y.rd (by rw [kP];omega) v H).m ?_;rintro Q0 w' ⟨rfl,hr,hb⟩;refine zR ⟨i+1,2,.atom k (ej (aw K i)) (fw (aw K i)),none,0,0,by rw [v3];rfl,dR.leaf _ rfl,bh.atom i k M s H,y.down (d':=d) hr hb.bS,by omega,hb,by omega,?_⟩;refine kH.sym (by omega) ?_;rw [g,Ja _ k d s H];exact kH.tok (o.tk M) rfl (kH.nil _)
 .by_cases T:k=3
  .subst T;have C:aw K i=[105,102]:=(cQ [105,102] 3 (by decide) _ 3 s).1 rfl;have M:i<G K:=uE (by decide) C;have Q4:Tk [105,102]:=⟨105,_,rfl,by decide,by decide⟩;refine (mc i d e w y (by rw [kP];omega) v (if d<6 then sS 3 (d+1) else [jX]) (VH K (i+1) 3 3) ?_).m ?_
   .intro u R;refine SG o F IH 3 3 (i+1) d (zZ ⟨rfl,rfl⟩) e u hd (by omega) R _ (λn _=>by rw [aB n]) (λn f=>?_) (λf=>?_)
    .rw [aA (by omega)];exact ic.opens f
    .by_cases n:d<6
     .rw [aB n];intro E q;have:=ic.bad (len:=len) (S:=kh 3 0 (d+1)) SF f E (q+1);rw [show 2+q=1+(q+1) by omega];exact this
     .rw [aA n];exact ic.Vm f (o.LC _)
   .rintro Q0 w' ⟨Q6,w2,a,c,l,r,z,O,V,rfl⟩;have QV:ey [105,102] d=[105,102]::(if d<6 then sS 3 (d+1) else [jX]):=by
     by_cases n:d<6
     .rw [aB n,VJ d n]
     .obtain rfl:d=6:=(by omega);rw [aA n,QX]
    refine z.lift (x:=2) O V hs (by omega) (by omega) (by omega) (λD p W=>?_) (λD m h=>?_) (λer p m h=>?_) a c l r
    .obtain ⟨w1,j,U,N,Z,rfl,e1,e2,e3,t⟩:=W;obtain ⟨v1,b',af,j1,j2,rfl,Y,P,T,H,L,n⟩:=U.ane N;cases p with
     | atom=>simp [Pt.kids] at t
     | un=>simp [Pt.kids] at t
     | bin=>simp [Pt.kids] at t
     | ifs a' ad c'=>
      simp only [Pt.kids,List.cons.injEq,and_true] at t;obtain ⟨rfl,rfl,rfl⟩:=t;exact bh.ifs i j1 j2 j _ _ _ C Y P T H L n Z
    .refine kH.sym (by omega) ?_;rw [g,C,QV,iq];exact kH.tok Q4 C h
    .refine ic.sym (by omega) ?_;rw [g,C,QV,iq];exact ic.tok Q4 C h
  .have L:k≠1/\k≠2/\k≠7/\k≠8/\k≠3:=(by omega);have v0:k≠13:=by
    rintro rfl;exact hm ((cQ [45] 13 (by decide) _ 13 s).1 rfl)
   have aa:aw K i≠[40]->ey (aw K i) d=[iF]:=λf=>LZ _ k d s L (λh=>f ((cQ [40] 9 (by decide) _ k s).1 h)) v0;refine (md k i d e w y v L (ey (aw K i) d) (VH K i 9 1) ?_).m ?_
   .intro u R;refine SG o F IH 9 1 i d (zR rfl) e u hd hF R _ (λn f=>by rw [f,L1 d n]) (λn f=>?_) (λf=>?_)
    .subst n;rw [f,Jb];intro E q;have:=ic.deep (len:=len) (K:=K) (S:=[[41]]) (i:=i) E (q+1);rw [show 2+q=1+(q+1) by omega];exact this
    .rw [aa f];intro E q;have:=ic.bad (len:=len) (K:=K) (S:=[]) (i:=i) Ss (o.LC _) E (q+1);rw [show 2+q=1+(q+1) by omega];exact this
   .rintro Q0 w' ⟨Q6,w2,a,c,l,r,z,O,V,rfl⟩;refine z.lift (x:=1) O V hs (by omega) (by omega) (by omega) (λD p W=>?_) (λD m h=>?_) (λer p m h=>?_) a c l r
    .obtain ⟨w1,j,U,N,Z,rfl,e1,e2,e3,t⟩:=W;obtain ⟨v1,rfl,Y,P⟩:=U.inv1 N;cases p with
     | atom=>simp [Pt.kids] at t
     | un k' a'=>
      simp only [Pt.kids,List.cons.injEq,and_true] at t;subst t;have v2:k'=9:=e1;subst v2;exact bh.br i j _ Y P Z
     | bin=>simp [Pt.kids] at t
     | ifs=>simp [Pt.kids] at t
    .refine kH.sym (by omega) ?_;rw [g,iq];exact h
    .refine ic.sym (by omega) ?_;rw [g,iq];exact h
end
end
end
section
section
def Env.DU {w:zW} (h:Env w) (k:Nat) (a:k<20):w.cell? (X 2 k)=A (J (kY.getD k 0)):=by
 obtain ⟨t,C,c⟩:=h.ahead;rw [bq w 2 k _ _ _ c];have b:k<G kY:=a;simp [IC,lC,b]
def Env.agj {w:zW} (h:Env w) (k:Nat) (a:k<20):w.cell? (X 3 k)=A (J (uv.getD k 0)):=by
 obtain ⟨t,C,c⟩:=h.ag2;rw [bq w 3 k _ _ _ c];have b:k<G uv:=a;simp [Qf,lC,b]
section
variable {len:Nat} {K:List (By × Nat)} {b bl cp:Nat}
def VK (k n i d:Nat) (e:Int) (w:zW) (j:St len K w b bl cp i d e) (m:k<20) (y:((aL len K)[i]'j.rd.lt).1=(k:Int)) (Q0:kY.getD k 0=(n:Int)) (S:List By) (D:Nat->Pt->Prop) (c1:Nat)
  (q:∀ w1,St len K w1 b bl cp i d e->zC prog 128 #[zJ b,J n] w1 (dQ len K S D c1 b bl cp i d e w1)) :
  zC prog 93 #[zJ b,J n] w (dQ len K S D c1 b bl cp i d e w):=by
 have L:=j.rd.size;have p:=j.le;have H:=I (λw1 (g:cX w1 b bl cp (aL len K) i (d:Int) e)=>ou w1 b bl cp _ i d e g);have u:=I j;have M:=I y;have G:=I q;have F:(0:Int)<=(k:Int):=(by omega);have U:(k:Int)<20:=(by omega);have t:=j.env.DU k m;rw [Q0] at t;have T:=gI w _ t;have E:((n:Int) == (n:Int))=true:=(by simp);clear y q Q0;go_in;go_wp2_with (first|(go_at_call 127;refine (H.o _ (u.o.rd.next (bZ _))).m ?_;rw [M.o];rintro e V ⟨rfl,rfl⟩)|(go_at_call 128;refine (G.o _ (u.o.next (bZ _))).m ?_;intro r W f;obtain ⟨z,k,n,s,a,l,c,rfl⟩:=f.form;apply Hid.o));obtain ⟨⟨N,O,P,R⟩,⟨f0,f1,f2,f3⟩,C⟩:=aX (f.kp.blk (bL w _) (by omega));have o:=I f;clear f;apply I;go_wp2;refine aK (v:=zp #[zd #[J k,Q s,J n,B a l c],zF z]) (by simp [results,results93,go_sem,N,O,P,R]) rfl ?_;exact o.o.lift (x:=0) (Kp.of (bZ _) L) (by simp) L p (aG _) (by omega) (λ_ _ h=>h) (λ_ _ h=>h) (λ_ _ _ h=>h) _ _ _ _
def mp (k i d:Nat) (e:Int) (w:zW) (j:St len K w b bl cp i d e) (m:k<20) (u:((aL len K)[i]'j.rd.lt).1=(k:Int)) (y:kY.getD k 0≠6) (S:List By) (D:Nat->Pt->Prop) (c1:Nat)
  (q:∀ w1,St len K w1 b bl cp i d e->zC prog 129 #[zJ b] w1 (dQ len K S D c1 b bl cp i d e w1)) :
  zC prog 93 #[zJ b,J 6] w (dQ len K S D c1 b bl cp i d e w):=by
 have M:=j.rd.size;have p:=j.le;have H:=I (λw1 (g:cX w1 b bl cp (aL len K) i (d:Int) e)=>ou w1 b bl cp _ i d e g);have t:=I j;have L:=I u;have G:=I q;have F:(0:Int)<=(k:Int):=(by omega);have W:(k:Int)<20:=(by omega);have E:=j.env.DU k m;have U:=gI w _ E;generalize kY.getD k 0=N at *;have C:(N == 6)=false:=bo.2 y;clear u q y;go_in;go_wp2_with (first|(go_at_call 127;refine (H.o _ (t.o.rd.next (bZ _))).m ?_;rw [L.o];rintro e Y ⟨rfl,rfl⟩)|(go_at_call 129;refine (G.o _ (t.o.next (bZ _))).m ?_;intro r Z f;obtain ⟨z,k,n,s,a,l,c,rfl⟩:=f.form;apply Hid.o));obtain ⟨⟨O,P,R,T⟩,⟨f0,f1,f2,f3⟩,V⟩:=aX (f.kp.blk (bL w _) (by omega));have o:=I f;clear f;apply I;go_wp2;refine aK (v:=zp #[zd #[J k,Q s,J n,B a l c],zF z]) (by simp [results,results93,go_sem,O,P,R,T]) rfl ?_;exact o.o.lift (x:=0) (Kp.of (bZ _) M) (by simp) M p (aG _) (by omega) (λ_ _ h=>h) (λ_ _ h=>h) (λ_ _ _ h=>h) _ _ _ _
structure Jc (len:Nat) (K:List (By × Nat)) (b bl cp:Nat) (w:zW) (gW d:Nat) (e:Int) (wr:zW) (i':Nat) (p:Pt) (a:Option zD) (l c:Nat):Prop where
 st:St len K wr b bl cp i' d e
 kp:Kp b w wr
 res:wr.heap[w.heap.size]?=A (zM #[J 0,Q [],J 0,zN] 87 (0,0))
 sO:wr.heap[gW]?=A (zM #[J p.k,Q p.nm,J p.n,B a l c] 87 (0,0))
 kid:dR wr (λq=>w.heap.size<q/\q<wr.heap.size/\q≠gW) p a l c
 gw:w.heap.size<gW
 bw:b<w.heap.size
structure VL (len:Nat) (K:List (By × Nat)) (S:List By) (c1:Nat) (b bl cp:Nat) (w:zW) (gW i:Nat) (wr:zW) (k n:Int) (s:By) (a:Option zD) (l c:Nat):Prop where
 rd:∃ (i' m:Nat) (d' er:Int),cX wr b bl cp (aL len K) i' d' er/\er≠0/\m+c1<=20*(G K - i)+20/\ic len K S i er (eF len K i') m
 kp:Kp b w wr
 res:wr.heap[w.heap.size]?=A (zM #[J 0,Q [],J 0,zN] 87 (0,0))
 sO:wr.heap[gW]?=A (zM #[J k,Q s,J n,B a l c] 87 (0,0))
 bw:b<w.heap.size
def VL.post {S:List By} {D:Nat->Pt->Prop} {c1 q i d:Nat} {e:Int} {w wr:zW} {k n:Int} {s:By} {a:Option zD} {l c:Nat} (h:VL len K S c1 b bl cp w q i wr k n s a l c) (v0 v1 v2 v3:zV) :
  dQ len K S D c1 b bl cp i d e w (zP (zp #[zd #[J k,Q s,J n,B a l c],zF false])) ((((wr.setCell (yh w.heap.size) v0).setCell (X w.heap.size 1) v1).setCell (X w.heap.size 2) v2).setCell (X w.heap.size 3) v3):=by
 obtain ⟨p,m,C,E,j,f,o,g⟩:=h.rd;exact zZ ⟨p,m,C,E,k,n,s,a,l,c,rfl,j.ep w.heap.size _ _ _ _ h.bw,f,h.kp.dF w.heap.size _ _ _ _ (aG _) h.bw,o,g⟩
def Jc.post {S:List By} {D:Nat->Pt->Prop} {c1 o i d m:Nat} {e:Int} {w wr:zW} {f:Nat} {p:Pt} {a:Option zD} {l c:Nat} (h:Jc len K b bl cp w o d e wr f p a l c) (g:D f p) (r:i<f) (j:m+c1<=20*(f - i)) (k:kH len K S i f m) (v0 v1 v2 v3:zV) :
  dQ len K S D c1 b bl cp i d e w (zP (zp #[zd #[J p.k,Q p.nm,J p.n,B a l c],zF true])) ((((wr.setCell (yh w.heap.size) v0).setCell (X w.heap.size 1) v1).setCell (X w.heap.size 2) v2).setCell (X w.heap.size 3) v3):=by
 refine zR ⟨f,m,p,a,l,c,rfl,(h.kid.next λq n=>lx wr w.heap.size v0 v1 v2 v3 (by omega)).wide λq n=>?_,g,h.st.ep w.heap.size _ _ _ _ h.bw,r,h.kp.dF w.heap.size _ _ _ _ (aG _) h.bw,j,k⟩;rw [js];omega
def DV (Y:zW) (o:Obj) (g:Nat) (C:g<Y.heap.size) (v0 v1 v2 v3:zV):(((((Y.alloc o).setCell (yh g) v0).setCell (X g 1) v1).setCell (X g 2) v2).setCell (X g 3) v3)=(((((Y.setCell (yh g) v0).setCell (X g 1) v1).setCell (X g 2) v2).setCell (X g 3) v3).alloc o):=by
 rw [World.setCell_alloc_past _ _ _ _ C,World.setCell_alloc_past _ _ _ _ (by simpa using C),World.setCell_alloc_past _ _ _ _ (by simpa using C),World.setCell_alloc_past _ _ _ _ (by simpa using C)]
def S0 {w:zW} {g:Nat} {u0 u1 u2 u3:zV} {a:TypeId} (h:w.heap[g]?=A (zM #[u0,u1,u2,u3] a (0,0))) (v0 v1 v2 v3:zV):((((w.setCell (yh g) v0).setCell (X g 1) v1).setCell (X g 2) v2).setCell (X g 3) v3).heap[g]?=A (zM #[v0,v1,v2,v3] a (0,0)):=by
 rw [aj (aj (aj (aj h 0 v0) 1 v1) 2 v2) 3 v3];rfl
def Jc.more {f d:Nat} {e:Int} {w wr:zW} {O:Nat} {p:Pt} {a:Option zD} {l c:Nat} (h:Jc len K b bl cp w f d e wr O p a l c) {w2 w3:zW} (r:Kp b wr w2) {F Q4:Obj} (s:Kp b ((w2.alloc F).alloc Q4) w3) {E:Nat} (x:St len K w3 b bl cp E d e) {g:Pt} {v:Option zD} {o c3:Nat}
  (z:dR w3 (λq=>((w2.alloc F).alloc Q4).heap.size<=q/\q<w3.heap.size) g v o c3) (m:Nat) (u0 u1 u2 u3:zV) :
  Jc len K b bl cp w f d e ((((((((((w3.setCell (yh (w2.heap.size+1)) u0).setCell (X (w2.heap.size+1) 1) u1).setCell (X (w2.heap.size+1) 2) u2).setCell (X (w2.heap.size+1) 3) u3).setCell (yh f) (J m)).setCell (X f 1) (Q [])).setCell (X f 2) (J 0)).setCell (X f 3) (zS w3.heap.size 2 2)).alloc (zM #[J p.k,Q p.nm,J p.n,B a l c,J g.k,Q g.nm,J g.n,B v o c3] 87))) E (.bin m p g) (A (yh w3.heap.size)) 2 2:=by
 have M:=h.gw;have C:=h.bw;have D:=r.size;have u:=s.size;simp at u;have S:f<wr.heap.size:=(cz.1 h.sO).1;have G:w.heap.size<=wr.heap.size:=h.kp.size;have N:Kp b wr w3:=(r.next (aY _ _ _) (by have:=h.st.rd.size;omega)).t s;have y:=((h.kp.t N).dF (w2.heap.size+1) u0 u1 u2 u3 (by omega) C).dF f (J m) (Q []) (J 0) (zS w3.heap.size 2 2) (by omega) C;have i:∀ q,q<w3.heap.size->q≠w2.heap.size+1->q≠f->((((((((((w3.setCell (yh (w2.heap.size+1)) u0).setCell (X (w2.heap.size+1) 1) u1).setCell (X (w2.heap.size+1) 2) u2).setCell (X (w2.heap.size+1) 3) u3).setCell (yh f) (J m)).setCell (X f 1) (Q [])).setCell (X f 2) (J 0)).setCell (X f 3) (zS w3.heap.size 2 2)).alloc (zM #[J p.k,Q p.nm,J p.n,B a l c,J g.k,Q g.nm,J g.n,B v o c3] 87))).heap[q]?=w3.heap[q]?:=λq H P L=>by
  rw [cj _ _ _ (by rw [js,js];exact H),lx _ _ _ _ _ _ L,lx _ _ _ _ _ _ P]
 have k:((((((((((w3.setCell (yh (w2.heap.size+1)) u0).setCell (X (w2.heap.size+1) 1) u1).setCell (X (w2.heap.size+1) 2) u2).setCell (X (w2.heap.size+1) 3) u3).setCell (yh f) (J m)).setCell (X f 1) (Q [])).setCell (X f 2) (J 0)).setCell (X f 3) (zS w3.heap.size 2 2)).alloc (zM #[J p.k,Q p.nm,J p.n,B a l c,J g.k,Q g.nm,J g.n,B v o c3] 87))).heap.size=w3.heap.size+1:=by
  simp
 have R:b<w3.heap.size:=x.rd.size;refine ⟨((x.ep (w2.heap.size+1) _ _ _ _ (by omega)).ep f _ _ _ _ (by omega)).next (bZ _),y.next (bZ _) (by rw [js,js];exact R),?_,?_,?_,h.gw,h.bw⟩
 .rw [i _ (by omega) (by omega) (by omega)];exact N.blk h.res (by omega)
 .rw [cj _ _ _ (by rw [js,js];omega)];exact S0 ((lx _ _ _ _ _ _ (by omega)).t (N.blk h.sO (by omega))) _ _ _ _
 .refine dR.bin m ((h.kid.next λq j=>?_).wide λq j=>?_) ((z.next λq j=>?_).wide λq j=>?_) ?_ (t:=87) (fr:=(0,0)) ?_ 2
  .rw [i q (by omega) (by omega) j.2.2];exact N.heap (by omega) j.2.1
  .rw [k];omega
  .have n:=j.1;simp at n;exact i q j.2 (by omega) (by omega)
  .have n:=j.1;simp at n;rw [k];omega
  .rw [k];omega
  .have:=bL (((((((((w3.setCell (yh (w2.heap.size+1)) u0).setCell (X (w2.heap.size+1) 1) u1).setCell (X (w2.heap.size+1) 2) u2).setCell (X (w2.heap.size+1) 3) u3).setCell (yh f) (J m)).setCell (X f 1) (Q [])).setCell (X f 2) (J 0)).setCell (X f 3) (zS w3.heap.size 2 2))) (zM #[J p.k,Q p.nm,J p.n,B a l c,J g.k,Q g.nm,J g.n,B v o c3] 87);rw [js,js] at this;exact this
def Jc.fail {f d:Nat} {e:Int} {w wr:zW} {i D:Nat} {p:Pt} {a:Option zD} {l c:Nat} (h:Jc len K b bl cp w f d e wr D p a l c) {w2 w3:zW} (g:Kp b wr w2) {C Q0:Obj} (j:Kp b ((w2.alloc C).alloc Q0) w3) {S:List By} {c1 s m:Nat} {d3 er:Int} (y:cX w3 b bl cp (aL len K) s d3 er) (r:er≠0) (z:m+c1<=20*(G K - i)+20) (t:ic len K S i er (eF len K s) m) (q:Nat) (u0 u1 u2 u3:zV) (o:Obj) :
  VL len K S c1 b bl cp w f i ((((((((((w3.setCell (yh (w2.heap.size+1)) u0).setCell (X (w2.heap.size+1) 1) u1).setCell (X (w2.heap.size+1) 2) u2).setCell (X (w2.heap.size+1) 3) u3).setCell (yh f) (J q)).setCell (X f 1) (Q [])).setCell (X f 2) (J 0)).setCell (X f 3) (zS w3.heap.size 2 2)).alloc o)) (q:Int) 0 [] (A (yh w3.heap.size)) 2 2:=by
 have E:=h.gw;have v:=h.bw;have x:=g.size;have k:=j.size;simp at k;have u:f<wr.heap.size:=(cz.1 h.sO).1;have L:w.heap.size<=wr.heap.size:=h.kp.size;have F:Kp b wr w3:=(g.next (aY _ _ _) (by have:=h.st.rd.size;omega)).t j;have n:=((h.kp.t F).dF (w2.heap.size+1) u0 u1 u2 u3 (by omega) v).dF f (J q) (Q []) (J 0) (zS w3.heap.size 2 2) (by omega) v;have H:b<w3.heap.size:=y.size;refine ⟨⟨s,m,d3,er,((y.ep (w2.heap.size+1) _ _ _ _ (by omega)).ep f _ _ _ _ (by omega)).next (bZ _),r,z,t⟩,n.next (bZ _) (by rw [js,js];exact H),?_,?_,h.bw⟩
 .rw [cj _ _ _ (by rw [js,js];omega),lx _ _ _ _ _ _ (by omega),lx _ _ _ _ _ _ (by omega)];exact F.blk h.res (by omega)
 .rw [cj _ _ _ (by rw [js,js];omega)];exact S0 ((lx _ _ _ _ _ _ (by omega)).t (F.blk h.sO (by omega))) _ _ _ _
end
end
end
def aR (x y:By):Pt->Pt
 | .atom k C n=>.atom k (if k=2/\C=x then y else C) n
 | .un k a=>.un k (aR x y a)
 | .bin k a b=>.bin k (aR x y a) (aR x y b)
 | .ifs a b c=>.ifs (aR x y a) (aR x y b) (aR x y c)
def ur (C:List KR):(ky C).length=G C*4:=by
 induction C with
 | nil=>rfl
 | cons t C a=>simp [ky] at *;omega
def mu (C:List KR):∀ u,u∈ky C->u.oneCell'=true:=by
 intro u b;simp only [ky,List.mem_flatMap] at b;obtain ⟨x,_,a⟩:=b;simp only [bQ,jA,iK] at a;rcases a with rfl|rfl|rfl|rfl<;>rfl
def eX (w:zW) (a:Option zD) (n c b d:Nat):(binOp .eql 85 (B a n c) (B none b d)).run prog w=.ok (zF a.isNone) w:=
 Lib.run_eql_slice_nil w _ _ a n c b d underlying85
def UK (w:zW):zC prog 248 #[zN] w λe C=>e=zP (zN)/\C=w:=by
 have a:=eX;go_in;go_wp2;go_ret;exact ⟨rfl,rfl⟩
def La (C:List KR) (g c:Nat) (w:zW) (x:1<=G C) (y:G C<=3) (p:∀ j u,(ky C)[j]?=A u->w.cell? (X g j)=A u) :
  zC prog 248 #[zS g (G C) c] w λe D=>∃ h b,e=zP (zS h (G C) b)/\D.ownsRow w.heap.size 87 4 (zS h (G C) b) (G C) (ky C)/\zB w D:=by
 obtain ⟨r,l,i,n,m⟩:=fe Fu;have v:=eX;have q:=I p;have u22:∀ w,Sem.run prog (underlying 85) w=.ok (TypeDesc.slice 87) w:=run_underlying underlying85;clear p;go_in;go_wp2_with (at_builtin;refine km _ rfl _ _ 85 rfl w.heap.size 87 r (zd #[J 0,Q [],J 0,zN]) 4 56 underlying85 l i n m rfl (by decide) _ _ _ rfl (World.ownsRow_made w #[] 0 (aG _) (bE _) (by simp)) (yh g) (G C) c (ky C) rfl ?qc1 ?qc2 ?qc3 ?qc4 ?qc5 ?qc6 ?_)
 case qc1=>exact ur C
 case qc2=>
  intro j u s;rw [Addr.add_lit,cS];exact Lib.cell?_alloc_some _ (q.o j u s)
 case qc3=>exact mu C
 case qc4=>unfold maxLen;omega
 case qc5=>omega
 case qc6=>simp
 intro E F f d o;have a:F.ownsRow w.heap.size 87 4 E (G C) (ky C):=by simpa using f
 obtain ⟨h,b,rfl,_,_⟩:=a.form (by omega);go_wp2;go_ret;exact ⟨h,b,rfl,a,((aM _ w).alloc (aG _) _).grown d (by simp) (by intro k t;simp [Value.ownBlock] at t;omega)⟩
def Ar (a b:List KR):ky (a++b)=ky a++ky b:=by simp [ky]
def Fv (x:KR) (b:List KR):ky (x::b)=J (x.1.k:Int)::Q x.1.nm::J (x.1.n:Int)::B x.2.1 x.2.2.1 x.2.2.2::ky b:=by simp [ky]
def UL (a b:List KR) (x y:KR):((((ky (a++x::b)).set (G a*4) (J (y.1.k:Int))).set (G a*4+1) (Q y.1.nm)).set (G a*4+2) (J (y.1.n:Int))).set (G a*4+3) (B y.2.1 y.2.2.1 y.2.2.2)=ky (a++y::b):=by
 have c:=ur a;rw [Ar,Ar,Fv,Fv];rw [yl _ _ (by omega),yl _ _ (by omega),yl _ _ (by omega),yl _ _ (by omega),c];simp
structure UM (x y:By) (k n:Int) (nm:By) (w wr:zW) (g cap:Nat) (ks ns:List KR):Prop where
 bS:zB w wr
 p:wr.heap[w.heap.size]?=A (zM #[J k,Q nm,J n,zS g (G ks) cap] 87 (0,0))
 R:wr.heap[w.heap.size+1]?=A (zM #[J 0,Q [],J 0,zN] 87 (0,0))
 own:wr.ownsRow (w.heap.size+1+1) 87 4 (zS g (G ks) cap) (G ks) (ky (ns++ks.drop (G ns)))
 le:G ns<=G ks
 kid:∀ i (h:i<G ns),ns[i].1=aR x y (ks[i]'(by omega)).1/\dR wr (λq=>w.heap.size+1<q/\q<wr.heap.size/\q≠g) ns[i].1 ns[i].2.1 ns[i].2.2.1 ns[i].2.2.2
def UM.step {x y:By} {k n:Int} {nm:By} {w wr:zW} {g e:Nat} {H a:List KR} (h:UM x y k n nm w wr g e H a) {W w2:zW} (f:zB wr W) (u:zB W w2) (z:KR) (t:G a<G H) (D:z.1=aR x y (H[G a]).1) (o:dR w2 (λq=>W.heap.size<=q/\q<w2.heap.size) z.1 z.2.1 z.2.2.1 z.2.2.2) :
  UM x y k n nm w ((((w2.setCell (X g (G a*4)) (J (z.1.k:Int))).setCell (X g (G a*4+1)) (Q z.1.nm)).setCell (X g (G a*4+2)) (J (z.1.n:Int))).setCell (X g (G a*4+3)) (B z.2.1 z.2.2.1 z.2.2.2)) g e H (a++[z]):=by
 obtain ⟨M,s⟩:=h.own.lt g rfl;have c:zB wr w2:=f.t (u.m f.size);have N:=c.size;have r:=f.size;have b:∀ q,q≠g->((((w2.setCell (X g (G a*4)) (J (z.1.k:Int))).setCell (X g (G a*4+1)) (Q z.1.nm)).setCell (X g (G a*4+2)) (J (z.1.n:Int))).setCell (X g (G a*4+3)) (B z.2.1 z.2.2.1 z.2.2.2)).heap[q]?=w2.heap[q]?:=λq F=>(by rw [cY _ _ _ _ F,cY _ _ _ _ F,cY _ _ _ _ F,cY _ _ _ _ F]);have d:((((w2.setCell (X g (G a*4)) (J (z.1.k:Int))).setCell (X g (G a*4+1)) (Q z.1.nm)).setCell (X g (G a*4+2)) (J (z.1.n:Int))).setCell (X g (G a*4+3)) (B z.2.1 z.2.2.1 z.2.2.2)).heap.size=w2.heap.size:=(by simp);refine ⟨?_,?_,?_,?_,by simp;omega,λi L=>?_⟩
 .exact ((((h.bS.t (c.m h.bS.size)).setCell (p:=X g _) (by show w.heap.size<=g;omega) _).setCell (p:=X g _) (by show w.heap.size<=g;omega) _).setCell (p:=X g _) (by show w.heap.size<=g;omega) _).setCell (p:=X g _) (by show w.heap.size<=g;omega) _
 .rw [b _ (by omega),c.block _ (cz.1 h.p).1];exact h.p
 .rw [b _ (by omega),c.block _ (cz.1 h.R).1];exact h.R
 .have l:=aZ h.own c;have E:H.drop (G a)=H[G a]::H.drop (G a+1):=jL t;rw [E] at l;have m:=(((((l.stored (G a*4) (J (z.1.k:Int))).1).stored (G a*4+1) (Q z.1.nm)).1.stored (G a*4+2) (J (z.1.n:Int))).1.stored (G a*4+3) (B z.2.1 z.2.2.1 z.2.2.2)).1;rw [UL] at m;rw [b6,kI];exact m
 .by_cases j:i<G a
  .obtain ⟨v,K⟩:=h.kid i j;rw [yj j];exact ⟨v,(K.next λq F=>(b q F.2.2).t (c.block q F.2.1)).wide λq F=>⟨F.1,by rw [d];omega,F.2.2⟩⟩
  .obtain rfl:i=G a:=(by simp at L;omega);simp only [Bt (aG _),nK,List.getElem_cons_zero];have C:w.heap.size+1<wr.heap.size:=(cz.1 h.R).1;exact ⟨D,(o.next λq F=>b q (by omega)).wide λq F=>⟨by omega,by rw [d];exact F.2,by omega⟩⟩
def uu (C:List PT) (j:Nat) (h:j<G C):(IW C)[j*4]?=A (J C[j].1)/\(IW C)[j*4+1]?=A (J (C[j].2.1:Int))/\(IW C)[j*4+2]?=A (Q C[j].2.2.1)/\(IW C)[j*4+3]?=A (J (C[j].2.2.2:Int)):=by
 induction C generalizing j with
 | nil=>simp at h
 | cons t C E=>
  have D:IW (t::C)=J t.1::J (t.2.1:Int)::Q t.2.2.1::J (t.2.2.2:Int)::IW C:=by simp [IW]
  rw [D];cases j with
  | zero=>simp
  | succ j=>
   have:=E j (by simpa using h);rw [show (j+1)*4=j*4+1+1+1+1 by omega];simpa using this
def Fw (len:Nat) (K:List (By × Nat)):iY K++sM len=IW (aL len K):=by
 unfold aL IW iY sM;rw [yo,List.flatMap_map];simp
def az:Pt->Prop
 | .atom k _ _=>k=1\/k=2\/k=7\/k=8
 | .un k a=>(k=9\/k=14\/k=6)/\az a
 | .bin k a b=>(k=4\/k=5\/k=12\/k=13\/k=15\/k=16\/k=17\/k=18\/k=19)/\az a/\az b
 | .ifs a b c=>az a/\az b/\az c
def az.get {p:Pt} (h:az p):∀ j (C:j<G p.kids),az p.kids[j]:=by
 intro j C;cases p with
 | atom k x n=>simp [Pt.kids] at C
 | un k a=>
  obtain rfl:j=0:=(by simp [Pt.kids] at C;omega);exact h.2
 | bin k a b=>
  rcases (show j=0\/j=1 by simp [Pt.kids] at C;omega) with rfl|rfl
  .exact h.2.1
  .exact h.2.2
 | ifs a b c=>
  rcases (show j=0\/j=1\/j=2 by simp [Pt.kids] at C;omega) with rfl|rfl|rfl
  .exact h.1
  .exact h.2.1
  .exact h.2.2
def UY (n:Nat) (f:1<=n) (g:n<=5) (t:By) (k:Nat) (h:b5 t (dc n)=true) (c:ij t k):k=4\/k=5\/k=12\/k=13\/k=15\/k=16\/k=17\/k=18\/k=19:=by
 have d:n=1\/n=2\/n=3\/n=4\/n=5:=(by omega);have a:∀ x m,(x,m)∈eb->t=x->k=m:=λx m e b=>(cQ x m e t k c).2 b;simp only [b5,pF] at h;rcases d with rfl|rfl|rfl|rfl|rfl<;>simp only [dc,bQ,jA,iK] at h
 .have:=a _ 5 (by decide) h;omega
 .have:=a _ 4 (by decide) h;omega
 .rcases h with h|h
  .have:=a _ 18 (by decide) h;omega
  .have:=a _ 19 (by decide) h;omega
 .rcases h with h|h
  .have:=a _ 12 (by decide) h;omega
  .have:=a _ 13 (by decide) h;omega
 .rcases h with h|h|h
  .have:=a _ 15 (by decide) h;omega
  .have:=a _ 16 (by decide) h;omega
  .have:=a _ 17 (by decide) h;omega
def bh.shape {K:List (By × Nat)} {n i j:Nat} {p:Pt} (h:bh K n i j p):az p:=by
 induction h with
 | atom i k _ _ o=>exact o
 | jV _ _ _ _ _ d=>exact ⟨zZ (zZ rfl),d⟩
 | neg _ _ _ _ _ d=>exact ⟨zZ (zR rfl),d⟩
 | br _ _ _ _ _ _ d=>exact ⟨zR rfl,d⟩
 | ifs _ _ _ _ _ _ _ _ _ _ _ _ _ _ _ c e f=>exact ⟨c,e,f⟩
 | up _ _ _ _ _ _ _ d=>exact d
 | more n i j q k a b g m _ C l _ c e=>exact ⟨UY n g m _ k C l,c,e⟩
structure Fd where
 nm:By
 p:Pt
 v:Vl
def fB (w:zW) (S:Nat->Prop) (b:Nat) (f:Fd):Prop:=
 ¬ S b/\az f.p/\Good f.p/\(ai f.p).length<=100/\∃ (a:Option zD) (l c:Nat),w.heap[b]?=A (zM #[Q f.nm,J f.p.k,Q f.p.nm,J f.p.n,B a l c,J f.v.1,J f.v.2] 223 (0,0))/\dR w S f.p a l c
structure Sh (w:zW) (S:Nat->Prop) (a:Option zD) (fs:List (Nat × Fd)):Prop where
 still:∀ q,S q->q<w.heap.size
 ptr:∀ j (h:j<G fs),∃ g o,a=A (X g o)/\S g/\w.cell? (X g (o+j))=A (zK (A (yh ((fs[j]).1))))
 bX:∀ x,x∈fs->fB w S x.1 x.2
def fB.lt {w:zW} {S:Nat->Prop} {b:Nat} {f:Fd} (h:fB w S b f):b<w.heap.size:=by
 obtain ⟨_,_,_,_,a,l,c,d,_⟩:=h;exact (cz.1 d).1
def fB.next {w w':zW} {S:Nat->Prop} {b:Nat} {f:Fd} (h:fB w S b f) (g:∀ q,S q->q<w.heap.size) (e:zB w w'):fB w' S b f:=by
 have d:=h.lt;obtain ⟨i,j,p,n,a,l,c,o,k⟩:=h;exact ⟨i,j,p,n,a,l,c,(e.block b d).t o,k.next λq m=>e.block q (g q m)⟩
def Sh.next {w w':zW} {S:Nat->Prop} {a:Option zD} {fs:List (Nat × Fd)} (h:Sh w S a fs) (b:zB w w'):Sh w' S a fs:=by
 refine ⟨λq f=>bG (h.still q f) b.size,λj e=>?_,λx i=>(h.bX x i).next h.still b⟩;obtain ⟨g,o,d,c,k⟩:=h.ptr j e;exact ⟨g,o,d,c,(b.cell (p:=X g (o+j)) (h.still g c)).t k⟩
def fP {w:zW} {q:Nat} {v0 v1 v2 v3 v4 v5 a:zV} {t:TypeId} (h:w.heap[q]?=A (zM #[v0,v1,v2,v3,v4,v5,a] t (0,0))) :
  (w.cell? (yh q)=A v0/\w.cell? (X q 1)=A v1/\w.cell? (X q 2)=A v2/\w.cell? (X q 3)=A v3/\w.cell? (X q 4)=A v4/\w.cell? (X q 5)=A v5/\w.cell? (X q 6)=A a)/\(∀ j,w.frozen? (X q j)=false)/\q<w.heap.size:=
 ⟨⟨(bq w q 0 _ _ _ h).t rfl,(bq w q 1 _ _ _ h).t rfl,(bq w q 2 _ _ _ h).t rfl,(bq w q 3 _ _ _ h).t rfl,(bq w q 4 _ _ _ h).t rfl,(bq w q 5 _ _ _ h).t rfl,(bq w q 6 _ _ _ h).t rfl⟩,λj=>bF h j,(cz.1 h).1⟩
def ah (fs:List (Nat × Fd)) (x:By):Option (Nat × Fd):=fs.find? λf=>f.2.nm == x
def iQ (fs:List (Nat × Fd)) (x:By):Option zD:=(ah fs x).map λf=>(yh f.1)
def Vf (fs:List (Nat × Fd)) (x:By) (k:Nat) (h:k<G fs) (a:∀ j (D:j<G fs),j<k->(fs[j]).2.nm≠x) (C:(fs[k]).2.nm=x):ah fs x=A fs[k]:=by
 induction fs generalizing k with
 | nil=>simp at h
 | cons f fs d=>
  cases k with
  | zero=>
   simp at C;simp [ah,C]
  | succ k=>
   have b:f.2.nm≠x:=a 0 (by simp) (by omega);have:=d k (by simpa using h) (λj D c=>a (j+1) (by simpa using D) (by omega)) (by simpa using C);simp only [ah] at *;rw [List.find?_cons_of_neg (by simpa using b)];simpa using this
def Lt (fs:List (Nat × Fd)) (x:By) (b:∀ j (a:j<G fs),(fs[j]).2.nm≠x):ah fs x=none:=by
 simp only [ah,rp];intro f c;obtain ⟨j,a,rfl⟩:=e9 c;simpa using b j a
def kQ (x:By) {S:Nat->Prop} (e c:Nat) (a:Option zD) (fs:List (Nat × Fd)) (w:zW) (hs:Sh w S a fs) (P:w.cell? (yh e)=A (B a (G fs) c)) (D:G fs<=1000) :
  zC prog 137 #[zJ e,Q x] w λr O=>r=zP (zK (iQ fs x))/\w=O:=by
 have u:=I hs;clear hs;go_in;go_wp2_with fail;go_loopg [6,12] (G fs) (λgk _ s wr=>wr=w/\∃ j:Nat,j<=G fs/\G fs<=j+gk/\s=J j/\Hid (∀ i (b:i<G fs),i<j->(fs[i]).2.nm≠x))
 case atStart=>exact ⟨rfl,0,bE _,by omega,rfl,λi b h=>by omega⟩
 case round=>
  obtain ⟨rfl,j,R,z,rfl,l⟩:=hrel;by_cases d:j<G fs
  .obtain ⟨g,o,rfl,E,L⟩:=u.o.ptr j d;obtain ⟨_,_,_,_,H,F,c1,p,_⟩:=u.o.bX fs[j] (bt d);obtain ⟨⟨C,_⟩,f,v⟩:=fP p;have k:(j:Int)<(G fs:Int):=(by omega);by_cases K:(fs[j]).2.nm=x
   .have n:((fs[j]).2.nm == x)=true:=(by simp [K]);have M:=I (Vf fs x j d (λi b h=>l.o i b h) K);clear K p f l;generalize t:(fs[j]).1=q at *;have N:=I t;clear t;generalize (fs[j]).2.nm=y at *;go_wp2;go_ret;exact ⟨by rw [iQ,M.o,<- N.o];rfl,rfl⟩
   .have n:((fs[j]).2.nm == x)=false:=bo.2 K;have m:=I (show ∀ i (b:i<G fs),i<j+1->(fs[i]).2.nm≠x from λi b h=>by
     by_cases e:i=j
     .subst e;exact K
     .exact l.o i b (by omega))
    clear K p f;generalize (fs[j]).1=q at *;generalize (fs[j]).2.nm=y at *;go_wp2;go_roundg (G fs - (j+1))
    case measure=>omega
    case rel=>exact ⟨rfl,j+1,by omega,by omega,by go_num,m⟩
  .have k:¬ (j:Int)<(G fs:Int):=(by omega);go_wp2;go_ret;refine ⟨?_,rfl⟩;rw [iQ,Lt fs x λi b=>l.o i b (by omega)];rfl
def mW (fs:List (Nat × Fd)) (x:By):Vl:=match ah fs x with|some f=>f.2.v|none=>(3,3)
def fE {fs:List (Nat × Fd)} {x:By} {f:Nat × Fd} (h:ah fs x=A f):f∈fs/\f.2.nm=x:=by
 simp only [ah] at h;exact ⟨vK h,by simpa using wA h⟩
def Tp (x:By) {S:Nat->Prop} (e c:Nat) (a:Option zD) (fs:List (Nat × Fd)) (w:zW) (hs:Sh w S a fs) (s:w.cell? (yh e)=A (B a (G fs) c)) (l:e<w.heap.size) (o:G fs<=1000) :
  zC prog 198 #[zJ e,Q x] w (dx (mW fs x) w):=by
 have H:=I (λW (d:zB w W)=>kQ x e c a fs W (hs.next d) ((d.cell (p:=yh e) l).t s) o);have K:=I hs;clear hs;unfold mW;cases F:ah fs x with
 | some f=>
  have b:iQ fs x=A (yh f.1):=(by simp [iQ,F]);rw [b] at H;obtain ⟨_,_,_,_,C,N,c1,d,_⟩:=K.o.bX f (fE F).1;have n:=I d;clear d;go_in;go_wp2_with (go_at_call 137;refine mo (H.o _ (bZ _)) ?_;rintro r L ⟨rfl,rfl⟩);obtain ⟨⟨t,u,y,E,M,D,z⟩,g,m⟩:=fP ((cj w (zM #[J 0,J 0] 177) _ (K.o.bX f (fE F).1).lt).t n.o);have i:f.1≠w.heap.size:=(by have:=(K.o.bX f (fE F).1).lt;omega);have j:w.heap.size≠f.1:=λh=>i h.symm;generalize f.2.v=k at *;generalize f.1=q at *;clear g H F b;apply I;go_wp2;refine aK (v:=zd #[J k.1,J k.2]) (by simp [results,results198,go_sem]) rfl ?_;exact ⟨rfl,(aM _ _).alloc (aG _) _⟩
 | none=>
  have b:iQ fs x=none:=(by simp [iQ,F]);rw [b] at H;go_in;go_wp2_with (go_at_call 137;refine (H.o _ (bZ _)).m ?_;rintro r L ⟨rfl,rfl⟩);refine aK (v:=zd #[J 3,J 3]) (by simp [results,results198,go_sem]) rfl ?_;exact ⟨rfl,(aM _ _).alloc (aG _) _⟩
structure Ks (P:Nat->Prop) (w w':zW):Prop where
 os:w'.os=w.os
 tape:w'.tape=w.tape
 output:w'.output=w.output
 size:w.heap.size<=w'.heap.size
 block:∀ k,k<w.heap.size->¬ P k->w'.heap[k]?=w.heap[k]?
def Ks.of {P:Nat->Prop} {w w':zW} (h:zB w w'):Ks P w w':=⟨h.os,h.tape,h.output,h.size,λk a _=>h.block k a⟩
def Ks.t {P:Nat->Prop} {w w' a:zW} (h:Ks P w w') (g:Ks P w' a):Ks P w a:=
 ⟨g.os.t h.os,g.tape.t h.tape,g.output.t h.output,bf h.size g.size,λk c b=>(g.block k (bG c h.size) b).t (h.block k c b)⟩
def Ks.refl (P:Nat->Prop) (w:zW):Ks P w w:=⟨rfl,rfl,rfl,aG _,λ_ _ _=>rfl⟩
def Ks.wide {P P':Nat->Prop} {w w':zW} (h:Ks P w w') (d:∀ q,P q->P' q):Ks P' w w':=⟨h.os,h.tape,h.output,h.size,λk b c=>h.block k b λa=>c (d k a)⟩
def Ks.set {P:Nat->Prop} {w w':zW} (h:Ks P w w') (q j:Nat) (v:zV) (b:P q):Ks P w (w'.setCell (X q j) v):=
 h.t ⟨rfl,rfl,rfl,(by simp),λk _ a=>cY _ _ _ _ (λe=>a (by rw [show k=q from e];exact b))⟩
def Ks.alloc {P:Nat->Prop} {w w':zW} (h:Ks P w w') (o:Obj):Ks P w (w'.alloc o):=h.t (Ks.of (bZ _))
def qH (fs:List (Nat × Fd)) (b:Nat) (v:Vl):List (Nat × Fd):=fs.map λf=>if f.1=b then (f.1,{ f.2 with v:=v }) else f
def oh (fs:List (Nat × Fd)) (b:Nat):Pt:=match fs.find? (λf=>f.1 == b) with|some f=>f.2.p|none=>.atom 1 [] 0
def iR:List (Nat × Fd)->List Nat->List (Nat × Fd)
 | fs,[]=>fs
 | fs,b::r=>iR (qH fs b (cD (mW fs) (oh fs b))) r
def fB.stays {w w':zW} {S:Nat->Prop} {b:Nat} {f:Fd} (h:fB w S b f) (i:w'.heap[b]?=w.heap[b]?) (d:∀ q,S q->w'.heap[q]?=w.heap[q]?):fB w' S b f:=by
 obtain ⟨e,j,n,g,a,l,c,k,m⟩:=h;exact ⟨e,j,n,g,a,l,c,i.t k,m.next d⟩
def mV:(prog.info? 151).map (λi=>(i.zero,i.size,i.bytes))=A (A .nilFunc,1,8):=by kernel_rfl
def Ut (fs:List (Nat × Fd)) (b:Nat) (v:Vl):(qH fs b v).map (λf=>f.1)=fs.map λf=>f.1:=by
 simp only [qH,fM];congr 1;funext f;simp only [Function.comp];split<;>rfl
def EJ (w:zW) (Q0 Q4 C:Obj):(((w.alloc Q0).alloc Q4).alloc C).heap[w.heap.size]?=A Q0:=by
 rw [cj _ _ _ (by simp;omega),cj _ _ _ (by simp)];exact bL w Q0
def zU (w:zW) (Q0 Q4 C:Obj) (q:Nat) (a:q<w.heap.size):(((w.alloc Q0).alloc Q4).alloc C).heap[q]?=w.heap[q]?:=by
 rw [cj _ _ _ (by simp;omega),cj _ _ _ (by simp;omega),cj _ _ _ a]
def Dx (w:zW) (q:Nat) (k:Int) (nm:By) (n:Int) (a:Option zD) (l c:Nat):zW:=(((w.setCell (X q 1) (J k)).setCell (X q 2) (Q nm)).setCell (X q 3) (J n)).setCell (X q 4) (B a l c)
def JO (q:Nat) (v0 v5 s:zV) (k:Int) (nm:By) (n:Int) (a:Option zD) (l c:Nat) (g:Int) (b:By) (i:Int) (f:Option zD) (d h:Nat) (t:TypeId) (w:zW) (u:w.heap[q]?=A (zM #[v0,J k,Q nm,J n,B a l c,v5,s] t (0,0))) :
  zC prog 162 #[zK (A (X q 1)),zd #[J g,Q b,J i,B f d h]] w λe K=>∃ p o,e=zP (.func (.func 191) #[] #[zJ p,zJ o])/\w.heap.size<=p/\w.heap.size<=o/\p≠o/\K.heap[p]?=A (zM #[zK (A (X q 1))] 251 (0,0))/\K.heap[o]?=A (zM #[J k,Q nm,J n,B a l c] 89 (0,0)) /\
   K.heap[q]?=A (zM #[v0,J g,Q b,J i,B f d h,v5,s] t (0,0))/\Ks (λx=>x=q) w K:=by
 obtain ⟨⟨C,D,E,N,G,H,F⟩,m,L⟩:=fP u;have f1:=m 1;have f2:=m 2;have f3:=m 3;have f4:=m 4;have z:q<w.heap.size+1:=(by omega);have v:q<w.heap.size+1+1:=(by omega);have y:=I u;clear u m;go_in;go_wp2;go_ret;have j:(Dx w q g b i f d h).heap.size=w.heap.size:=by simp [Dx]
 have M:(Dx w q g b i f d h).heap[q]?=A (zM #[v0,J g,Q b,J i,B f d h,v5,s] t (0,0)):=
  (aj (aj (aj (aj y.o 1 _) 2 _) 3 _) 4 _).t rfl
 have r:Ks (λx=>x=q) w (Dx w q g b i f d h):=((((Ks.refl (λx=>x=q) w).set q 1 _ rfl).set q 2 _ rfl).set q 3 _ rfl).set q 4 _ rfl;refine ⟨w.heap.size,w.heap.size+1+1,rfl,aG _,by omega,by omega,?_,?_,?_,((r.alloc _).alloc _).alloc _⟩
 .rw [<- j];exact EJ (Dx w q g b i f d h) _ _ _
 .rw [<- j];exact fZ (Dx w q g b i f d h) _ _ _ _
 .exact (zU (Dx w q g b i f d h) _ _ _ q (by rw [j];exact L)).t M
structure bg where
 ord:List Nat
 mem:Nat->Fd
inductive Wr
 | ord (l:List Nat)
 | nm (b:Nat) (x:By)
 | rl (b:Nat) (p:Pt)
 | vl (b:Nat) (v:Vl)
def bg.put (σ:bg) (b:Nat) (f:Fd):bg:=⟨σ.ord,λq=>if q=b then f else σ.mem q⟩
def kx (σ:bg):Wr->bg
 | .ord l=>⟨l,σ.mem⟩
 | .nm b x=>σ.put b ⟨x,(σ.mem b).p,(σ.mem b).v⟩
 | .rl b p=>σ.put b ⟨(σ.mem b).nm,p,(σ.mem b).v⟩
 | .vl b v=>σ.put b ⟨(σ.mem b).nm,(σ.mem b).p,v⟩
def Te (σ:bg):Wr->Wr
 | .ord _=>.ord σ.ord
 | .nm b _=>.nm b (σ.mem b).nm
 | .rl b _=>.rl b (σ.mem b).p
 | .vl b _=>.vl b (σ.mem b).v
def aU:List Wr->bg->bg
 | [],C=>C
 | u::r,C=>aU r (kx C u)
def dz:List Wr->bg->List Wr
 | [],_=>[]
 | u::r,C=>dz r (kx C u)++[Te C u]
def Ct (σ:bg) (b:Nat) (f g:Fd):(σ.put b f).put b g=σ.put b g:=by unfold bg.put;congr 1;funext q;by_cases h:q=b<;>simp [h]
def yO (σ:bg) (b:Nat):σ.put b (σ.mem b)=σ:=by
 cases σ with
 | mk o m=>
  unfold bg.put;congr 1;funext q;by_cases h:q=b<;>simp [h]
def fN (σ:bg) (b:Nat) (f:Fd):(σ.put b f).mem b=f:=by simp [bg.put]
def dM (σ:bg) (b q:Nat) (f:Fd) (h:q≠b):(σ.put b f).mem q=σ.mem q:=by simp [bg.put,h]
def Tf (σ:bg) (u:Wr):kx (kx σ u) (Te σ u)=σ:=by
 cases u with
 | ord l=>rfl
 | nm b x=>simp only [kx,Te,fN,Ct];exact yO σ b
 | rl b x=>simp only [kx,Te,fN,Ct];exact yO σ b
 | vl b x=>simp only [kx,Te,fN,Ct];exact yO σ b
def lH (a b:List Wr):∀ σ,aU (a++b) σ=aU b (aU a σ):=by
 induction a with
 | nil=>intro σ;rfl
 | cons u r c=>intro σ;exact c _
def EI (a b:List Wr):∀ σ,dz (a++b) σ=dz b (aU a σ)++dz a σ:=by
 induction a with
 | nil=>intro σ;simp [dz,aU]
 | cons u r c=>intro σ;simp only [gT,dz,aU,c,kI]
def lV (us:List Wr):∀ σ,aU (dz us σ) (aU us σ)=σ:=by
 induction us with
 | nil=>intro σ;rfl
 | cons u r a=>intro σ;simp only [dz,aU,lH,a,Tf]
def jQ (w:zW) (S:Nat->Prop) (a:Option zD) (l:List Nat):Prop:=
 ∀ j (h:j<G l),∃ g o,a=A (X g o)/\S g/\w.cell? (X g (o+j))=A (zK (A (yh (l[j]))))
def jQ.next {w w':zW} {S:Nat->Prop} {a:Option zD} {l:List Nat} (h:jQ w S a l) (e:∀ q,S q->w'.heap[q]?=w.heap[q]?):jQ w' S a l:=λj d=>by
 obtain ⟨g,o,c,b,f⟩:=h j d;exact ⟨g,o,c,b,(nu (a:=X g (o+j)) (e g b)).t f⟩
def jQ.wide {w:zW} {S S':Nat->Prop} {a:Option zD} {l:List Nat} (h:jQ w S a l) (e:∀ q,S q->S' q):jQ w S' a l:=λj c=>by
 obtain ⟨g,o,b,d,f⟩:=h j c;exact ⟨g,o,b,e g d,f⟩
structure cK (w:zW) (S:Nat->Prop) (e:Nat) (D:Nat->Prop) (σ:bg) (v1 v2 v3 v4 v5:zV) (te:TypeId):Prop where
 still:∀ q,S q->q<w.heap.size
 eS:¬ S e
 eD:¬ D e
 bX:∀ b,D b->fB w S b (σ.mem b)
 sub:∀ b,b∈σ.ord->D b
 row:∃ a c,jQ w S a σ.ord/\σ.ord.length<=c/\(a=none->c=0)/\w.heap[e]?=A (zM #[B a σ.ord.length c,v1,v2,v3,v4,v5] te (0,0))
def bg.fs (σ:bg):List (Nat × Fd):=σ.ord.map λb=>(b,σ.mem b)
def cK.sh {w:zW} {S:Nat->Prop} {e:Nat} {D:Nat->Prop} {σ:bg} {v1 v2 v3 v4 v5:zV} {te:TypeId} (h:cK w S e D σ v1 v2 v3 v4 v5 te):∃ a c,Sh w S a σ.fs/\σ.fs.length<=c/\(a=none->c=0)/\w.heap[e]?=A (zM #[B a σ.fs.length c,v1,v2,v3,v4,v5] te (0,0)):=by
 obtain ⟨a,c,i,l,r,n⟩:=h.row;have d:σ.fs.length=σ.ord.length:=(by simp [bg.fs]);refine ⟨a,c,⟨h.still,λj s=>?_,λx q=>?_⟩,by rw [d];exact l,r,by rw [d];exact n⟩
 .obtain ⟨g,o,f,k,m⟩:=i j (by omega);exact ⟨g,o,f,k,by simpa [bg.fs] using m⟩
 .obtain ⟨b,p,rfl⟩:=bU.1 q;exact h.bX b (h.sub b p)
inductive cO (e:Nat) (D:Nat->Prop) (w:zW) (S:Nat->Prop):Nat->Array zV->List Wr->Prop
 | ord (g1 g2:Nat) (a:Option zD) (c:Nat) (l:List Nat):S g1->S g2->w.heap[g1]?=some (zM #[zJ e] 253 (0,0))->w.heap[g2]?=some (zM #[B a (G l) c] 101 (0,0))->jQ w S a l->G l<=c->(a=none->c=0)->(∀ b,b∈l->D b) ->
   cO e D w S 192 #[zJ g1,zJ g2] [.ord l]
 | nm (g1 g2 b:Nat) (x:By):S g1->S g2->w.heap[g1]?=some (zM #[zJ b] 291 (0,0))->w.heap[g2]?=some (zM #[Q x] 9 (0,0))->D b ->
   cO e D w S 221 #[zJ g1,zJ g2] [.nm b x]
 | rl (g1 g2 b:Nat) (p:Pt) (a:Option zD) (l c:Nat):S g1->S g2->w.heap[g1]?=some (zM #[zK (some (X b 1))] 251 (0,0))->w.heap[g2]?=some (zM #[J p.k,Q p.nm,J p.n,B a l c] 89 (0,0))->dR w S p a l c->az p->Good p->(ai p).length<=100->D b ->
   cO e D w S 191 #[zJ g1,zJ g2] [.rl b p]
 | vl (g1 g2 b:Nat) (v:Vl):S g1->S g2->w.heap[g1]?=some (zM #[zK (some (X b 5))] 287 (0,0))->w.heap[g2]?=some (zM #[J v.1,J v.2] 177 (0,0))->D b ->
   cO e D w S 219 #[zJ g1,zJ g2] [.vl b v]
 | all (g:Nat) (a:Option zD) (n c:Nat) (N:Nat->Nat) (cs:Nat->Array zV) (us:Nat->List Wr):S g->w.heap[g]?=some (zM #[B a n c] 104 (0,0))->n<=c->(n=0\/∃ h o,a=some (X h o)/\S h)->n*8<=140737488355328 ->
   (∀ i,i<n->∀ h o,a=A (X h o)->w.cell? (X h (o+i))=A (.func (.func (N i)) #[] (cs i)))->(∀ i,i<n->cO e D w S (N i) (cs i) (us i)) ->
   cO e D w S 106 #[zJ g] ((List.range n).reverse.flatMap us)
def cO.next {e:Nat} {D:Nat->Prop} {w w':zW} {S:Nat->Prop} {N:Nat} {cs:Array zV} {us:List Wr} (h:cO e D w S N cs us) (k:∀ q,S q->w'.heap[q]?=w.heap[q]?):cO e D w' S N cs us:=by
 induction h with
 | ord t s a c l d j r f m u y K=>exact .ord t s a c l d j ((k _ d).t r) ((k _ j).t f) (m.next k) u y K
 | nm t s b x d j r f m=>exact .nm t s b x d j ((k _ d).t r) ((k _ j).t f) m
 | rl t s b p a l c d j r f m u y K C=>exact .rl t s b p a l c d j ((k _ d).t r) ((k _ j).t f) (m.next k) u y K C
 | vl t s b v d j r f m=>exact .vl t s b v d j ((k _ d).t r) ((k _ j).t f) m
 | all g a n c N cs us d j r f m u _ E=>
  refine .all g a n c N cs us d ((k _ d).t j) r f m (λi F h o L=>?_) E;rcases f with f|⟨G,H,f,z⟩
  .omega
  .rw [L] at f;cases f;exact (nu (a:=X h (o+i)) (k h z)).t (u i F h o L)
def cO.wide {e:Nat} {D Q0:Nat->Prop} {w:zW} {S S':Nat->Prop} {N:Nat} {cs:Array zV} {us:List Wr} (h:cO e D w S N cs us) (d:∀ q,S q->S' q) (u:∀ q,D q->Q0 q):cO e Q0 w S' N cs us:=by
 induction h with
 | ord s r a c l i j m k f t y z=>exact .ord s r a c l (d _ i) (d _ j) m k (f.wide d) t y λb F=>u b (z b F)
 | nm s r b x i j m k f=>exact .nm s r b x (d _ i) (d _ j) m k (u b f)
 | rl s r b p a l c i j m k f t y z C=>exact .rl s r b p a l c (d _ i) (d _ j) m k (f.wide d) t y z (u b C)
 | vl s r b v i j m k f=>exact .vl s r b v (d _ i) (d _ j) m k (u b f)
 | all g a n c N cs us i j m k f t _ E=>
  refine .all g a n c N cs us (d _ i) j m (k.imp id ?_) f t E;rintro ⟨h,o,e1,H⟩;exact ⟨h,o,e1,d h H⟩
def cO.enters {e:Nat} {D:Nat->Prop} {w:zW} {S:Nat->Prop} {N:Nat} {cs:Array zV} {us:List Wr} (h:cO e D w S N cs us):∀ args w,(callFunc N args).run prog w=.ok (.enter N args) w:=by
 cases h with
 | ord=>exact oK func192 (by kernel_rfl) rfl
 | nm=>exact oK func221 (by kernel_rfl) rfl
 | rl=>exact oK func191 (by kernel_rfl) rfl
 | vl=>exact oK func219 (by kernel_rfl) rfl
 | all=>exact oK func106 (by kernel_rfl) rfl
def qG (S O:Nat->Prop) (e:Nat) (D:Nat->Prop) (σ:bg) (us:List Wr) (v1 v2 v3 v4 v5:zV) (te:TypeId) (w:zW) (r:Ending) (w':zW):Prop:=
 ∃ (b:Nat) (a:Array zV) (C:Nat->Prop),r=zP (.func (.func b) #[] a)/\(∀ q,S q->C q)/\(∀ q,C q->S q\/(O q/\∃ c t z,w'.heap[q]?=A (zM c t z)))/\cK w' C e D (aU us σ) v1 v2 v3 v4 v5 te/\cO e D w' C b a (dz us σ)/\Ks (λq=>q=e\/D q) w w'
def gX (S:Nat->Prop) (e:Nat) (D:Nat->Prop) (σ:bg) (us:List Wr) (v1 v2 v3 v4 v5:zV) (te:TypeId) (w:zW) (r:Ending) (w':zW):Prop:=qG S (λq=>w.heap.size<=q) e D σ us v1 v2 v3 v4 v5 te w r w'
def cJ (fs:List (Nat × Fd)):List By:=fs.map λf=>f.2.nm
def Qx (fs:List (Nat × Fd)) (j:Nat) (h:j<G fs):(ab ((cJ fs).take j++List.replicate (G fs - j) [])).set j (Q ((fs[j]).2.nm))=ab ((cJ fs).take (j+1)++List.replicate (G fs - (j+1)) []):=by
 have e1:(cJ fs).take (j+1)=(cJ fs).take j++[(fs[j]).2.nm]:=by
  rw [List.take_add_one,cU (by simpa [cJ] using h)];simp [cJ]
 have a:min j (cJ fs).length=j:=by simp [cJ];omega
 obtain ⟨m,b⟩:∃ m,G fs - j=m+1:=⟨G fs - j - 1,by omega⟩;rw [e1,b,show (G fs) - (j+1)=m by omega];simp only [ab,fK,BC,fL,List.map_nil,kI,gT,ko];rw [yl _ _ (by simp [a])];simp [a]
def uK {S:Nat->Prop} (a:Option zD) (c:Nat) (fs:List (Nat × Fd)) (w:zW) (hs:Sh w S a fs) (U:G fs<=1000) :
  zC prog 142 #[B a (G fs) c] w λe Y=>∃ v,e=zP v/\Y.ownsRow w.heap.size 9 1 v (G fs) (ab (cJ fs))/\zB w Y:=by
 have s:=I hs;clear hs;obtain ⟨H,L,l,m,r⟩:=fe yU;go_in;obtain ⟨Z,QT,f,b⟩:=run_make_full (P:=prog) w w.heap.size 24 9 H (Q []) 1 underlying24 L l m .i64 .i64 (G fs) (by rw [r];omega) (by unfold maxLen;omega) (aG _);have q:=I (show zB w Z from (aM _ _).grown b (aG _) (λw' k=>by cases k));have R:=I (show Z.ownsRow w.heap.size 9 1 (zS w.heap.size (G fs) (G fs)) (G fs) (ab ((cJ fs).take 0++List.replicate (G fs - 0) [])) by
  have e:(madeCells (Value.cells (Q [])) (G fs*1)).toList=ab ((cJ fs).take 0++List.replicate (G fs - 0) []):=by
   rw [show Value.cells (Q [])=#[Q []] from rfl,toList_madeCells_one];simp [ab]
  rw [<- e];exact f)
 clear f b;go_wp2_with fail;go_loopg [11] (G fs) (λgk t wr=>∃ j:Nat,j<=G fs/\G fs<=j+gk/\t=J j/\Hid (zB w wr)/\Hid (wr.ownsRow w.heap.size 9 1 (zS w.heap.size (G fs) (G fs)) (G fs) (ab ((cJ fs).take j++List.replicate (G fs - j) []))))
 case atStart=>exact ⟨0,bE _,by omega,rfl,q,R⟩
 case round=>
  obtain ⟨j,Q4,M,rfl,d,HOr⟩:=hrel;by_cases h:j<G fs
  .obtain ⟨g,o,rfl,N,C⟩:=s.o.ptr j h;have T:=(d.o.cell (p:=X g (o+j)) (s.o.still g N)).t C;have E:=s.o.bX fs[j] (bt h);have n:=E.lt;obtain ⟨_,_,_,_,y,Q0,c1,D,_⟩:=E;obtain ⟨⟨V,_⟩,_,F⟩:=fP ((d.o.block _ n).t D);have i:(j:Int)<(G fs:Int):=(by omega);have O:=HOr.o.cellAt j (by omega);obtain ⟨u,K⟩:∃ u,(ab ((cJ fs).take j++List.replicate (G fs - j) []))[j]?=A u:=⟨_,cU (by simp [ab,cJ];omega)⟩;rw [K] at O;have x:=HOr.o.frozenAt j;have z:=I (show (wr.setCell (X w.heap.size j) (Q ((fs[j]).2.nm))).ownsRow w.heap.size 9 1 (zS w.heap.size (G fs) (G fs)) (G fs) (ab ((cJ fs).take (j+1)++List.replicate (G fs - (j+1)) [])) by
    have W:=(HOr.o.stored j (Q ((fs[j]).2.nm))).1;have e:(ab ((cJ fs).take j++List.replicate (G fs - j) [])).set j (Q ((fs[j]).2.nm))=ab ((cJ fs).take (j+1)++List.replicate (G fs - (j+1)) []):=Qx fs j h;rw [e] at W;exact W)
   clear D C K HOr;generalize (fs[j]).1=w1 at *;generalize (fs[j]).2.nm=QV at *;go_wp2;go_roundg (G fs - (j+1))
   case measure=>omega
   case rel=>exact ⟨j+1,by omega,by omega,by go_num,d.o.setCell (p:=X w.heap.size j) (aG _) _,z⟩
  .have i:¬ (j:Int)<(G fs:Int):=(by omega);obtain rfl:j=G fs:=(by omega);go_wp2;go_ret;refine ⟨_,rfl,?_,d.o⟩;have:=HOr.o;rw [nK,qy (by simp [cJ])] at this;simpa using this
def jR (x y:By):∀ p,Good p->Good (aR x y p)
 | .atom _ _ _,h=>h
 | .un _ a,h=>⟨h.1,jR x y a h.2⟩
 | .bin _ a b,h=>⟨h.1,jR x y a h.2.1,jR x y b h.2.2⟩
 | .ifs a b c,h=>⟨jR x y a h.1,jR x y b h.2.1,jR x y c h.2.2⟩
def iN (x y:By):∀ p,az p->az (aR x y p)
 | .atom _ _ _,h=>h
 | .un _ a,h=>⟨h.1,iN x y a h.2⟩
 | .bin _ a b,h=>⟨h.1,iN x y a h.2.1,iN x y b h.2.2⟩
 | .ifs a b c,h=>⟨iN x y a h.1,iN x y b h.2.1,iN x y c h.2.2⟩
def ig (x y:By):∀ p,aC x p=false->aR x y p=p
 | .atom k C n,h=>by
  simp [aC] at h;have:¬ (k=2/\C=x):=λd=>h d.1 d.2;simp only [aR,aA this]
 | .un k a,h=>by
  simp [aC] at h;simp only [aR,ig x y a h.2]
 | .bin k a b,h=>by
  simp [aC] at h;simp only [aR,ig x y a h.2.1,ig x y b h.2.2]
 | .ifs a b c,h=>by
  simp [aC] at h;simp only [aR,ig x y a h.1,ig x y b h.2.1,ig x y c h.2.2]
def zo (z:By) (C:z≠[]) (k:Nat) (a:Pt):aC z (.un k a)=aC z a:=by
 cases z with
 | nil=>exact absurd rfl C
 | cons t z=>simp [aC]
def xi (z:By) (C:z≠[]) (k:Nat) (a b:Pt):aC z (.bin k a b)=(aC z a||aC z b):=by
 cases z with
 | nil=>exact absurd rfl C
 | cons t z=>simp [aC]
def P8 (z:By) (a b c:Pt):aC z (.ifs a b c)=(aC z a||(aC z b||aC z c)):=by
 simp [aC]
def j9 (x y z:By) (f:x≠[]) (g:y≠[]) (e:z≠[]) (d:y≠x):∀ p,aC z (aR x y p)=if z=x then false else if z=y then aC x p||aC y p else aC z p
 | .atom k C n=>by
  simp only [aR,aC,List.any_nil,Bool.or_false]
  grind
 | .un k a=>by
  have h:=j9 x y z f g e d a;simp only [aR,zo _ f,zo _ g,zo _ e,h]
 | .bin k a b=>by
  have h:=j9 x y z f g e d a;have i:=j9 x y z f g e d b;simp only [aR,xi _ f,xi _ g,xi _ e,h,i]
  grind
 | .ifs a b c=>by
  have h:=j9 x y z f g e d a;have i:=j9 x y z f g e d b;have j:=j9 x y z f g e d c;simp only [aR,P8,h,i,j]
  grind
def mY (x y:By) (e:x≠[]):∀ p,(ai (aR x y p)).length<=(ai p).length*(G y+1)
 | .atom k C n=>by
  have d:∀ q:Nat,q<=q*(G y+1):=λq=>Nat.le_mul_of_pos_right _ (by omega);have o:(if k=2/\C=x then y else C).length<=G C*(G y+1):=by
   by_cases h:k=2/\C=x
   .rw [aB h,h.2];have:1<=G x:=BB.2 e;have:=Nat.mul_le_mul_right (G y+1) this;omega
   .rw [aA h];exact d _
  simp only [aR,ai,b6,Nat.add_mul];have f:=d (iP k).length;have g:=d (gu k n).length;have l:=d (jn (lL k) []).length;have i:=d (jO k).length;omega
 | .un k a=>by
  have d:∀ q:Nat,q<=q*(G y+1):=λq=>Nat.le_mul_of_pos_right _ (by omega);have j:=mY x y e a;simp only [aR,ai,jn,List.flatMap_nil,b6,nZ,Nat.add_mul];have f:=d (iP k).length;have g:=d (gu k 0).length;have i:=d (jO k).length;omega
 | .bin k a b=>by
  have d:∀ q:Nat,q<=q*(G y+1):=λq=>Nat.le_mul_of_pos_right _ (by omega);have j:=mY x y e a;have m:=mY x y e b;simp only [aR,ai,jn,sD,List.flatMap_nil,b6,nZ,Nat.add_mul];have f:=d (iP k).length;have g:=d (gu k 0).length;have l:=d (lL k).length;have i:=d (jO k).length;omega
 | .ifs a b c=>by
  have d:∀ q:Nat,q<=q*(G y+1):=λq=>Nat.le_mul_of_pos_right _ (by omega);have j:=mY x y e a;have m:=mY x y e b;have r:=mY x y e c;simp only [aR,ai,jn,sD,List.flatMap_nil,b6,nZ,Nat.add_mul];have f:=d (iP 3).length;have g:=d (gu 3 0).length;have l:=d (lL 3).length;have i:=d (jO 3).length;omega
section
attribute [local go_sem] ap aq
variable {w w' W:zW} {v u:zV} {Z:List zV} {P:Nat->Prop}
def dA (w:zW) (v:zV) (Z:List zV):Prop:=
 (v=zN/\Z=[])\/∃ g o a,v=B (A (X g o)) (G Z) a/\g<w.heap.size/\G Z<=a/\a<=maxLen/\(∀ j,j<a->(w.cell? (X g (o+j))).isSome=true/\w.frozen? (X g (o+j))=false)/\∀ (j:Nat) (u:zV),Z[j]?=A u->w.cell? (X g (o+j))=A u
def qJ {g:Nat} (h:w'.heap[g]?=w.heap[g]?) (o:Nat):w'.frozen? (X g o)=w.frozen? (X g o):=by
 simp only [World.frozen?,h]
def dA.ks (h:dA w v Z) (c:Ks P w w') (d:∀ q,v.ownBlock=A q->¬ P q):dA w' v Z:=by
 rcases h with h|⟨g,o,a,rfl,b,n,i,l,k⟩
 .exact zR h
 .have e:=c.block g b (d g rfl);exact zZ ⟨g,o,a,rfl,bG b c.size,n,i,λj f=>by rw [aS e,qJ e];exact l j f,λj u m=>(aS e _).t (k j u m)⟩
def dA.next (h:dA w v Z) (a:zB w w'):dA w' v Z:=h.ks (P:=λ_=>False) (Ks.of a) λ_ _ h=>h
def dA.len (h:dA w v Z):∃ c a,v=B c (G Z) a/\G Z<=a/\a<=maxLen:=by
 rcases h with ⟨rfl,rfl⟩|⟨g,o,a,rfl,f,d,b,i,e⟩
 .exact ⟨none,0,rfl,aG _,by decide⟩
 .exact ⟨_,a,rfl,d,b⟩
def dA.lt (h:dA w v Z):∀ q,v.ownBlock=A q->q<w.heap.size:=by
 rcases h with ⟨rfl,rfl⟩|⟨g,o,c,rfl,b,i,d,f,e⟩
 .intro q a;cases a
 .intro q a;cases a;exact b
def dA.drop {b:Option zD} {a k:Nat} (h:dA w (B b (G Z) a) Z) (f:k<=G Z):dA w (B (b.map λx=>x.add k) (G Z - k) (a - k)) (Z.drop k)/\(B (b.map λx=>x.add k) (G Z - k) (a - k)).ownBlock=(B b (G Z) a).ownBlock:=by
 rcases h with ⟨d,rfl⟩|⟨g,o,c,d,i,q,p,m,l⟩
 .cases d;simp at f;subst f;exact ⟨zR ⟨rfl,rfl⟩,rfl⟩
 .cases d;refine ⟨zZ ⟨g,o+k,a - k,?_,i,?_,by omega,λj n=>?_,λj u e=>?_⟩,by rw [oH,Addr.add_lit];rfl⟩
  .rw [mG,oH,Addr.add_lit]
  .rw [mG];omega
  .rw [oJ];exact m _ (by omega)
  .rw [qz] at e;rw [oJ];exact l _ _ e
def dA.aih {b:Option zD} {a k:Nat} (h:dA w (B b (G Z) a) Z) (l:k=G Z):dA w (B b (G Z - k) 0) (Z.drop k)/\(B b (G Z - k) 0).ownBlock=(B b (G Z) a).ownBlock:=by
 subst l;rw [nK,List.drop_length];rcases h with ⟨d,rfl⟩|⟨g,o,c,d,e,q,m,p,n⟩
 .cases d;exact ⟨zR ⟨rfl,rfl⟩,rfl⟩
 .cases d;exact ⟨zZ ⟨g,o,0,rfl,e,aG _,bE _,λj i=>absurd i (pH j),λj u f=>by simp at f⟩,rfl⟩
def dA.take {e:Option zD} {a k:Nat} (h:dA w (B e (G Z) a) Z) (f:k<=G Z):dA w (B e k a) (Z.take k):=by
 rcases h with ⟨d,rfl⟩|⟨g,o,c,d,i,q,m,p,n⟩
 .cases d;simp at f;subst f;exact zR ⟨rfl,rfl⟩
 .cases d;have l:(Z.take k).length=k:=by rw [sF];omega
  refine zZ ⟨g,o,a,by rw [l],i,by omega,m,p,λj u b=>n j u ?_⟩;rw [sX] at b;split at b
  .exact b
  .cases b
def dA.own {Q4:Nat} (h:w.ownsRow Q4 111 1 v (G Z) Z):dA w v Z:=by
 rcases h.2 with ⟨rfl,f⟩|⟨g,b,i,rfl,l,a,k,e,m,n⟩
 .exact zR ⟨rfl,oD f⟩
 .refine zZ ⟨g,0,b,rfl,(cz.1 a).1,k,e,λj d=>⟨?_,bF a _⟩,λj u c=>?_⟩
  .rw [cS,bq w g j _ _ _ a,Array.getElem?_eq_getElem (by omega)];rfl
  .have d:j<G Z:=(fI.1 c).1;rw [cS,h.cellAt j (by omega)];exact c
def fb:(prog.info? 111).map (λi=>(i.zero,i.size,i.bytes))=A (A (zN),1,24):=by kernel_rfl
def OZ (w:zW) (v v':zV):Prop:=v'.ownBlock=v.ownBlock\/∃ g,v'.ownBlock=A g/\w.heap.size<=g
def TA (Q4:TypeId) (h:dA w v Z) (T:G Z<=1000000) {m:zD} {c:Nat} (y:w.cell? (m.add 0)=A u) (r:u.oneCell'=true) :
  ∃ U w',(Builtin.append_ #[112,112] Q4 #[v,B (A m) 1 c]).run prog w=.ok U w'/\dA w' U (Z++[u])/\Ks (λhx=>v.ownBlock=A hx) w w'/\OZ w v U:=by
 obtain ⟨C,V,n,b,t⟩:=fe fb;have a:∀ (j:Nat) (x:zV),[u][j]?=A x->w.cell? (m.add j)=A x:=λj x K=>by
  cases j with
  | zero=>simp at K;rw [<- K];exact y
  | succ j=>simp at K
 have p:∀ x∈[u],x.oneCell'=true:=λx K=>by rw [iB.1 K];exact r
 rcases h with ⟨rfl,rfl⟩|⟨g,o,d,rfl,N,QV,O,s,Y⟩
 .obtain ⟨U,w',E,z,f,_⟩:=run_append_own (P:=prog) w w.heap.size _ Q4 _ C _ 1 24 underlying112 V n b t rfl (by decide) (zN) 0 [] (eW _ _ _ _) m 1 c [u] rfl a p (by decide) (by decide) (aG _);refine ⟨U,w',E,dA.own z,⟨f.os,f.tape,f.output,f.size,λk F S=>f.block k F (λe=>S e.symm)⟩,?_⟩;rcases z.2 with ⟨_,M⟩|⟨g,d,H,rfl,r,_⟩
  .cases M
  .exact zZ ⟨g,rfl,r⟩
 .by_cases l:G Z+1<=d
  .have L:w.cell? (X g (o+G Z))≠none:=λe=>by have:=(s (G Z) (by omega)).1;rw [e] at this;cases this
   refine ⟨B (A (X g o)) (G Z+1) d,w.setCell (X g (o+G Z)) u,?_,?_,?_,zR rfl⟩
   .have:=run_append_room_cells (P:=prog) w _ Q4 _ C underlying112 V g o (G Z) d m 1 c [u] (by rw [b];rfl) a p l (by rw [b,nL];intro j i;simp at i;subst i;exact (s (G Z) (by omega)).1) (by rw [b,nL];intro j i;simp at i;subst i;exact (s (G Z) (by omega)).2);rw [b,nL] at this;exact this
   .have q:(Z++[u]).length=G Z+1:=(by simp);refine zZ ⟨g,o,d,by rw [q],?_,by omega,O,λj i=>⟨?_,?_⟩,λj x K=>?_⟩
    .simpa using N
    .by_cases e:j=G Z
     .subst e;obtain ⟨v',D⟩:=Option.ne_none_iff_exists'.1 L;rw [World.cell?_setCell_same (h:=D)];rfl
     .rw [World.cell?_setCell_other (h:=show ((X g (o+G Z)):zD)≠(X g (o+j)) from λh=>e (Nat.add_left_cancel (eL Addr.off h)).symm)];exact (s j i).1
    .rw [World.frozen?_setCell];exact (s j i).2
    .by_cases e:j=G Z
     .subst e;obtain ⟨v',D⟩:=Option.ne_none_iff_exists'.1 L;rw [World.cell?_setCell_same (h:=D)];rw [qx (aG _),nK] at K;exact K
     .rw [World.cell?_setCell_other (h:=show ((X g (o+G Z)):zD)≠(X g (o+j)) from λh=>e (Nat.add_left_cancel (eL Addr.off h)).symm)];have i:j<(Z++[u]).length:=(fI.1 K).1;rw [sy (by omega)] at K;exact Y j x K
   .exact (Ks.refl _ w).set g _ _ rfl
  .obtain ⟨U,w',E,z,f⟩:=run_append_arg_grows (P:=prog) w _ Q4 _ C _ 1 24 underlying112 V n b t rfl (by decide) (X g o) (G Z) d Z (by omega) (λj x K=>by rw [Addr.add_lit];exact Y j x K) m 1 c [u] rfl a (by omega) (by unfold maxLen;omega) (by omega);refine ⟨U,w',E,dA.own (by rw [b6];exact z),⟨f.os,f.tape,f.output,f.size,λk F _=>f.block k F (by simp)⟩,?_⟩;rcases z.2 with ⟨_,M⟩|⟨R,QT,H,rfl,r,_⟩
   .omega
   .exact zZ ⟨R,rfl,r⟩
def rL {b:Array Oper} {rest:List Oper} {o:Oper} {a:Act} {C:Exit->Act->zW->Prop} (d:o.guard=none) (s x:Operand)
  (p:o.op=.call { callee:=.builtin .append,args:=#[s,x],argTypes:=#[112,112] }) (hs:a.eval s=v) (h:dA w v Z) (m:G Z<=1000000) {e:zD} {c:Nat} (k:a.eval x=B (A e) 1 c) (n:w.cell? (e.add 0)=A u) (f:u.oneCell'=true)
  (g:∀ v' w',dA w' v' (Z++[u])->Ks (λq=>v.ownBlock=A q) w w'->OZ w v v'->wpList prog b C rest (a.put o.dst v') w'):wpList prog b C (o::rest) a w:=by
 obtain ⟨v',w',l,r,j,i⟩:=TA o.type h m n f;exact Lib.wpList_append_run w d s x _ _ p _ _ hs k v' w' l (g v' w' r j i)
def eI {C:Type} (l:List C) (n:Nat):List C:=l.drop (G l - n)
def ER (n:Nat) (m:n<=6) (h:dA w v Z) (p:G Z<=1000000):zC prog 153 #[v,J n] w λr w'=>∃ C,r=zP C/\w'=w/\dA w C (eI Z n)/\(C.ownBlock=v.ownBlock):=by
 obtain ⟨c,b,rfl,x,u⟩:=h.len;have e:=I h;have l:(G Z:Int)<=1000000:=a6.2 p;have s:(n:Int)<=6:=a6.2 m;rcases cC n (G Z) with a|a
 .have i:(n:Int)<(G Z:Int):=iD.2 a;have g:=I (h.drop (k:=G Z - n) (Nat.sub_le _ _));by_cases t:b=G Z - n
  .have q:n=0:=(by omega);subst q;have d:Hid (dA w (B c 0 0) (eI Z 0)/\(B c 0 0).ownBlock=(B c (G Z) b).ownBlock):=I (by
    have:=h.aih (k:=G Z - 0) (by omega);rw [show (G Z) - (G Z - 0)=0 by omega] at this;exact this)
   subst t;clear h g e;go_in;go_wp2_with fail;go_ret;exact ⟨_,rfl,rfl,d.o⟩
  .clear h e;go_in;go_wp2_with fail;go_ret;exact ⟨_,rfl,rfl,g.o⟩
 .have j:(G Z:Int)<=(n:Int):=a6.2 a;have f:Hid (eI Z n=Z):=I (by unfold eI;rw [Nat.sub_eq_zero_of_le a];rfl);have o:Hid (dA w (B c (G Z) b) (eI Z n)):=I (by rw [f.o];exact h);clear h f;go_in;go_wp2_with fail;go_ret;exact ⟨_,rfl,rfl,o.o,rfl⟩
end
end Go.Proofs.YtihgojcfpnhelaaGreatDoor
