import Derived.Test.YtihgojcfpnhelaaGreatDoorMw
set_option maxRecDepth 100000
set_option maxHeartbeats 4000000
set_option linter.all false
namespace Go.Proofs.YtihgojcfpnhelaaGreatDoor
open Go renaming World->zW,Value->zV,Calls->zC,Addr->zD
open Go.RowKit Go.Proofs.Tryz
open List renaming length→G
structure W3 (r:zV) (k n:Int) (x:By) (sl:zV) (w W:zW):Prop where
 bS:zB w W
 c0:W.cell? ⟨w.heap.size,0,none⟩=some (bH r)
 p:W.heap[w.heap.size+1]?=some (.cells #[zI k,zG x,zI n,sl] 87 (0,0))
 R:W.heap[w.heap.size+1+1]?=some (.cells #[zI 0,zI 0] 177 (0,0))
def W3.start (r:zV) (k n:Int) (x:By) (a:zV) (w:zW):W3 r k n x a w (((w.alloc (.cells #[bH r] 306)).alloc (.cells #[zI k,zG x,zI n,a] 87)).alloc (.cells #[zI 0,zI 0] 177)):=by
 have b:(((w.alloc (.cells #[bH r] 306)).alloc (.cells #[zI k,zG x,zI n,a] 87)).alloc (.cells #[zI 0,zI 0] 177)).heap[w.heap.size]?=some (.cells #[bH r] 306 (0,0)):=Yg;refine ⟨og w _ _ _,(Aq b).1,?_,fZ w _ _ _ _⟩;rw [cj _ _ _ aq];exact bc w _ _ _
def W3.next {r:zV} {k n:Int} {x:By} {b:zV} {w W c:zW} (h:W3 r k n x b w W) (a:zB W c):W3 r k n x b w c:=
 ⟨h.bS.t (a.m h.bS.size),(a.cell (p:=⟨w.heap.size,0,none⟩) (gI W _ h.c0)).t h.c0,(a.block _ (cz.1 h.p).1).t h.p,(a.block _ (cz.1 h.R).1).t h.R⟩
def W3.fin {r:zV} {k n:Int} {x:By} {a:zV} {w W:zW} (h:W3 r k n x a w W) (u:Vl):dx u w (.returned (.agg #[zI u.1,zI u.2])) ((W.setCell ⟨w.heap.size+1+1,0,none⟩ (zI u.1)).setCell ⟨w.heap.size+1+1,1,none⟩ (zI u.2)):=
 ⟨rfl,dJ h.bS _ ae _ _⟩
def w_num (r:zV) (x:By) (n:Int) (a:Option zD) (l c:Nat) (w:zW) :
  zC prog 220 #[.agg #[bH r],.agg #[zI 1,zG x,zI n,.slice a l c]] w (dx (1,n) w):=by
 have g:=I (W3.start r 1 n x (.slice a l c) w);go_in;go_wp2_with (go_at_call 240;refine mo (xh _ _) ?_;rintro e w1 ⟨rfl,b⟩);have d:=I (g.o.next b);obtain ⟨⟨k0,k1⟩,⟨f0,f1⟩,f⟩:=cq d.o.R;clear b;apply I;go_wp2;refine aK (v:=.agg #[zI 1,zI n]) EG rfl ?_;exact d.o.fin (1,n)
def afn (r:zV) (x:By) (n:Int) (a:Option zD) (l c:Nat) (u:Vl) (w:zW) (f:∀ W,zB w W->zC prog 198 #[r,zG x] W (dx u W)) :
  zC prog 220 #[.agg #[bH r],.agg #[zI 2,zG x,zI n,.slice a l c]] w (dx u w):=by
 have d:=I (W3.start r 2 n x (.slice a l c) w);have h:=I (λW (j:zB w W)=>f W j);clear f;go_in;go_wp2_with (go_at_call 198;refine mo (h.o _ d.o.bS) ?_;rintro e w1 ⟨rfl,b⟩);have g:=I (d.o.next b);obtain ⟨⟨k0,k1⟩,⟨f0,f1⟩,i⟩:=cq g.o.R;clear b;apply I;go_wp2;refine aK (v:=.agg #[zI u.1,zI u.2]) EG rfl ?_;exact g.o.fin (u)
def afo (r:zV) (x:By) (n:Int) (a:Option zD) (l c:Nat) (w:zW) :
  zC prog 220 #[.agg #[bH r],.agg #[zI 7,zG x,zI n,.slice a l c]] w (dx ((2,1)) w):=by
 have g:=I (W3.start r 7 n x (.slice a l c) w);go_in;go_wp2_with (go_at_call 241;refine mo (lK true _) ?_;rintro e w1 ⟨rfl,b⟩);rw [show (bD true).1=2 from rfl,show (bD true).2=1 from rfl];have d:=I (g.o.next b);obtain ⟨⟨k0,k1⟩,⟨f0,f1⟩,f⟩:=cq d.o.R;clear b;apply I;go_wp2;refine aK (v:=.agg #[zI 2,zI 1]) EG rfl ?_;exact d.o.fin ((2,1))
def acA (r:zV) (x:By) (n:Int) (a:Option zD) (l c:Nat) (w:zW) :
  zC prog 220 #[.agg #[bH r],.agg #[zI 8,zG x,zI n,.slice a l c]] w (dx ((2,0)) w):=by
 have g:=I (W3.start r 8 n x (.slice a l c) w);go_in;go_wp2_with (go_at_call 241;refine mo (lK false _) ?_;rintro e w1 ⟨rfl,b⟩);rw [show (bD false).1=2 from rfl,show (bD false).2=0 from rfl];have d:=I (g.o.next b);obtain ⟨⟨k0,k1⟩,⟨f0,f1⟩,f⟩:=cq d.o.R;clear b;apply I;go_wp2;refine aK (v:=.agg #[zI 2,zI 0]) EG rfl ?_;exact d.o.fin ((2,0))
def afp (r:zV) (x:By) (n:Int) (a:Option zD) (l c:Nat) (q:Nat->Pt) (A:Nat->Option zD) (L C:Nat->Nat) (v:Nat->Vl) (w:zW) (O:1<=l) (H:l<=3) (t:ib w a l q A L C) (s:kG r w l q A L C v) :
  zC prog 220 #[.agg #[bH r],.agg #[zI 9,zG x,zI n,.slice a l c]] w (dx (v 0) w):=by
 obtain ⟨g,rfl,j,c0,c1,c2,c3⟩:=t 0 ae;rw [jC] at c0 c1 c2 c3;rw [cS] at c1 c2 c3;have y:=I s;have F:(0:Int)<(l:Int):=ae;clear t s;obtain ⟨d,f⟩:∃ d,d=(((w.alloc (.cells #[bH r] 306)).alloc (.cells #[zI 9,zG x,zI n,zS g l c] 87)).alloc (.cells #[zI 0,zI 0] 177)):=⟨_,rfl⟩;have b:W3 r 9 n x (zS g l c) w d:=by rw [f];exact W3.start r 9 n x _ w
 have E:=I b;have i:=I f;obtain ⟨⟨_,_,_,Q⟩,_,K⟩:=aX b.p;obtain ⟨⟨T,U⟩,⟨f0,f1⟩,zn⟩:=cq b.R;have M:=b.c0;have N:=(b.bS.cell (p:=⟨g,0,none⟩) j).t c0;have R:=(b.bS.cell (p:=⟨g,1,none⟩) j).t c1;have X:=(b.bS.cell (p:=⟨g,2,none⟩) j).t c2;have S:=(b.bS.cell (p:=⟨g,3,none⟩) j).t c3;have m:=I (λW (o:zB d W)=>y.o 0 ae W (b.bS.t (o.m b.bS.size)));have B:=I (λk W (o:zB d W)=>(y.o.next (b.bS.t (o.m b.bS.size))).only 0 ae k);have G:=I (λu W=>zm u W);have J:=I (λu W=>rZ u W);clear b c0 c1 c2 c3;go_in
 go_upto_region 10 with fail
 rw [<- i.o];clear f i
 go_region_with (first|(go_at_call 220;refine (m.o _ (aM d.heap.size d).drew).m ?_;rintro e w1 ⟨rfl,h⟩;have z:=I (E.o.next ((aM d.heap.size d).drew.t h));obtain ⟨⟨m0,m1⟩,⟨P,V⟩,D⟩:=cq z.o.R;clear h))
 all_goals go_wp2
 all_goals refine aK (v:=.agg #[zI (v 0).1,zI (v 0).2]) JE rfl ?_
 all_goals exact z.o.fin (v 0)
def ajg (r:zV) (x:By) (n:Int) (a:Option zD) (l c:Nat) (q:Nat->Pt) (A:Nat->Option zD) (L C:Nat->Nat) (v:Nat->Vl) (w:zW) (Q:1<=l) (J:l<=3) (y:ib w a l q A L C) (t:kG r w l q A L C v) :
  zC prog 220 #[.agg #[bH r],.agg #[zI 14,zG x,zI n,.slice a l c]] w (dx (iW (aP 1 (v 0))) w):=by
 obtain ⟨g,rfl,j,c0,c1,c2,c3⟩:=y 0 ae;rw [jC] at c0 c1 c2 c3;rw [cS] at c1 c2 c3;have z:=I t;have H:(0:Int)<(l:Int):=ae;clear y t;obtain ⟨f,h⟩:∃ f,f=(((w.alloc (.cells #[bH r] 306)).alloc (.cells #[zI 14,zG x,zI n,zS g l c] 87)).alloc (.cells #[zI 0,zI 0] 177)):=⟨_,rfl⟩;have b:W3 r 14 n x (zS g l c) w f:=by rw [h];exact W3.start r 14 n x _ w
 have G:=I b;have i:=I h;obtain ⟨⟨_,_,_,S⟩,_,M⟩:=aX b.p;obtain ⟨⟨V,X⟩,⟨f0,f1⟩,zn⟩:=cq b.R;have O:=b.c0;have P:=(b.bS.cell (p:=⟨g,0,none⟩) j).t c0;have T:=(b.bS.cell (p:=⟨g,1,none⟩) j).t c1;have Z:=(b.bS.cell (p:=⟨g,2,none⟩) j).t c2;have U:=(b.bS.cell (p:=⟨g,3,none⟩) j).t c3;have F:=I (λW (s:zB f W)=>z.o 0 ae W (b.bS.t (s.m b.bS.size)));have m:=I (λk W (s:zB f W)=>(z.o.next (b.bS.t (s.m b.bS.size))).only 0 ae k);have o:=I (λu W=>zm u W);have K:=I (λu W=>rZ u W);clear b c0 c1 c2 c3;go_in
 go_upto_region 12 with fail
 rw [<- i.o];clear h i
 go_region_with (first|(go_at_call 243;refine (m.o 1 _ (aM f.heap.size f).drew).m ?_;rintro e w1 ⟨rfl,d⟩;have B:=I ((aM f.heap.size f).drew.t d);have N:=((aM f.heap.size f).drew.t d).size;clear d)|(go_at_call 242;refine (o.o _ _).m ?_;rintro e w2 ⟨rfl,d⟩;have D:=I (G.o.next (B.o.t (d.m B.o.size)));obtain ⟨⟨m0,m1⟩,⟨R,Y⟩,E⟩:=cq D.o.R;clear d))
 all_goals go_wp2
 all_goals refine aK (v:=.agg #[zI (iW (aP 1 (v 0))).1,zI (iW (aP 1 (v 0))).2]) JE rfl ?_
 all_goals exact D.o.fin (iW (aP 1 (v 0)))
def ajh (r:zV) (x:By) (n:Int) (a:Option zD) (l c:Nat) (q:Nat->Pt) (A:Nat->Option zD) (L C:Nat->Nat) (v:Nat->Vl) (w:zW) (Q:1<=l) (K:l<=3) (y:ib w a l q A L C) (t:kG r w l q A L C v) :
  zC prog 220 #[.agg #[bH r],.agg #[zI 6,zG x,zI n,.slice a l c]] w (dx (nH (aP 2 (v 0))) w):=by
 obtain ⟨g,rfl,j,c0,c1,c2,c3⟩:=y 0 ae;rw [jC] at c0 c1 c2 c3;rw [cS] at c1 c2 c3;have z:=I t;have H:(0:Int)<(l:Int):=ae;clear y t;obtain ⟨f,h⟩:∃ f,f=(((w.alloc (.cells #[bH r] 306)).alloc (.cells #[zI 6,zG x,zI n,zS g l c] 87)).alloc (.cells #[zI 0,zI 0] 177)):=⟨_,rfl⟩;have b:W3 r 6 n x (zS g l c) w f:=by rw [h];exact W3.start r 6 n x _ w
 have G:=I b;have i:=I h;obtain ⟨⟨_,_,_,S⟩,_,M⟩:=aX b.p;obtain ⟨⟨V,X⟩,⟨f0,f1⟩,zn⟩:=cq b.R;have O:=b.c0;have P:=(b.bS.cell (p:=⟨g,0,none⟩) j).t c0;have T:=(b.bS.cell (p:=⟨g,1,none⟩) j).t c1;have Z:=(b.bS.cell (p:=⟨g,2,none⟩) j).t c2;have U:=(b.bS.cell (p:=⟨g,3,none⟩) j).t c3;have F:=I (λW (o:zB f W)=>z.o 0 ae W (b.bS.t (o.m b.bS.size)));have m:=I (λk W (o:zB f W)=>(z.o.next (b.bS.t (o.m b.bS.size))).only 0 ae k);have J:=I (λu W=>zm u W);have s:=I (λu W=>rZ u W);clear b c0 c1 c2 c3;go_in
 go_upto_region 14 with fail
 rw [<- i.o];clear h i
 go_region_with (first|(go_at_call 243;refine (m.o 2 _ (aM f.heap.size f).drew).m ?_;rintro e w1 ⟨rfl,d⟩;have B:=I ((aM f.heap.size f).drew.t d);have N:=((aM f.heap.size f).drew.t d).size;clear d)|(go_at_call 244;refine (s.o _ _).m ?_;rintro e w2 ⟨rfl,d⟩;have D:=I (G.o.next (B.o.t (d.m B.o.size)));obtain ⟨⟨m0,m1⟩,⟨R,Y⟩,E⟩:=cq D.o.R;clear d))
 all_goals go_wp2
 all_goals refine aK (v:=.agg #[zI (nH (aP 2 (v 0))).1,zI (nH (aP 2 (v 0))).2]) JE rfl ?_
 all_goals exact D.o.fin (nH (aP 2 (v 0)))
section
section
def I8 (R c o:Nat):List By:=(List.replicate (R - c) [[44],aH 82 o]).flatten++[[41]]
def kh (R c o:Nat):List By:=if c=0 then aH 82 o::I8 R 1 o else I8 R c o
def sS (R o:Nat):List By:=[40]::kh R 0 o
def I9 (R c o:Nat) (a:1<=c) (h:c<R):kh R c o=[44]::aH 82 o::kh R (c+1) o:=by
 unfold kh I8;rw [aA ae,aA ae,show R - c=R - (c+1)+1 from ae,BC];simp
def LW (R o:Nat) (h:1<=R):kh R R o=[[41]]:=by
 unfold kh I8;rw [aA ae,nK];rfl
def SF:Tk [40]:=⟨40,_,rfl,ai,ai⟩
def LX:Tk [41]:=⟨41,_,rfl,ai,ai⟩
def LY:Tk [44]:=⟨44,_,rfl,ai,ai⟩
def lQ (len:Nat) (ts:List (By × Nat)) (S L:List By) (i j m:Nat):Prop:=∀ K q,cF len (m+q) (S++K) (ts.drop i)=cF len q (L++K) (ts.drop j)
section
variable {len:Nat} {ts:List (By × Nat)}
def lQ.go {S A L:List By} {i j k m n:Nat} (h:lQ len ts S (A++L) i j m) (g:kH len ts A j k n):lQ len ts S L i k (m+n):=λK q=>Y0
def lQ.no {S A L:List By} {i j m n p:Nat} {er:Int} (h:lQ len ts S (A++L) i j m) (g:ic len ts A j er p n):ic len ts S i er p (m+n):=λK q=>Y0
def lQ.tok {S L:List By} {x:By} {i j m:Nat} (h:lQ len ts S (x::L) i j m) (b:Tk x) (a:aw ts j=x):lQ len ts S L i (j+1) (m+1):=λK q=>by
 rw [oJ,h K (1+q),mP 1 q,gT,mU len ts x j q (L++K) b a]
def lQ.bad {S L:List By} {x:By} {i j m:Nat} (h:lQ len ts S (x::L) i j m) (b:Tk x) (a:aw ts j≠x):ic len ts S i 3 (eF len ts j) (m+1):=λK q=>by
 rw [oJ,h K (1+q),mP 1 q,gT,xO len ts x j q (L++K) b a]
def lQ.go1 {S:List By} {i j m:Nat} (h:lQ len ts S [] i j m):kH len ts S i j m:=λK q=>h K q
end
inductive mO (ts:List (By × Nat)) (i:Nat):List Pt->Nat->Prop
 | one (j:Nat) (a:Pt):aw ts i=[40]->bh ts 1 (i+1) j a->mO ts i [a] j
 | snoc (l:List Pt) (j j':Nat) (a:Pt):mO ts i l j->aw ts j=[44]->bh ts 1 (j+1) j' a->mO ts i (l++[a]) j'
def mO.ne {ts:List (By × Nat)} {i j:Nat} {l:List Pt} (h:mO ts i l j):l≠[]:=by
 cases h<;>simp
def mO.inv1 {ts:List (By × Nat)} {i j:Nat} {l:List Pt} (h:mO ts i l j) (d:(G l)=1):∃ a,l=[a]/\aw ts i=[40]/\bh ts 1 (i+1) j a:=by
 cases h with
 | one _ a b c=>exact ⟨a,rfl,b,c⟩
 | snoc l j a _ b c e=>
  have:=b.ne;cases l with
  | nil=>exact absurd rfl this
  | cons x l=>simp at d
def mO.inv2 {ts:List (By × Nat)} {i j:Nat} {l:List Pt} (h:mO ts i l j) (n:Nat) (f:(G l)=n+2):∃ c a b,l=c++[a]/\(G c)=n+1/\mO ts i c b/\aw ts b=[44]/\bh ts 1 (b+1) j a:=by
 cases h with
 | one _ a d e=>simp at f
 | snoc l b _ a d e g=>exact ⟨l,a,b,rfl,by simp at f;omega,d,e,g⟩
def mO.ane {ts:List (By × Nat)} {i j:Nat} {l:List Pt} (h:mO ts i l j) (r:(G l)=3):∃ a b c d e,l=[a,b,c]/\aw ts i=[40]/\bh ts 1 (i+1) d a/\aw ts d=[44]/\bh ts 1 (d+1) e b/\aw ts e=[44]/\bh ts 1 (e+1) j c:=by
 obtain ⟨u,c,e,rfl,f,q,k,o⟩:=h.inv2 1 r;obtain ⟨v,b,d,rfl,m,p,n,g⟩:=q.inv2 0 f;obtain ⟨a,rfl,s,t⟩:=p.inv1 m;exact ⟨a,b,c,d,e,rfl,s,t,n,g,k,o⟩
abbrev KR:=Pt × Option zD × Nat × Nat
def ky (ks:List KR):List zV:=ks.flatMap λx=>[zI (x.1.k:Int),.string ⟨x.1.nm.toArray⟩,zI (x.1.n:Int),.slice x.2.1 x.2.2.1 x.2.2.2]
def VG (ks:List KR) (x:KR):ky (ks++[x])=ky ks++[zI (x.1.k:Int),.string ⟨x.1.nm.toArray⟩,zI (x.1.n:Int),.slice x.2.1 x.2.2.1 x.2.2.2]:=Hb
def Dp (ks:List KR) (j:Nat) (h:j<G ks):(ky ks)[j*4]?=some (zI (ks[j].1.k:Int))/\(ky ks)[j*4+1]?=some (.string ⟨ks[j].1.nm.toArray⟩)/\(ky ks)[j*4+2]?=some (zI (ks[j].1.n:Int))/\(ky ks)[j*4+3]?=some (.slice ks[j].2.1 ks[j].2.2.1 ks[j].2.2.2):=by
 induction ks generalizing j with
 | nil=>simp at h
 | cons t ks ih=>
  have hc:ky (t::ks)=zI (t.1.k:Int)::.string ⟨t.1.nm.toArray⟩::zI (t.1.n:Int)::.slice t.2.1 t.2.2.1 t.2.2.2::ky ks:=Hb;exact XB
def Fu:(prog.info? 87).map (λi=>(i.zero,i.size,i.bytes))=some (some (.agg #[zI 0,zG [],zI 0,zN]),4,56):=aD
def dR.row {w:zW} {S:Nat->Prop} {ks:List KR} {g d B:Nat} (a:w.ownsRow B 87 4 (zS g (G ks) d) (G ks) (ky ks)) (n:∀ x,x∈ks->dR w S x.1 x.2.1 x.2.2.1 x.2.2.2) (m:S g) (p:Pt) (i:p.kids=ks.map (·.1)) (l:ks≠[]):dR w S p (some ⟨g,0,none⟩) (G ks) d:=by
 have e:(G p.kids)=(G ks):=by rw [i,fy]
 have c:∀ j (h:j<G p.kids),p.kids[j]=(ks[j]'ae).1:=λj h=>by
  simp only [i,kJ]
 have:=dR.node (w:=w) (S:=S) p g d (λj=>((ks[j]?).map (·.2.1)).getD none) (λj=>((ks[j]?).map (·.2.2.1)).getD 0) (λj=>((ks[j]?).map (·.2.2.2)).getD 0) m (by rw [i];simpa using l) (λj k=>?_) (λj k=>?_)
 ·rw [e] at this;exact this
 ·have b:j<(G ks):=ae;have f:=Dp ks j b;rw [c j k];simp only [b,cU,oH,Option.getD_some];refine ⟨?_,?_,?_,?_⟩
  ·rw [a.cellAt (j*4) ae];exact f.1
  ·rw [a.cellAt (j*4+1) ae];exact f.2.1
  ·rw [a.cellAt (j*4+2) ae];exact f.2.2.1
  ·rw [a.cellAt (j*4+3) ae];exact f.2.2.2
 ·have b:j<(G ks):=ae;rw [c j k];simp only [b,cU,oH,Option.getD_some];exact n _ (bt b)
section
variable {len:Nat} {ts:List (By × Nat)} {b bl cp:Nat}
def ady (kd R i:Nat) (d e:Int) (w:zW) (h:cX w b bl cp (aL len ts) i d e) (k:((aL len ts)[i]'h.lt).1≠9) :
  zC prog 159 #[zJ b,zI kd,zI R] w λr w'=>r=.returned (.tuple #[.agg #[zI 0,zG [],zI 0,zN],.bool false])/\cX w' b bl cp (aL len ts) i d 3/\Kp b w w':=by
 have H:=I (λw1 (g:cX w1 b bl cp (aL len ts) i d e)=>P9 w1 b bl cp _ i d e 9 g k);have hs:=h.size;have m:=I h;clear k h;go_in;go_wp2_with (go_at_call 94;refine mo (H.o _ (m.o.next (bZ _))) ?_;rintro e w' ⟨rfl,j,a⟩);obtain ⟨⟨k0,k1,k2,k3⟩,⟨f0,f1,f2,f3⟩,l⟩:=aX (a.blk (q:=w.heap.size) (bL w _) ae);have n:=I a;have c:=I j;clear j a;apply I;go_wp2;refine aK (v:=.tuple #[.agg #[zI 0,zG [],zI 0,zN],.bool false]) ZQ rfl ?_;have f:Kp b w w':=(Kp.of (bZ _) hs).t n.o;exact ⟨rfl,c.o.ep w.heap.size _ _ _ _ hs,f.dF w.heap.size _ _ _ _ (aG _) hs⟩
def adz (kd R i:Nat) (e:Int) (w:zW) (h:cX w b bl cp (aL len ts) i 6 e) (l:((aL len ts)[i]'h.lt).1=9) :
  zC prog 159 #[zJ b,zI kd,zI R] w λr w'=>r=.returned (.tuple #[.agg #[zI 0,zG [],zI 0,zN],.bool false])/\cX w' b bl cp (aL len ts) i 6 4/\Kp b w w':=by
 have H:=I (λw1 (g:cX w1 b bl cp (aL len ts) i 6 e)=>Bn w1 b bl cp _ i 6 e 9 g l);have n:=I (λw1 (g:cX w1 b bl cp (aL len ts) i 6 e)=>FJ w1 b bl cp _ i e g);have hs:=h.size;have j:=I h;clear l h;go_in;go_wp2_with (first|(go_at_call 94;refine (H.o _ (j.o.next (bZ _))).m ?_;rintro e w' ⟨rfl,rfl⟩)|(go_at_call 158;refine mo (n.o _ (j.o.next (bZ _))) ?_;rintro e w' ⟨rfl,k,a⟩));obtain ⟨⟨k0,k1,k2,k3⟩,⟨f0,f1,f2,f3⟩,hsz⟩:=aX (a.blk (q:=w.heap.size) (bL w _) ae);have m:=I a;have d:=I k;clear k a;apply I;go_wp2;refine aK (v:=.tuple #[.agg #[zI 0,zG [],zI 0,zN],.bool false]) Zt rfl ?_;have f:Kp b w w':=(Kp.of (bZ _) hs).t m.o;have c:=f.dF w.heap.size (zI 0) (zG []) (zI 0) (zN) (aG _) hs;exact ⟨rfl,(d.o.ep w.heap.size _ _ _ _ hs).next (bZ _),c.next (bZ _) (by have:=c.size;omega)⟩
end
end
end
section
section
structure A9 (len:Nat) (ts:List (By × Nat)) (b bl cp:Nat) (w:zW) (gW kd d:Nat) (e:Int) (wr:zW) (U:Nat) (ks:List KR) (Z:Option zD) (n cap:Nat):Prop where
 st:St len ts wr b bl cp U (d+1) e
 kp:Kp b w wr
 res:wr.heap[w.heap.size]?=some (.cells #[zI 0,zG [],zI 0,zN] 87 (0,0))
 sO:wr.heap[gW]?=some (.cells #[zI kd,zG [],zI 0,.slice Z n cap] 87 (0,0))
 own:wr.ownsRow (gW+1) 87 4 (.slice Z n cap) n (ky ks)
 len:n=G ks
 kid:∀ x,x∈ks->dR wr (λq=>gW<q/\q<wr.heap.size/\(Value.slice Z n cap).ownBlock≠some q) x.1 x.2.1 x.2.2.1 x.2.2.2
 gw:w.heap.size<gW
 env:Env w
 bw:b<w.heap.size
section
variable {len:Nat} {ts:List (By × Nat)} {b bl cp:Nat} {w:zW} {gW kd d:Nat} {e:Int} {wr:zW} {U:Nat} {ks:List KR} {Z:Option zD} {n cap:Nat}
def St.ajR {c d2:Nat} {d w2 w3:zW} (h:St len ts w2 b bl cp c d2 e) (g:w3.heap[b]?=w2.heap[b]?) (i:w3.heap[bl]?=w2.heap[bl]?) (f:Env d) (a:Below b d w3):St len ts w3 b bl cp c d2 e:=
 ⟨h.rd.apart g i,f.below a Ro,h.low⟩
def A9.keep (h:A9 len ts b bl cp w gW kd d e wr U ks Z n cap) {w2:zW} (a:Kp b wr w2):w2.ownsRow (gW+1) 87 4 (.slice Z n cap) n (ky ks)/\∀ x,x∈ks->dR w2 (λq=>gW<q/\q<w2.heap.size/\(Value.slice Z n cap).ownBlock≠some q) x.1 x.2.1 x.2.2.1 x.2.2.2:=by
 have l:=h.gw;have m:=h.bw;have i:=a.size;refine ⟨?_,λx j=>?_⟩
 ·refine h.own.kept (row:=some b) ⟨a.bS.os,a.bS.tape,a.bS.output,a.size,λk g f=>a.heap (λe=>f Cs) g⟩ (Or.inr λe=>?_);have:=(h.own.lt b e).1;omega
 ·exact ((h.kid x j).next λq c=>a.heap ae c.2.1).wide λq c=>⟨c.1,ae,c.2.2⟩
def A9.call (h:A9 len ts b bl cp w gW kd d e wr U ks Z n cap) {w2:zW} {c:Nat} (a:Kp b wr w2) (f:St len ts w2 b bl cp c (d+1) e):A9 len ts b bl cp w gW kd d e w2 c ks Z n cap:=by
 have g:=h.gw;have i:=h.bw;exact ⟨f,h.kp.t a,a.blk h.res ae,a.blk h.sO ae,(h.keep a).1,h.len,(h.keep a).2,h.gw,h.env,h.bw⟩
def A9.app (h:A9 len ts b bl cp w gW kd d e wr U ks Z n cap) {w2:zW} {J:Nat} (B:Kp b wr w2) (O:St len ts w2 b bl cp J (d+1) e) (x:KR) (N:dR w2 (λq=>wr.heap.size<=q/\q<w2.heap.size) x.1 x.2.1 x.2.2.1 x.2.2.2)
  {W w3:zW} (z:zB w2 W) (c:W.grownBy w3 (Value.slice Z n cap).ownBlock) {g a:Nat} (E:(Value.slice Z n cap).ownBlock=some g\/g=W.heap.size)
  (v:w3.ownsRow (gW+1) 87 4 (zS g (n+1) a) (n+1) (ky ks++[zI (x.1.k:Int),.string ⟨x.1.nm.toArray⟩,zI (x.1.n:Int),.slice x.2.1 x.2.2.1 x.2.2.2])) :
  A9 len ts b bl cp w gW kd d e (w3.setCell ⟨gW,3,none⟩ (zS g (n+1) a)) J (ks++[x]) (some ⟨g,0,none⟩) (n+1) a:=by
 have t:=h.call B O;have R:=h.gw;have S:=h.bw;have M:=B.size;have G:=z.size;have H:=c.size;have F:gW<wr.heap.size:=(cz.1 h.sO).1;have l:∀ q,(Value.slice Z n cap).ownBlock=some q->gW+1<=q/\q<wr.heap.size:=h.own.lt;have i:∀ q,q<w2.heap.size->(Value.slice Z n cap).ownBlock≠some q->q≠gW->(w3.setCell ⟨gW,3,none⟩ (zS g (n+1) a)).heap[q]?=w2.heap[q]?:=λq f j o=>by
  rw [cY _ _ _ _ (by exact o),c.block q ae (λe=>j e.symm),z.block q f]
 have m:∀ q,q<=gW->(Value.slice Z n cap).ownBlock≠some q:=λq f e=>by have:=l q e;omega
 have K:=h.st.rd.blk;have Q:=t.kp.size;have r:Below b w (w3.setCell ⟨gW,3,none⟩ (zS g (n+1) a)):=
  t.kp.bS.t (((z.m ae).grown c ae (λk B=>by have:=l k B;omega)).setCell (p:=⟨gW,3,none⟩) (by show b<=gW;omega) _)
 have C:Kp b w (w3.setCell ⟨gW,3,none⟩ (zS g (n+1) a)):=
  ⟨r,λq f D=>(i q ae (m q ae) ae).t (t.kp.up q f D)⟩
 have P:=t.st.rd.size;have u:w3.heap[gW]?=w2.heap[gW]?:=by rw [c.block gW ae (λe=>m gW (aG _) e.symm),z.block gW ae]
 have s:(w3.setCell ⟨gW,3,none⟩ (zS g (n+1) a)).heap.size=w3.heap.size:=aq;have o:∀ q,q<w2.heap.size->(Value.slice Z n cap).ownBlock≠some q->(Value.slice (some ⟨g,0,none⟩) (n+1) a).ownBlock≠some q:=λq f j e=>by
  have e1:g=q:=by simpa [Value.ownBlock] using e
  rcases E with L|L
  ·exact j (by rw [L,e1])
  ·omega
 refine ⟨?_,C,?_,?_,?_,?_,λy A=>?_,h.gw,h.env,h.bw⟩
 ·refine t.st.ajR ?_ ?_ h.env r
  ·exact i b ae (m b ae) ae
  ·exact i bl ae (m bl ae) ae
 ·exact (i w.heap.size ae (m _ ae) ae).t t.res
 ·rw [aj (u.t t.sO)];rfl
 ·rw [VG];exact ym v (by show gW<gW+1;omega) _
 ·rw [b6,h.len];rfl
 ·rw [cG,iB] at A;rcases A with A|rfl
  ·exact ((t.kid y A).next λq f=>i q f.2.1 f.2.2 ae).wide λq f=>⟨f.1,by rw [s];omega,o q f.2.1 f.2.2⟩
  ·have j:∀ q,wr.heap.size<=q->(Value.slice Z n cap).ownBlock≠some q:=λq f e=>by have:=l q e;omega
   exact (N.next λq f=>i q f.2 (j q f.1) ae).wide λq f=>⟨ae,by rw [s];omega,o q f.2 (j q f.1)⟩
def A9.fin (h:A9 len ts b bl cp w gW kd d e wr U ks Z n cap) {i:zW} (u:Kp b wr i) (t:1<=n) (v0 v1 v2 v3:zV) (p:Pt) (s:p.kids=ks.map (·.1)) :
  dR ((((i.setCell ⟨w.heap.size,0,none⟩ v0).setCell ⟨w.heap.size,1,none⟩ v1).setCell ⟨w.heap.size,2,none⟩ v2).setCell ⟨w.heap.size,3,none⟩ v3) (λq=>w.heap.size<=q/\q<((((i.setCell ⟨w.heap.size,0,none⟩ v0).setCell ⟨w.heap.size,1,none⟩ v1).setCell ⟨w.heap.size,2,none⟩ v2).setCell ⟨w.heap.size,3,none⟩ v3).heap.size) p Z n cap:=by
 obtain ⟨a,c⟩:=h.keep u;have v:=h.gw;have y:=h.bw;obtain ⟨g,k,l,o,j⟩:=a.form ae;simp only [Value.slice.injEq,true_and] at l;obtain ⟨rfl,rfl⟩:=l;have f:=h.len;subst f;refine dR.row (B:=gW+1) (ym (ym (ym (ym a GC _) GC _) GC _) GC _) (λx r=>?_) ?_ p s (λe=>by subst e;simp at t)
 ·exact ((c x r).next λq m=>lx i w.heap.size v0 v1 v2 v3 ae).wide λq m=>⟨ae,by rw [js];exact m.2.1⟩
 ·exact ⟨ae,by rw [js];exact j⟩
end
end
end
section
section
def VH (ts:List (By × Nat)) (i kd R:Nat) (a:Nat) (p:Pt):Prop:=∃ l j,mO ts i l j/\(G l)=R/\aw ts j=[41]/\a=j+1/\p.k=kd/\p.nm=[]/\p.n=0/\p.kids=l
def mkP (kd R:Nat) (e:R=1\/(R=3/\kd=3)) (l:List Pt) (d:(G l)=R):∃ p:Pt,p.k=kd/\p.nm=[]/\p.n=0/\p.kids=l:=by
 rcases e with rfl|⟨rfl,rfl⟩
 ·match l,d with
  | [a],_=>exact ⟨.un kd a,rfl,rfl,rfl,rfl⟩
 ·match l,d with
  | [a,b,c],_=>exact ⟨.ifs a b c,rfl,rfl,rfl,rfl⟩
section
variable {len:Nat} {ts:List (By × Nat)} {b bl cp:Nat}
def ajS (AU:fV ts) (F:Nat) (IH:zv len ts b bl cp F) (kd R i d:Nat) (hR:R=1\/(R=3/\kd=3)) (e:Int) (w:zW) (hd:d<6) (ht:aw ts i=[40]) (hF:10*(G ts - i)<F) (hS:St len ts w b bl cp i d e) :
  zC prog 159 #[zJ b,zI kd,zI R] w (dQ len ts (sS R (d+1)) (VH ts i kd R) 14 b bl cp i d e w):=by
 have hlt:=hS.rd.lt;have hi:i<(G ts):=uE ai ht;have hk9:((aL len ts)[i]).1=9:=(AU.word hlt [40] 9 ai).2 ht;have H:=I (λw1 (g:cX w1 b bl cp (aL len ts) i (d:Int) e)=>Bn w1 b bl cp _ i d e 9 g hk9);have H2:=I (λw1 (g:cX w1 b bl cp (aL len ts) i (d:Int) e)=>DG w1 b bl cp _ i d e g hd zR);have hs:=hS.rd.size;have hblk:=hS.rd.blk;have aqR:=hS.rd.many;have HS:=I hS;have SK:=I IH;have HT:=I ht;have AW:=I AU;have HRR:=I hR;have hR1:1<=R:=ae;have hR3:R<=3:=ae;obtain ⟨i0,Ud,hz0,hz1,hz2⟩:=fe Fu;clear IH ht AU hk9 hR;go_in;go_wp2_with (first|(go_at_call 94;refine (H.o _ (HS.o.rd.next (bZ _))).m ?_;rintro e w' ⟨rfl,rfl⟩)|(go_at_call 158;refine mo (H2.o _ (HS.o.rd.next (bZ _))) ?_;rintro e w1 ⟨rfl,hr,hbb⟩));have T:=hbb.blk (q:=w.heap.size) (bL w _) ae;have Jj:Kp b w w1:=(Kp.of (bZ _) hs).t hbb;have hS1:St len ts w1 b bl cp (i+1) (d+1) e:=HS.o.down (d':=d+1) hr Jj.bS;have Cg:=(cz.1 T).1;generalize ((aL len ts)[i]).2.2.2=tn at *;generalize ((aL len ts)[i]).2.2.1=tx at *;generalize ((aL len ts)[i]).2.1=tp at *;generalize ((aL len ts)[i]).1=tk at *;have anh:=I (show A9 len ts b bl cp w (w1.heap.size+1) kd d e ((w1.alloc (.cells #[zI tk,zI tp,zG tx,zI tn] 134)).alloc (.cells #[zI kd,zG [],zI 0,zN] 87)) (i+1) [] none 0 0 from
  ⟨hS1.next (aY _ _ _),Jj.next (aY _ _ _) ae,(tC _ _ _ Cg).t T,by have:=bL (w1.alloc (.cells #[zI tk,zI tp,zG tx,zI tn] 134)) (.cells #[zI kd,zG [],zI 0,zN] 87);simpa using this,eW _ _ _ _,rfl,(λx hx=>by cases hx),ae,HS.o.env,hs⟩)
 clear hr hbb T Jj hS1 H H2;apply I;go_wp2;go_loopw [29] (λci wr=>∃ (c n m:Nat) (ks:List KR) (U:Option zD) (C:Nat),c<=R/\ci=zI c/\i<n/\m+19<=20*(n - i)/\Hid (A9 len ts b bl cp w (w1.heap.size+1) kd d e wr n ks U c C)/\Hid (lQ len ts (sS R (d+1)) (kh R c (d+1)) i n m)/\Hid ((c=0->n=i+1)/\(0<c->mO ts i (ks.map (·.1)) n))) (λci _=>R - (intOf ci).toNat)
 case atStart=>
  refine ⟨0,i+1,1,[],none,0,ae,rfl,ae,ae,anh,?_,λ_=>rfl,λh=>absurd h ae⟩;intro K q;rw [mP 1 q];exact mU len ts [40] i q _ SF HT.o
 case round=>
  obtain ⟨c,n,m,ks,U,C,hc,rfl,hii,hm,f,NL,HDb⟩:=hrel;have hle:n<=(G ts):=f.o.st.le;by_cases hlc:c<R
  ·by_cases h0:c=0
   ·subst h0;have HL:=I (SK.o 1 n (d+1) e wr ae ae ae ae f.o.st);go_wp2_with (go_at_call 93;refine HL.o.m ?_;rintro r w2 (⟨Q,W,p,a,l,z,rfl,hp,hD,P,hi2,o,D7,hgo⟩|⟨Q,W,d2,er,kk2,n2,s2,a,l,z,rfl,Y,S,o,D7,hno⟩)<;>apply Hid.o)
    ·have h2:=f.o.call o P;obtain ⟨⟨k0,k1,k2,k3⟩,⟨f0,f1,f2,f3⟩,hsz⟩:=aX h2.sO;have A0:=I h2;have A1:=I P;have A2:=I o;have A3:=I hp;have A5:=I (show lQ len ts (sS R (d+1)) (kh R (0+1) (d+1)) i Q (m+W) from lQ.go (A:=[aH (lv 1) (d+1)]) Z9 hgo);have A7:=I (show mO ts i ((ks++[(p,a,l,z)]).map (·.1)) Q from by
      have h1:=HDb.o.1 trivial;have h2:=f.o.len;obtain rfl:ks=[]:=oD h2.symm;subst h1;exact mO.one Q p HT.o hD)
     have X:=I (show ∀ j u,([Value.int .i64 (p.k:Int),zG p.nm,zI p.n,.slice a l z])[j]?=some u->((w2.alloc (.cells #[zI p.k,zG p.nm,zI p.n,.slice a l z] 87)).alloc (.cells #[zI p.k,zG p.nm,zI p.n,.slice a l z] 87)).cell? ((⟨w2.heap.size+1,0,none⟩:zD).add j)=some u from by
      have:=World.news_of_block (cs:=#[zI p.k,zG p.nm,zI p.n,.slice a l z]) (t:=87) (fr:=(0,0)) (bL (w2.alloc (.cells #[zI p.k,zG p.nm,zI p.n,.slice a l z] 87)) (.cells #[zI p.k,zG p.nm,zI p.n,.slice a l z] 87));simpa using this)
     clear h2 P o hp hD hgo;apply I;go_wp2_with (at_builtin;refine rq _ rfl (.tmp 49) (.tmp 51) 85 rfl (w1.heap.size+1+1) 87 i0 (.agg #[zI 0,zG [],zI 0,zN]) 4 56 underlying85 Ud hz0 hz1 hz2 rfl ai (.slice U 0 C) 0 (ky ks) rfl ((A0.o.own.alloc _).alloc _) ⟨w2.heap.size+1,0,none⟩ 1 1 [zI p.k,zG p.nm,zI p.n,.slice a l z] rfl rfl X.o (by simp [Value.oneCell']) ae jM ae aN (w2.heap.size+1+1) aq ?_;intro g cap' w3 D y hat _;apply Hid.o);have Z:=(y.block (w1.heap.size+1) aN (λe=>aaj)).t ((tC w2 _ _ hsz).t A0.o.sO);obtain ⟨⟨_,_,_,q3⟩,⟨_,_,_,g3⟩,oU⟩:=aX Z;have A6:=I (f.o.app A2.o A1.o (p,a,l,z) A3.o (aY w2 _ _) y (by simpa using hat) D);clear Z D y hat k0 k1 k2 k3 f0 f1 f2 f3 X;apply I;go_wp2;go_roundw
     case rel=>exact ⟨0+1,Q,m+W,ks++[(p,a,l,z)],some ⟨g,0,none⟩,cap',ae,ez,ae,ae,A6,A5,λh=>ae,λ_=>A7.o⟩
     case measure=>simp [intOf];omega
    ·obtain ⟨⟨k0,k1,k2,k3⟩,⟨f0,f1,f2,f3⟩,hsz⟩:=aX (o.blk f.o.res ae);have A1:=I Y;have A2:=I (f.o.kp.t o);have A3:=I (show ic len ts (sS R (d+1)) i er (eF len ts Q) (m+W) from lQ.no (A:=[aH (lv 1) (d+1)]) (L:=kh R (0+1) (d+1)) Z9 hno);have A4:=I S;clear Y o hno S;apply I;go_wp2;refine aK (v:=.tuple #[.agg #[zI 0,zG [],zI 0,zN],.bool false]) Zt rfl ?_;have oO:=A2.o.dF w.heap.size (zI 0) (zG []) (zI 0) (zN) (aG _) hs;exact Or.inr ⟨Q,m+W,d2,er,0,0,[],none,0,0,rfl,(A1.o.ep w.heap.size _ _ _ _ hs).next (bZ _),A4.o,oO.next (bZ _) BU,ae,A3.o⟩
   ·have hc1:1<=c:=ae;have N:=f.o.st.rd.lt;have HST:=I (I9 R c (d+1) hc1 hlc);have hcb:(0:Int)<(c:Int):=ae;by_cases O:aw ts n=[44]
    ·have hi':n<(G ts):=uE ai O;have J:((aL len ts)[n]).1=11:=(AW.o.word N [44] 11 ai).2 O;have HP:=I (FI wr b bl cp _ n _ e 11 f.o.st.rd J zR);have SI:=I (show lQ len ts (sS R (d+1)) (aH 82 (d+1)::kh R (c+1) (d+1)) i (n+1) (m+1) from lQ.tok aa1 LY O);have HCM:=I O;clear O J;go_wp2_with (go_at_call 188;refine mo HP.o ?_;rintro r B ⟨rfl,s,k⟩);have V:=I (f.o.call k (f.o.st.down (d':=d+1) s k.bS));have HL:=I (SK.o 1 (n+1) (d+1) e B ae ae ae ae V.o.st);clear s k HP;apply I;go_wp2_with (go_at_call 93;refine HL.o.m ?_;rintro r w2 (⟨Q,W,p,a,l,z,rfl,hp,hD,P,hi2,o,D7,hgo⟩|⟨Q,W,d2,er,kk2,n2,s2,a,l,z,rfl,Y,S,o,D7,hno⟩)<;>apply Hid.o)
     ·have h2:=V.o.call o P;obtain ⟨⟨k0,k1,k2,k3⟩,⟨f0,f1,f2,f3⟩,hsz⟩:=aX h2.sO;have A0:=I h2;have A1:=I P;have A2:=I o;have A3:=I hp;have A5:=I (show lQ len ts (sS R (d+1)) (kh R (c+1) (d+1)) i Q ((m+1)+W) from lQ.go (A:=[aH (lv 1) (d+1)]) aaa hgo);have A7:=I (show mO ts i ((ks++[(p,a,l,z)]).map (·.1)) Q from by
       rw [fK];exact mO.snoc _ n Q p (HDb.o.2 ae) HCM.o hD)
      have X:=I (show ∀ j u,([Value.int .i64 (p.k:Int),zG p.nm,zI p.n,.slice a l z])[j]?=some u->((w2.alloc (.cells #[zI p.k,zG p.nm,zI p.n,.slice a l z] 87)).alloc (.cells #[zI p.k,zG p.nm,zI p.n,.slice a l z] 87)).cell? ((⟨w2.heap.size+1,0,none⟩:zD).add j)=some u from by
       have:=World.news_of_block (cs:=#[zI p.k,zG p.nm,zI p.n,.slice a l z]) (t:=87) (fr:=(0,0)) (bL (w2.alloc (.cells #[zI p.k,zG p.nm,zI p.n,.slice a l z] 87)) (.cells #[zI p.k,zG p.nm,zI p.n,.slice a l z] 87));simpa using this)
      clear h2 P o hp hD hgo;apply I;go_wp2_with (at_builtin;refine rq _ rfl (.tmp 49) (.tmp 51) 85 rfl (w1.heap.size+1+1) 87 i0 (.agg #[zI 0,zG [],zI 0,zN]) 4 56 underlying85 Ud hz0 hz1 hz2 rfl ai (.slice U c C) c (ky ks) rfl ((A0.o.own.alloc _).alloc _) ⟨w2.heap.size+1,0,none⟩ 1 1 [zI p.k,zG p.nm,zI p.n,.slice a l z] rfl rfl X.o (by simp [Value.oneCell']) ae jM ae aN (w2.heap.size+1+1) aq ?_;intro g cap' w3 D y hat _;apply Hid.o);have Z:=(y.block (w1.heap.size+1) aN (λe=>aaj)).t ((tC w2 _ _ hsz).t A0.o.sO);obtain ⟨⟨_,_,_,q3⟩,⟨_,_,_,g3⟩,oU⟩:=aX Z;have A6:=I (V.o.app A2.o A1.o (p,a,l,z) A3.o (aY w2 _ _) y (by simpa using hat) D);clear Z D y hat k0 k1 k2 k3 f0 f1 f2 f3 X;apply I;go_wp2;go_roundw
      case rel=>exact ⟨c+1,Q,(m+1)+W,ks++[(p,a,l,z)],some ⟨g,0,none⟩,cap',ae,ez,ae,ae,A6,A5,λh=>ae,λ_=>A7.o⟩
      case measure=>simp [intOf];omega
     ·obtain ⟨⟨k0,k1,k2,k3⟩,⟨f0,f1,f2,f3⟩,hsz⟩:=aX (o.blk V.o.res ae);have A1:=I Y;have A2:=I (V.o.kp.t o);have A3:=I (show ic len ts (sS R (d+1)) i er (eF len ts Q) ((m+1)+W) from lQ.no (A:=[aH (lv 1) (d+1)]) (L:=kh R (c+1) (d+1)) aaa hno);have A4:=I S;clear Y o hno S;apply I;go_wp2;refine aK (v:=.tuple #[.agg #[zI 0,zG [],zI 0,zN],.bool false]) Zt rfl ?_;have oO:=A2.o.dF w.heap.size (zI 0) (zG []) (zI 0) (zN) (aG _) hs;exact Or.inr ⟨Q,(m+1)+W,d2,er,0,0,[],none,0,0,rfl,(A1.o.ep w.heap.size _ _ _ _ hs).next (bZ _),A4.o,oO.next (bZ _) BU,ae,A3.o⟩
    ·have J:((aL len ts)[n]).1≠11:=λh=>O ((AW.o.word N [44] 11 ai).1 h);have HP:=I (LB wr b bl cp _ n _ e 11 f.o.st.rd J);have A3:=I (show ic len ts (sS R (d+1)) i 3 (eF len ts n) (m+1) from lQ.bad aa1 LY O);clear O J;go_wp2_with (go_at_call 188;refine mo HP.o ?_;rintro r B ⟨rfl,s,k⟩);obtain ⟨⟨k0,k1,k2,k3⟩,⟨f0,f1,f2,f3⟩,hsz⟩:=aX (k.blk f.o.res ae);have A1:=I s;have A2:=I (f.o.kp.t k);clear s k HP;apply I;go_wp2;refine aK (v:=.tuple #[.agg #[zI 0,zG [],zI 0,zN],.bool false]) ZQ rfl ?_;exact Or.inr ⟨n,m+1,_,3,0,0,[],none,0,0,rfl,A1.o.ep w.heap.size _ _ _ _ hs,ai,A2.o.dF w.heap.size _ _ _ _ (aG _) hs,ae,A3.o⟩
  ·obtain rfl:c=R:=ae;obtain ⟨_,c2,_,fz⟩:=f.o.st.rd.cell;have fz2:=fz 1;clear fz;obtain ⟨⟨k0,k1,k2,k3⟩,⟨f0,f1,f2,f3⟩,hsz⟩:=aX f.o.res;obtain ⟨⟨q0,q1,q2,q3⟩,_,JY⟩:=aX f.o.sO;have adA:((d+1:Nat):Int)=(d:Int)+1:=ae;rw [adA] at c2;clear adA;obtain ⟨hSd,hbd⟩:=f.o.st.Ay d;have HSD:=I hSd;have HBD:=I hbd;clear hSd hbd;have HPY:=I (λw4 (g:cX w4 b bl cp (aL len ts) n (d:Int) e) hk hi=>FI w4 b bl cp _ n _ e 10 g hk hi);have HPN:=I (λw4 (g:cX w4 b bl cp (aL len ts) n (d:Int) e) hk=>LB w4 b bl cp _ n _ e 10 g hk);have N:=f.o.st.rd.lt;have HTE:=I (show lQ len ts (sS c (d+1)) ([41]::[]) i n m by have:=NL.o;rw [LW c (d+1) hR1] at this;exact this);have HX:=I (show ∀ B,Kp b ((wr.setCell ⟨b,1,none⟩ (zI d)).drew) B->B.heap[w.heap.size]?=some (.cells #[zI 0,zG [],zI 0,zN] 87 (0,0))/\B.heap[w1.heap.size+1]?=some (.cells #[zI kd,zG [],zI 0,.slice U c C] 87 (0,0)) from λB h=>
    ⟨h.blk ((cY wr ⟨b,1,none⟩ (zI d) w.heap.size (by show w.heap.size≠b;omega)).t f.o.res) ae,h.blk ((cY wr ⟨b,1,none⟩ (zI d) (w1.heap.size+1) (by show w1.heap.size+1≠b;omega)).t f.o.sO) ae⟩)
   by_cases E:aw ts n=[41]
   ·have hi':n<(G ts):=uE ai E;have M:((aL len ts)[n]).1=10:=(AW.o.word N [41] 10 ai).2 E;have adB:=I M;have ann:=I (show n+1<(aL len ts).length from zR);have HG:=I (show kH len ts (sS c (d+1)) i (n+1) (m+1) from lQ.go1 (lQ.tok HTE.o LX E));have HCL:=I E;clear E M;have iL:=I (show ∀ B,cX B b bl cp (aL len ts) (n+1) (d:Int) e->Kp b ((wr.setCell ⟨b,1,none⟩ (zI d)).drew) B->∀ v0 v1 v2 v3,dQ len ts (sS c (d+1)) (VH ts i kd c) 14 b bl cp i d e w (.returned (.tuple #[.agg #[zI kd,zG [],zI 0,.slice U c C],.bool true])) ((((B.setCell ⟨w.heap.size,0,none⟩ v0).setCell ⟨w.heap.size,1,none⟩ v1).setCell ⟨w.heap.size,2,none⟩ v2).setCell ⟨w.heap.size,3,none⟩ v3) from λB s k v0 v1 v2 v3=>by
     have oO:Kp b wr B:=(Kp.drew HBD.o).t k;have hlen:=f.o.len;obtain ⟨p,e1,e2,e3,e4⟩:=mkP kd c HRR.o (ks.map (·.1)) (by rw [fy];omega);refine Or.inl ⟨n+1,m+1,p,U,c,C,by rw [e1,e2,e3];rfl,f.o.fin oO hR1 v0 v1 v2 v3 p e4,⟨ks.map (·.1),n,HDb.o.2 ae,by rw [fy];omega,HCL.o,rfl,e1,e2,e3,e4⟩,(f.o.st.down (d':=d) s oO.bS).ep w.heap.size _ _ _ _ hs,ae,(f.o.kp.t oO).dF w.heap.size _ _ _ _ (aG _) hs,ae,HG.o⟩)
    go_wp2_with fail
    go_region_with (first|(go_at_call 188;refine (HPY.o _ HSD.o.rd.drew adB.o ann.o).m ?_;rintro r B ⟨rfl,s,k⟩;obtain ⟨⟨y0,y1,y2,y3⟩,⟨z0,z1,z2,z3⟩,hsy⟩:=aX (HX.o _ k).1;obtain ⟨⟨x0,x1,x2,x3⟩,_,hsx⟩:=aX (HX.o _ k).2;have B1:=I s;have B2:=I k;clear s k))
    all_goals go_wp2
    all_goals refine aK (v:=.tuple #[.agg #[zI kd,zG [],zI 0,.slice U c C],.bool true]) ZR rfl ?_
    all_goals exact iL.o B B1.o B2.o _ _ _ _
   ·have M:((aL len ts)[n]).1≠10:=λh=>E ((AW.o.word N [41] 10 ai).1 h);have adB:=I M;have A3:=I (show ic len ts (sS c (d+1)) i 3 (eF len ts n) (m+1) from lQ.bad HTE.o LX E);clear E M;have iL:=I (show ∀ B,cX B b bl cp (aL len ts) n (d:Int) 3->Kp b ((wr.setCell ⟨b,1,none⟩ (zI d)).drew) B->∀ v0 v1 v2 v3,dQ len ts (sS c (d+1)) (VH ts i kd c) 14 b bl cp i d e w (.returned (.tuple #[.agg #[zI kd,zG [],zI 0,.slice U c C],.bool false])) ((((B.setCell ⟨w.heap.size,0,none⟩ v0).setCell ⟨w.heap.size,1,none⟩ v1).setCell ⟨w.heap.size,2,none⟩ v2).setCell ⟨w.heap.size,3,none⟩ v3) from λB s k v0 v1 v2 v3=>by
     have oO:Kp b wr B:=(Kp.drew HBD.o).t k;exact Or.inr ⟨n,m+1,d,3,kd,0,[],U,c,C,rfl,s.ep w.heap.size _ _ _ _ hs,ai,(f.o.kp.t oO).dF w.heap.size _ _ _ _ (aG _) hs,ae,A3.o⟩)
    go_wp2_with fail
    go_region_with (first|(go_at_call 188;refine (HPN.o _ HSD.o.rd.drew adB.o).m ?_;rintro r B ⟨rfl,s,k⟩;obtain ⟨⟨y0,y1,y2,y3⟩,⟨z0,z1,z2,z3⟩,hsy⟩:=aX (HX.o _ k).1;obtain ⟨⟨x0,x1,x2,x3⟩,_,hsx⟩:=aX (HX.o _ k).2;have B1:=I s;have B2:=I k;clear s k))
    all_goals go_wp2
    all_goals refine aK (v:=.tuple #[.agg #[zI kd,zG [],zI 0,.slice U c C],.bool false]) ZR rfl ?_
    all_goals exact iL.o B B1.o B2.o _ _ _ _
end
end
end
section
section
def Ja (t:By) (k d:Nat) (h:ij t k) (c:k=1\/k=2\/k=7\/k=8):ey t d=[t]:=by
 have a:t≠[]:=by
  rcases h with ⟨h,_⟩|⟨_,h,_⟩|⟨_,h⟩|h
  ·rintro rfl;cases h
  ·rintro rfl;cases h
  ·omega
  ·exact (show ∀ x,x∈eb->x.1≠[] from ai) _ h
 have b:(headD t||t=[116,114,117,101]||t=[102,97,108,115,101]||bm t)=true:=by
  rcases h with ⟨h,_⟩|⟨_,h,_⟩|⟨_,h⟩|h
  ·simp [h]
  ·simp [h]
  ·omega
  ·exact WH
 unfold ey;rw [aA a,aB b]
def LZ (t:By) (k d:Nat) (h:ij t k) (c:k≠1/\k≠2/\k≠7/\k≠8/\k≠3) (b:k≠9) (a:k≠13):ey t d=[iF]:=by
 rcases h with ⟨_,h⟩|⟨_,_,h⟩|⟨rfl,_⟩|h
 ·omega
 ·omega
 ·rfl
 ·exact WI
def L1 (d:Nat) (a:d<6):ey [40] d=sS 1 (d+1):=by
 show eT [40] 82 d++[[41]]=_;unfold eT;rw [aA ae];rfl
def Jb:ey [40] 6=[fj,[41]]:=ai
def VJ (d:Nat) (a:d<6):ey [105,102] d=[105,102]::sS 3 (d+1):=by
 unfold ey;rw [aA ai,aA ai,aA ai,aA ai,aA aN,aB rfl];rfl
def QX:ey [105,102] 6=[[105,102],jX]:=ai
section
variable {len:Nat} {ts:List (By × Nat)} {b bl cp:Nat}
def dQ.form {S:List By} {D:Nat->Pt->Prop} {c1 i d:Nat} {e:Int} {w:zW} {r:Ending} {w':zW} (h:dQ len ts S D c1 b bl cp i d e w r w'):∃ (z:Bool) (k n:Int) (s:By) (a:Option zD) (l c:Nat),r=.returned (.tuple #[.agg #[zI k,zG s,zI n,.slice a l c],.bool z]):=by
 rcases h with ⟨_,_,p,a,l,c,h,_⟩|⟨_,_,_,_,k,n,s,a,l,c,h,_⟩
 ·exact ⟨_,_,_,_,_,_,_,h⟩
 ·exact ⟨_,_,_,_,_,_,_,h⟩
def dQ.kp {S:List By} {D:Nat->Pt->Prop} {c1 i d:Nat} {e:Int} {w:zW} {r:Ending} {w':zW} (h:dQ len ts S D c1 b bl cp i d e w r w'):Kp b w w':=by
 rcases h with ⟨_,_,p,a,l,c,_,_,_,_,_,h,_⟩|⟨_,_,_,_,k,n,s,a,l,c,_,_,_,h,_⟩
 ·exact h
 ·exact h
def dQ.lift {S S':List By} {D F:Nat->Pt->Prop} {c1 j x i g d:Nat} {e:Int} {w W:zW} {r:Ending} {w2:zW} (h:dQ len ts S D c1 b bl cp i d e W r w2) (E:Kp b w W) (Q:w.heap.size<W.heap.size) (o:b<w.heap.size) (L:i<=G ts) (T:g<=i)
  (R:x+j<=c1+20*(i - g)) (M:∀ f p,D f p->F f p) (t:∀ f m,kH len ts S i f m->kH len ts S' g f (m+x)) (C:∀ er p m,ic len ts S i er p m->ic len ts S' g er p (m+x)) (v0 v1 v2 v3:zV) :
  dQ len ts S' F j b bl cp g d e w r ((((w2.setCell ⟨w.heap.size,0,none⟩ v0).setCell ⟨w.heap.size,1,none⟩ v1).setCell ⟨w.heap.size,2,none⟩ v2).setCell ⟨w.heap.size,3,none⟩ v3):=by
 rcases h with ⟨f,m,p,a,l,c,y,K,N,J,P,B,H,v⟩|⟨f,m,d',er,k,n,s,a,l,c,y,u,z,B,H,A⟩
 ·refine Or.inl ⟨f,m+x,p,a,l,c,y,(K.next λq O=>?_).wide λq O=>?_,M _ _ N,J.ep w.heap.size _ _ _ _ o,ae,(E.t B).dF w.heap.size _ _ _ _ (aG _) o,ae,t _ _ v⟩
  ·exact lx w2 w.heap.size v0 v1 v2 v3 ae
  ·rw [js];omega
 ·exact Or.inr ⟨f,m+x,d',er,k,n,s,a,l,c,y,u.ep w.heap.size _ _ _ _ o,z,(E.t B).dF w.heap.size _ _ _ _ (aG _) o,ae,C _ _ _ A⟩
def SG (g:fV ts) (F:Nat) (p:zv len ts b bl cp F) (kd R i d:Nat) (s:R=1\/(R=3/\kd=3)) (e:Int) (w:zW) (t:d<=6) (hF:10*(G ts - i)<F) (l:St len ts w b bl cp i d e) (S:List By)
  (m:d<6->aw ts i=[40]->S=sS R (d+1)) (n:d=6->aw ts i=[40]->ic len ts S i 4 (eF len ts i) 2) (q:aw ts i≠[40]->ic len ts S i 3 (eF len ts i) 2) :
  zC prog 159 #[zJ b,zI kd,zI R] w (dQ len ts S (VH ts i kd R) 14 b bl cp i d e w):=by
 have k:=l.rd.lt;by_cases a:aw ts i=[40]
 ·have c:=(g.word k [40] 9 ai).2 a;by_cases o:d=6
  ·subst o;refine (adz kd R i e w l.rd c).m ?_;rintro r w2 ⟨rfl,j,f⟩;exact Or.inr ⟨i,2,6,4,0,0,[],none,0,0,rfl,j,ai,f,ae,n rfl a⟩
  ·rw [m ae a];exact ajS g F p kd R i d s e w ae a hF l
 ·have c:((aL len ts)[i]).1≠9:=λh=>a ((g.word k [40] 9 ai).1 h);refine (ady kd R i d e w l.rd c).m ?_;rintro r w2 ⟨rfl,j,f⟩;exact Or.inr ⟨i,2,d,3,0,0,[],none,0,0,rfl,j,ai,f,ae,q a⟩
def Handed (len:Nat) (ts:List (By × Nat)) (S:List By) (D:Nat->Pt->Prop) (b bl cp i d:Nat) (e:Int) (w:zW) (r:Ending) (w':zW):Prop:=
 ∃ W w2 v0 v1 v2 v3,dQ len ts S D 14 b bl cp i d e W r w2/\Kp b w W/\w.heap.size<W.heap.size/\w'=((((w2.setCell ⟨w.heap.size,0,none⟩ v0).setCell ⟨w.heap.size,1,none⟩ v1).setCell ⟨w.heap.size,2,none⟩ v2).setCell ⟨w.heap.size,3,none⟩ v3)
def adC (k i:Nat) (d e:Int) (w:zW) (h:cX w b bl cp (aL len ts) i d e) (s:i+1<(aL len ts).length) (o:((aL len ts)[i]'h.lt).1=(k:Int)) (j:k=1\/k=2\/k=7\/k=8) :
  zC prog 129 #[zJ b] w λr w'=>r=.returned (.tuple #[.agg #[zI k,.string ⟨((aL len ts)[i]'h.lt).2.2.1.toArray⟩,zI (((aL len ts)[i]'h.lt).2.2.2:Int),zN],.bool true])/\cX w' b bl cp (aL len ts) (i+1) d e/\Kp b w w':=by
 have hs:=h.size;have a:=h.lt;have H:=I (λw1 (g:cX w1 b bl cp (aL len ts) i d e)=>ou w1 b bl cp _ i d e g);have p:=I (λw1 (g:cX w1 b bl cp (aL len ts) i d e)=>ye w1 b bl cp _ i d e g s);have l:=I h;have n:=I o;clear o;rcases j with rfl|rfl|rfl|rfl
 all_goals (go_in;go_wp2_with (first|(go_at_call 127;refine (H.o _ (l.o.next (bZ _))).m ?_;rw [n.o];rintro e w' ⟨rfl,rfl⟩)|(go_at_call 130;refine (p.o _ (l.o.next (bZ _))).m ?_;rw [n.o];rintro e w' ⟨rfl,m,c⟩;apply Hid.o));obtain ⟨⟨k0,k1,k2,k3⟩,⟨f0,f1,f2,f3⟩,hsz⟩:=aX (c.blk (q:=w.heap.size) (bL w _) ae);have f:=I c;have wK:=I m;clear m c;apply I;go_wp2)
 ·refine aK (v:=.tuple #[.agg #[zI 1,.string ⟨((aL len ts)[i]'a).2.2.1.toArray⟩,zI (((aL len ts)[i]'a).2.2.2:Int),zN],.bool true]) Rj rfl ?_;have oO:=((Kp.of (bZ _) hs).t f.o).dF w.heap.size (zI 1) (.string ⟨((aL len ts)[i]'a).2.2.1.toArray⟩) (zI (((aL len ts)[i]'a).2.2.2:Int)) (zN) (aG _) hs;exact Gk
 ·refine aK (v:=.tuple #[.agg #[zI 2,.string ⟨((aL len ts)[i]'a).2.2.1.toArray⟩,zI (((aL len ts)[i]'a).2.2.2:Int),zN],.bool true]) Rj rfl ?_;have oO:=((Kp.of (bZ _) hs).t f.o).dF w.heap.size (zI 2) (.string ⟨((aL len ts)[i]'a).2.2.1.toArray⟩) (zI (((aL len ts)[i]'a).2.2.2:Int)) (zN) (aG _) hs;exact Gk
 ·refine aK (v:=.tuple #[.agg #[zI 7,.string ⟨((aL len ts)[i]'a).2.2.1.toArray⟩,zI (((aL len ts)[i]'a).2.2.2:Int),zN],.bool true]) Rj rfl ?_;have oO:=((Kp.of (bZ _) hs).t f.o).dF w.heap.size (zI 7) (.string ⟨((aL len ts)[i]'a).2.2.1.toArray⟩) (zI (((aL len ts)[i]'a).2.2.2:Int)) (zN) (aG _) hs;exact Gk
 ·refine aK (v:=.tuple #[.agg #[zI 8,.string ⟨((aL len ts)[i]'a).2.2.1.toArray⟩,zI (((aL len ts)[i]'a).2.2.2:Int),zN],.bool true]) Rj rfl ?_;have oO:=((Kp.of (bZ _) hs).t f.o).dF w.heap.size (zI 8) (.string ⟨((aL len ts)[i]'a).2.2.1.toArray⟩) (zI (((aL len ts)[i]'a).2.2.2:Int)) (zN) (aG _) hs;exact Gk
def ajU (i d:Nat) (e:Int) (w:zW) (t:St len ts w b bl cp i d e) (K:i+1<(aL len ts).length) (B:((aL len ts)[i]'t.rd.lt).1=3) (S:List By) (D:Nat->Pt->Prop)
  (y:∀ w1,St len ts w1 b bl cp (i+1) d e->zC prog 159 #[zJ b,zI 3,zI 3] w1 (dQ len ts S D 14 b bl cp (i+1) d e w1)) :
  zC prog 129 #[zJ b] w (Handed len ts S D b bl cp (i+1) d e w):=by
 have hs:=t.rd.size;have H:=I (λw1 (g:cX w1 b bl cp (aL len ts) i (d:Int) e)=>ou w1 b bl cp _ i d e g);have J:=I (λw1 (g:cX w1 b bl cp (aL len ts) i (d:Int) e)=>ye w1 b bl cp _ i d e g K);have u:=I t;have G:=I B;have F:=I y;clear B y;go_in;go_wp2_with (first|(go_at_call 127;refine (H.o _ (u.o.rd.next (bZ _))).m ?_;rw [G.o];rintro e w' ⟨rfl,rfl⟩)|(go_at_call 130;refine mo (J.o _ (u.o.rd.next (bZ _))) ?_;rintro e w1 ⟨rfl,A,h⟩));have m:=h.blk (q:=w.heap.size) (bL w _) ae;have j:Kp b w w1:=(Kp.of (bZ _) hs).t h;have E:=I (F.o w1 (u.o.down (d':=d) A j.bS));have x:=I j;have o:=I m;clear A h j m;apply I;go_wp2_with (go_at_call 159;refine E.o.m ?_;intro r w2 f;obtain ⟨z,k,n,s,a,l,c,rfl⟩:=f.form;apply Hid.o);obtain ⟨⟨k0,k1,k2,k3⟩,⟨f0,f1,f2,f3⟩,C⟩:=aX (f.kp.blk o.o ae);have p:=I f;clear f;apply I;go_wp2;refine aK (v:=.tuple #[.agg #[zI k,zG s,zI n,.slice a l c],.bool z]) ZT rfl ?_;exact ⟨w1,w2,_,_,_,_,p.o,x.o,(cz.1 o.o).1,rfl⟩
def ajV (k i d:Nat) (e:Int) (w:zW) (m:St len ts w b bl cp i d e) (p:((aL len ts)[i]'m.rd.lt).1=(k:Int)) (j:k≠1/\k≠2/\k≠7/\k≠8/\k≠3) (S:List By) (D:Nat->Pt->Prop)
  (q:∀ w1,St len ts w1 b bl cp i d e->zC prog 159 #[zJ b,zI 9,zI 1] w1 (dQ len ts S D 14 b bl cp i d e w1)) :
  zC prog 129 #[zJ b] w (Handed len ts S D b bl cp i d e w):=by
 have hs:=m.rd.size;have H:=I (λw1 (g:cX w1 b bl cp (aL len ts) i (d:Int) e)=>ou w1 b bl cp _ i d e g);have o:=I m;have E:=I p;have B:=I q;obtain ⟨y,u,x,A,C⟩:=j;have J:((k:Int) == 1)=false:=bo.2 ae;have F:((k:Int) == 2)=false:=bo.2 ae;have L:((k:Int) == 7)=false:=bo.2 ae;have K:((k:Int) == 8)=false:=bo.2 ae;have G:((k:Int) == 3)=false:=bo.2 ae;clear p q y u x A C;go_in;go_wp2_with (first|(go_at_call 127;refine (H.o _ (o.o.rd.next (bZ _))).m ?_;rw [E.o];rintro e w' ⟨rfl,rfl⟩)|(go_at_call 159;refine (B.o _ (o.o.next (bZ _))).m ?_;intro r w2 f;obtain ⟨z,k,n,s,a,l,c,rfl⟩:=f.form;apply Hid.o));obtain ⟨⟨k0,k1,k2,k3⟩,⟨f0,f1,f2,f3⟩,t⟩:=aX (f.kp.blk (bL w _) ae);have h:=I f;clear f;apply I;go_wp2;refine aK (v:=.tuple #[.agg #[zI k,zG s,zI n,.slice a l c],.bool z]) ZT rfl ?_;exact ⟨_,w2,_,_,_,_,h.o,Kp.of (bZ _) hs,aq,rfl⟩
def agi (o:fV ts) (F:Nat) (IH:zv len ts b bl cp F) (i d:Nat) (e:Int) (w:zW) (hd:d<=6) (hm:aw ts i≠[45]) (hF:10*(G ts - i)<F) (y:St len ts w b bl cp i d e) :
  zC prog 129 #[zJ b] w (dQ len ts [aH 65 d] (λD p=>bh ts 6 i D p) 12 b bl cp i d e w):=by
 have E:=y.rd.lt;have g:ku 65 d (aw ts i)=ey (aw ts i) d:=rfl;obtain ⟨k,s,v,acF,R⟩:=o.cls E;have hle:=y.le;have hs:=y.rd.size;by_cases H:k=1\/k=2\/k=7\/k=8
 ·have M:i<(G ts):=by
   rcases cC i (G ts) with h|h
   ·exact h
   ·have:=R.2 ae;omega
  have hpt:=qY E M;refine (adC k i d e w y.rd zR v H).m ?_;rintro r w' ⟨rfl,hr,hb⟩;refine Or.inl ⟨i+1,2,.atom k (ej (aw ts i)) (fw (aw ts i)),none,0,0,by rw [hpt];rfl,dR.leaf _ rfl,bh.atom i k M s H,y.down (d':=d) hr hb.bS,ae,hb,ae,?_⟩;refine kH.sym ae ?_;rw [g,Ja _ k d s H];exact kH.tok (o.tk M) rfl (kH.nil _)
 ·by_cases T:k=3
  ·subst T;have B:aw ts i=[105,102]:=(cQ [105,102] 3 ai _ 3 s).1 rfl;have M:i<(G ts):=uE ai B;have C:Tk [105,102]:=⟨105,_,rfl,ai,ai⟩;refine (ajU i d e w y zR v (if d<6 then sS 3 (d+1) else [jX]) (VH ts (i+1) 3 3) ?_).m ?_
   ·intro w1 A;refine SG o F IH 3 3 (i+1) d (Or.inr ⟨rfl,rfl⟩) e w1 hd ae A _ (λn _=>by rw [aB n]) (λn f=>?_) (λf=>?_)
    ·rw [aA ae];exact ic.opens f
    ·by_cases n:d<6
     ·rw [aB n];intro K q;have:=ic.bad (len:=len) (S:=kh 3 0 (d+1)) SF f K (q+1);rw [show 2+q=1+(q+1) from ae];exact this
     ·rw [aA n];exact ic.Vm f (o.LC _)
   ·rintro r w' ⟨W,w2,v0,v1,v2,v3,z,O,V,rfl⟩;have J:ey [105,102] d=[105,102]::(if d<6 then sS 3 (d+1) else [jX]):=by
     by_cases n:d<6
     ·rw [aB n,VJ d n]
     ·obtain rfl:d=6:=ae;rw [aA n,QX]
    refine z.lift (x:=2) O V hs ae ae ae (λD p Q=>?_) (λD m h=>?_) (λer p m h=>?_) v0 v1 v2 v3
    ·obtain ⟨l,j,U,N,X,rfl,e1,e2,e3,t⟩:=Q;obtain ⟨a,b',c,j1,j2,rfl,Y,P,T,H,L,n⟩:=U.ane N;cases p with
     | atom=>simp [Pt.kids] at t
     | un=>simp [Pt.kids] at t
     | bin=>simp [Pt.kids] at t
     | ifs a' b'' c'=>
      simp only [Pt.kids,List.cons.injEq,and_true] at t;obtain ⟨rfl,rfl,rfl⟩:=t;exact bh.ifs i j1 j2 j _ _ _ B Y P T H L n X
    ·refine kH.sym ae ?_;rw [g,B,J,iq];exact kH.tok C B h
    ·refine ic.sym ae ?_;rw [g,B,J,iq];exact ic.tok C B h
  ·have L:k≠1/\k≠2/\k≠7/\k≠8/\k≠3:=ae;have Z:k≠13:=by
    rintro rfl;exact hm ((cQ [45] 13 ai _ 13 s).1 rfl)
   have u:aw ts i≠[40]->ey (aw ts i) d=[iF]:=λf=>LZ _ k d s L (λh=>f ((cQ [40] 9 ai _ k s).1 h)) Z;refine (ajV k i d e w y v L (ey (aw ts i) d) (VH ts i 9 1) ?_).m ?_
   ·intro w1 A;refine SG o F IH 9 1 i d (Or.inl rfl) e w1 hd hF A _ (λn f=>by rw [f,L1 d n]) (λn f=>?_) (λf=>?_)
    ·subst n;rw [f,Jb];intro K q;have:=ic.deep (len:=len) (ts:=ts) (S:=[[41]]) (i:=i) K (q+1);rw [show 2+q=1+(q+1) from ae];exact this
    ·rw [u f];intro K q;have:=ic.bad (len:=len) (ts:=ts) (S:=[]) (i:=i) Ss (o.LC _) K (q+1);rw [show 2+q=1+(q+1) from ae];exact this
   ·rintro r w' ⟨W,w2,v0,v1,v2,v3,z,O,V,rfl⟩;refine z.lift (x:=1) O V hs ae ae ae (λD p Q=>?_) (λD m h=>?_) (λer p m h=>?_) v0 v1 v2 v3
    ·obtain ⟨l,j,U,N,X,rfl,e1,e2,e3,t⟩:=Q;obtain ⟨a,rfl,Y,P⟩:=U.inv1 N;cases p with
     | atom=>simp [Pt.kids] at t
     | un k' a'=>
      simp only [Pt.kids,List.cons.injEq,and_true] at t;subst t;have e1':k'=9:=e1;subst e1';exact bh.br i j _ Y P X
     | bin=>simp [Pt.kids] at t
     | ifs=>simp [Pt.kids] at t
    ·refine kH.sym ae ?_;rw [g,iq];exact h
    ·refine ic.sym ae ?_;rw [g,iq];exact h
end
end
end
section
section
def Env.DU {w:zW} (h:Env w) (k:Nat) (a:k<20):w.cell? ⟨2,k,none⟩=some (zI (kY.getD k 0)):=by
 obtain ⟨t,fr,c⟩:=h.ahead;rw [bq w 2 k _ _ _ c];have b:k<(G kY):=a;simp [IC,lC,b]
def Env.agj {w:zW} (h:Env w) (k:Nat) (a:k<20):w.cell? ⟨3,k,none⟩=some (zI (uv.getD k 0)):=by
 obtain ⟨t,fr,c⟩:=h.ag2;rw [bq w 3 k _ _ _ c];have b:k<(G uv):=a;simp [Qf,lC,b]
section
variable {len:Nat} {ts:List (By × Nat)} {b bl cp:Nat}
def VK (k n i d:Nat) (e:Int) (w:zW) (j:St len ts w b bl cp i d e) (m:k<20) (y:((aL len ts)[i]'j.rd.lt).1=(k:Int)) (A:kY.getD k 0=(n:Int)) (S:List By) (D:Nat->Pt->Prop) (c1:Nat)
  (q:∀ w1,St len ts w1 b bl cp i d e->zC prog 128 #[zJ b,zI n] w1 (dQ len ts S D c1 b bl cp i d e w1)) :
  zC prog 93 #[zJ b,zI n] w (dQ len ts S D c1 b bl cp i d e w):=by
 have hs:=j.rd.size;have p:=j.le;have H:=I (λw1 (g:cX w1 b bl cp (aL len ts) i (d:Int) e)=>ou w1 b bl cp _ i d e g);have u:=I j;have K:=I y;have G:=I q;have F:(0:Int)<=(k:Int):=ae;have J:(k:Int)<20:=ae;have t:=j.env.DU k m;rw [A] at t;have B:=gI w _ t;have E:((n:Int) == (n:Int))=true:=aq;clear y q A;go_in;go_wp2_with (first|(go_at_call 127;refine (H.o _ (u.o.rd.next (bZ _))).m ?_;rw [K.o];rintro e w' ⟨rfl,rfl⟩)|(go_at_call 128;refine (G.o _ (u.o.next (bZ _))).m ?_;intro r w2 f;obtain ⟨z,k,n,s,a,l,c,rfl⟩:=f.form;apply Hid.o));obtain ⟨⟨k0,k1,k2,k3⟩,⟨f0,f1,f2,f3⟩,C⟩:=aX (f.kp.blk (bL w _) ae);have o:=I f;clear f;apply I;go_wp2;refine aK (v:=.tuple #[.agg #[zI k,zG s,zI n,.slice a l c],.bool z]) JC rfl ?_;exact o.o.lift (x:=0) (Kp.of (bZ _) hs) aq hs p (aG _) ae (λ_ _ h=>h) (λ_ _ h=>h) (λ_ _ _ h=>h) _ _ _ _
def adD (k i d:Nat) (e:Int) (w:zW) (j:St len ts w b bl cp i d e) (m:k<20) (u:((aL len ts)[i]'j.rd.lt).1=(k:Int)) (y:kY.getD k 0≠6) (S:List By) (D:Nat->Pt->Prop) (c1:Nat)
  (q:∀ w1,St len ts w1 b bl cp i d e->zC prog 129 #[zJ b] w1 (dQ len ts S D c1 b bl cp i d e w1)) :
  zC prog 93 #[zJ b,zI 6] w (dQ len ts S D c1 b bl cp i d e w):=by
 have hs:=j.rd.size;have p:=j.le;have H:=I (λw1 (g:cX w1 b bl cp (aL len ts) i (d:Int) e)=>ou w1 b bl cp _ i d e g);have t:=I j;have L:=I u;have G:=I q;have F:(0:Int)<=(k:Int):=ae;have K:(k:Int)<20:=ae;have E:=j.env.DU k m;have A:=gI w _ E;generalize kY.getD k 0=J at *;have C:(J == 6)=false:=bo.2 y;clear u q y;go_in;go_wp2_with (first|(go_at_call 127;refine (H.o _ (t.o.rd.next (bZ _))).m ?_;rw [L.o];rintro e w' ⟨rfl,rfl⟩)|(go_at_call 129;refine (G.o _ (t.o.next (bZ _))).m ?_;intro r w2 f;obtain ⟨z,k,n,s,a,l,c,rfl⟩:=f.form;apply Hid.o));obtain ⟨⟨k0,k1,k2,k3⟩,⟨f0,f1,f2,f3⟩,B⟩:=aX (f.kp.blk (bL w _) ae);have o:=I f;clear f;apply I;go_wp2;refine aK (v:=.tuple #[.agg #[zI k,zG s,zI n,.slice a l c],.bool z]) JC rfl ?_;exact o.o.lift (x:=0) (Kp.of (bZ _) hs) aq hs p (aG _) ae (λ_ _ h=>h) (λ_ _ h=>h) (λ_ _ _ h=>h) _ _ _ _
structure Jc (len:Nat) (ts:List (By × Nat)) (b bl cp:Nat) (w:zW) (gW d:Nat) (e:Int) (wr:zW) (i':Nat) (p:Pt) (a:Option zD) (l c:Nat):Prop where
 st:St len ts wr b bl cp i' d e
 kp:Kp b w wr
 res:wr.heap[w.heap.size]?=some (.cells #[zI 0,zG [],zI 0,zN] 87 (0,0))
 sO:wr.heap[gW]?=some (.cells #[zI p.k,zG p.nm,zI p.n,.slice a l c] 87 (0,0))
 kid:dR wr (λq=>w.heap.size<q/\q<wr.heap.size/\q≠gW) p a l c
 gw:w.heap.size<gW
 bw:b<w.heap.size
structure VL (len:Nat) (ts:List (By × Nat)) (S:List By) (c1:Nat) (b bl cp:Nat) (w:zW) (gW i:Nat) (wr:zW) (k n:Int) (s:By) (a:Option zD) (l c:Nat):Prop where
 rd:∃ (i' m:Nat) (d' er:Int),cX wr b bl cp (aL len ts) i' d' er/\er≠0/\m+c1<=20*(G ts - i)+20/\ic len ts S i er (eF len ts i') m
 kp:Kp b w wr
 res:wr.heap[w.heap.size]?=some (.cells #[zI 0,zG [],zI 0,zN] 87 (0,0))
 sO:wr.heap[gW]?=some (.cells #[zI k,zG s,zI n,.slice a l c] 87 (0,0))
 bw:b<w.heap.size
def VL.post {S:List By} {D:Nat->Pt->Prop} {c1 q i d:Nat} {e:Int} {w wr:zW} {k n:Int} {s:By} {a:Option zD} {l c:Nat} (h:VL len ts S c1 b bl cp w q i wr k n s a l c) (v0 v1 v2 v3:zV) :
  dQ len ts S D c1 b bl cp i d e w (.returned (.tuple #[.agg #[zI k,zG s,zI n,.slice a l c],.bool false])) ((((wr.setCell ⟨w.heap.size,0,none⟩ v0).setCell ⟨w.heap.size,1,none⟩ v1).setCell ⟨w.heap.size,2,none⟩ v2).setCell ⟨w.heap.size,3,none⟩ v3):=by
 obtain ⟨p,m,d',er,j,f,o,g⟩:=h.rd;exact Or.inr ⟨p,m,d',er,k,n,s,a,l,c,rfl,j.ep w.heap.size _ _ _ _ h.bw,f,h.kp.dF w.heap.size _ _ _ _ (aG _) h.bw,o,g⟩
def Jc.post {S:List By} {D:Nat->Pt->Prop} {c1 o i d m:Nat} {e:Int} {w wr:zW} {f:Nat} {p:Pt} {a:Option zD} {l c:Nat} (h:Jc len ts b bl cp w o d e wr f p a l c) (g:D f p) (r:i<f) (j:m+c1<=20*(f - i)) (k:kH len ts S i f m) (v0 v1 v2 v3:zV) :
  dQ len ts S D c1 b bl cp i d e w (.returned (.tuple #[.agg #[zI p.k,zG p.nm,zI p.n,.slice a l c],.bool true])) ((((wr.setCell ⟨w.heap.size,0,none⟩ v0).setCell ⟨w.heap.size,1,none⟩ v1).setCell ⟨w.heap.size,2,none⟩ v2).setCell ⟨w.heap.size,3,none⟩ v3):=by
 refine Or.inl ⟨f,m,p,a,l,c,rfl,(h.kid.next λq n=>lx wr w.heap.size v0 v1 v2 v3 ae).wide λq n=>?_,g,h.st.ep w.heap.size _ _ _ _ h.bw,r,h.kp.dF w.heap.size _ _ _ _ (aG _) h.bw,j,k⟩;rw [js];omega
def DV (Y:zW) (o:Obj) (g:Nat) (hg:g<Y.heap.size) (v0 v1 v2 v3:zV):(((((Y.alloc o).setCell ⟨g,0,none⟩ v0).setCell ⟨g,1,none⟩ v1).setCell ⟨g,2,none⟩ v2).setCell ⟨g,3,none⟩ v3)=(((((Y.setCell ⟨g,0,none⟩ v0).setCell ⟨g,1,none⟩ v1).setCell ⟨g,2,none⟩ v2).setCell ⟨g,3,none⟩ v3).alloc o):=by
 rw [World.setCell_alloc_past _ _ _ _ hg,World.setCell_alloc_past _ _ _ _ tH,World.setCell_alloc_past _ _ _ _ tH,World.setCell_alloc_past _ _ _ _ tH]
def S0 {w:zW} {g:Nat} {u0 u1 u2 u3:zV} {a:TypeId} (h:w.heap[g]?=some (.cells #[u0,u1,u2,u3] a (0,0))) (v0 v1 v2 v3:zV):((((w.setCell ⟨g,0,none⟩ v0).setCell ⟨g,1,none⟩ v1).setCell ⟨g,2,none⟩ v2).setCell ⟨g,3,none⟩ v3).heap[g]?=some (.cells #[v0,v1,v2,v3] a (0,0)):=by
 rw [aj (aj (aj (aj h 0 v0) 1 v1) 2 v2) 3 v3];rfl
def Jc.more {f d:Nat} {e:Int} {w wr:zW} {K:Nat} {p:Pt} {a:Option zD} {l c:Nat} (h:Jc len ts b bl cp w f d e wr K p a l c) {w2 w3:zW} (r:Kp b wr w2) {F B:Obj} (s:Kp b ((w2.alloc F).alloc B) w3) {E:Nat} (x:St len ts w3 b bl cp E d e) {g:Pt} {v:Option zD} {o c3:Nat}
  (z:dR w3 (λq=>((w2.alloc F).alloc B).heap.size<=q/\q<w3.heap.size) g v o c3) (m:Nat) (u0 u1 u2 u3:zV) :
  Jc len ts b bl cp w f d e ((((((((((w3.setCell ⟨w2.heap.size+1,0,none⟩ u0).setCell ⟨w2.heap.size+1,1,none⟩ u1).setCell ⟨w2.heap.size+1,2,none⟩ u2).setCell ⟨w2.heap.size+1,3,none⟩ u3).setCell ⟨f,0,none⟩ (zI m)).setCell ⟨f,1,none⟩ (zG [])).setCell ⟨f,2,none⟩ (zI 0)).setCell ⟨f,3,none⟩ (zS w3.heap.size 2 2)).alloc (.cells #[zI p.k,zG p.nm,zI p.n,.slice a l c,zI g.k,zG g.nm,zI g.n,.slice v o c3] 87))) E (.bin m p g) (some ⟨w3.heap.size,0,none⟩) 2 2:=by
 have M:=h.gw;have C:=h.bw;have D:=r.size;have u:=s.size;simp at u;have A:f<wr.heap.size:=(cz.1 h.sO).1;have G:w.heap.size<=wr.heap.size:=h.kp.size;have B9:Kp b wr w3:=(r.next (aY _ _ _) (by have:=h.st.rd.size;omega)).t s;have y:=((h.kp.t B9).dF (w2.heap.size+1) u0 u1 u2 u3 ae C).dF f (zI m) (zG []) (zI 0) (zS w3.heap.size 2 2) ae C;have i:∀ q,q<w3.heap.size->q≠w2.heap.size+1->q≠f->((((((((((w3.setCell ⟨w2.heap.size+1,0,none⟩ u0).setCell ⟨w2.heap.size+1,1,none⟩ u1).setCell ⟨w2.heap.size+1,2,none⟩ u2).setCell ⟨w2.heap.size+1,3,none⟩ u3).setCell ⟨f,0,none⟩ (zI m)).setCell ⟨f,1,none⟩ (zG [])).setCell ⟨f,2,none⟩ (zI 0)).setCell ⟨f,3,none⟩ (zS w3.heap.size 2 2)).alloc (.cells #[zI p.k,zG p.nm,zI p.n,.slice a l c,zI g.k,zG g.nm,zI g.n,.slice v o c3] 87))).heap[q]?=w3.heap[q]?:=λq H J L=>by
  rw [cj _ _ _ (by rw [js,js];exact H),lx _ _ _ _ _ _ L,lx _ _ _ _ _ _ J]
 have k:((((((((((w3.setCell ⟨w2.heap.size+1,0,none⟩ u0).setCell ⟨w2.heap.size+1,1,none⟩ u1).setCell ⟨w2.heap.size+1,2,none⟩ u2).setCell ⟨w2.heap.size+1,3,none⟩ u3).setCell ⟨f,0,none⟩ (zI m)).setCell ⟨f,1,none⟩ (zG [])).setCell ⟨f,2,none⟩ (zI 0)).setCell ⟨f,3,none⟩ (zS w3.heap.size 2 2)).alloc (.cells #[zI p.k,zG p.nm,zI p.n,.slice a l c,zI g.k,zG g.nm,zI g.n,.slice v o c3] 87))).heap.size=w3.heap.size+1:=by
  simp
 have hbs:b<w3.heap.size:=x.rd.size;refine ⟨((x.ep (w2.heap.size+1) _ _ _ _ ae).ep f _ _ _ _ ae).next (bZ _),y.next (bZ _) aa0,?_,?_,?_,h.gw,h.bw⟩
 ·rw [i _ ae ae ae];exact B9.blk h.res ae
 ·exact XH
 ·refine dR.bin m ((h.kid.next λq j=>?_).wide λq j=>?_) ((z.next λq j=>?_).wide λq j=>?_) ?_ (t:=87) (fr:=(0,0)) ?_ 2
  ·rw [i q ae ae j.2.2];exact B9.heap ae j.2.1
  ·rw [k];omega
  ·have n:=j.1;simp at n;exact i q j.2 ae ae
  ·have n:=j.1;simp at n;rw [k];omega
  ·rw [k];omega
  ·have:=bL (((((((((w3.setCell ⟨w2.heap.size+1,0,none⟩ u0).setCell ⟨w2.heap.size+1,1,none⟩ u1).setCell ⟨w2.heap.size+1,2,none⟩ u2).setCell ⟨w2.heap.size+1,3,none⟩ u3).setCell ⟨f,0,none⟩ (zI m)).setCell ⟨f,1,none⟩ (zG [])).setCell ⟨f,2,none⟩ (zI 0)).setCell ⟨f,3,none⟩ (zS w3.heap.size 2 2))) (.cells #[zI p.k,zG p.nm,zI p.n,.slice a l c,zI g.k,zG g.nm,zI g.n,.slice v o c3] 87);rw [js,js] at this;exact this
def Jc.fail {f d:Nat} {e:Int} {w wr:zW} {i D:Nat} {p:Pt} {a:Option zD} {l c:Nat} (h:Jc len ts b bl cp w f d e wr D p a l c) {w2 w3:zW} (g:Kp b wr w2) {C A:Obj} (j:Kp b ((w2.alloc C).alloc A) w3) {S:List By} {c1 s m:Nat} {d3 er:Int} (y:cX w3 b bl cp (aL len ts) s d3 er) (r:er≠0) (z:m+c1<=20*(G ts - i)+20) (t:ic len ts S i er (eF len ts s) m) (q:Nat) (u0 u1 u2 u3:zV) (o:Obj) :
  VL len ts S c1 b bl cp w f i ((((((((((w3.setCell ⟨w2.heap.size+1,0,none⟩ u0).setCell ⟨w2.heap.size+1,1,none⟩ u1).setCell ⟨w2.heap.size+1,2,none⟩ u2).setCell ⟨w2.heap.size+1,3,none⟩ u3).setCell ⟨f,0,none⟩ (zI q)).setCell ⟨f,1,none⟩ (zG [])).setCell ⟨f,2,none⟩ (zI 0)).setCell ⟨f,3,none⟩ (zS w3.heap.size 2 2)).alloc o)) (q:Int) 0 [] (some ⟨w3.heap.size,0,none⟩) 2 2:=by
 have E:=h.gw;have v:=h.bw;have x:=g.size;have k:=j.size;simp at k;have u:f<wr.heap.size:=(cz.1 h.sO).1;have B:w.heap.size<=wr.heap.size:=h.kp.size;have B9:Kp b wr w3:=(g.next (aY _ _ _) (by have:=h.st.rd.size;omega)).t j;have n:=((h.kp.t B9).dF (w2.heap.size+1) u0 u1 u2 u3 ae v).dF f (zI q) (zG []) (zI 0) (zS w3.heap.size 2 2) ae v;have hbs:b<w3.heap.size:=y.size;refine ⟨⟨s,m,d3,er,((y.ep (w2.heap.size+1) _ _ _ _ ae).ep f _ _ _ _ ae).next (bZ _),r,z,t⟩,n.next (bZ _) aa0,?_,?_,h.bw⟩
 ·rw [cj _ _ _ XI,lx _ _ _ _ _ _ ae,lx _ _ _ _ _ _ ae];exact B9.blk h.res ae
 ·exact XH
end
end
end
def aR (x y:By):Pt->Pt
 | .atom k nm n=>.atom k (if k=2/\nm=x then y else nm) n
 | .un k a=>.un k (aR x y a)
 | .bin k a b=>.bin k (aR x y a) (aR x y b)
 | .ifs a b c=>.ifs (aR x y a) (aR x y b) (aR x y c)
def ur (ks:List KR):(ky ks).length=G ks*4:=by
 induction ks with
 | nil=>rfl
 | cons t ks a=>simp [ky] at *;omega
def acB (ks:List KR):∀ u,u∈ky ks->u.oneCell'=true:=by
 intro u b;simp only [ky,List.mem_flatMap] at b;obtain ⟨x,_,a⟩:=b;simp only [bQ,jA,iK] at a;rcases a with rfl|rfl|rfl|rfl<;>rfl
def acC (w:zW) (a:Option zD) (n c b d:Nat):(binOp .eql 85 (.slice a n c) (.slice none b d)).run prog w=.ok (.bool a.isNone) w:=
 Lib.run_eql_slice_nil w _ _ a n c b d underlying85
def UK (w:zW):zC prog 248 #[zN] w λe w'=>e=.returned (zN)/\w'=w:=by
 have a:=acC;go_in;go_wp2;go_ret;exact ⟨rfl,rfl⟩
def La (ks:List KR) (g c:Nat) (w:zW) (x:1<=G ks) (y:(G ks)<=3) (p:∀ j u,(ky ks)[j]?=some u->w.cell? ⟨g,j,none⟩=some u) :
  zC prog 248 #[zS g (G ks) c] w λe w'=>∃ h b,e=.returned (zS h (G ks) b)/\w'.ownsRow w.heap.size 87 4 (zS h (G ks) b) (G ks) (ky ks)/\zB w w':=by
 obtain ⟨r,l,i,n,m⟩:=fe Fu;have v:=acC;have q:=I p;have u22:∀ w,Sem.run prog (underlying 85) w=.ok (TypeDesc.slice 87) w:=run_underlying underlying85;clear p;go_in;go_wp2_with (at_builtin;refine km _ rfl _ _ 85 rfl w.heap.size 87 r (.agg #[zI 0,zG [],zI 0,zN]) 4 56 underlying85 l i n m rfl ai _ _ _ rfl (World.ownsRow_made w #[] 0 (aG _) (bE _) aq) ⟨g,0,none⟩ (G ks) c (ky ks) rfl ?qc1 ?qc2 ?qc3 ?qc4 ?qc5 ?qc6 ?_)
 case qc1=>exact ur ks
 case qc2=>
  intro j u s;rw [Addr.add_lit,cS];exact Lib.cell?_alloc_some _ (q.o j u s)
 case qc3=>exact acB ks
 case qc4=>unfold maxLen;omega
 case qc5=>omega
 case qc6=>simp
 intro v' w1 f d o;have a:w1.ownsRow w.heap.size 87 4 v' (G ks) (ky ks):=by simpa using f
 obtain ⟨h,b,rfl,_,_⟩:=a.form ae;go_wp2;go_ret;exact ⟨h,b,rfl,a,((aM _ w).alloc (aG _) _).grown d aq (by intro k t;simp [Value.ownBlock] at t;omega)⟩
def Ar (a b:List KR):ky (a++b)=ky a++ky b:=Hb
def Fv (x:KR) (b:List KR):ky (x::b)=zI (x.1.k:Int)::.string ⟨x.1.nm.toArray⟩::zI (x.1.n:Int)::.slice x.2.1 x.2.2.1 x.2.2.2::ky b:=Hb
def UL (a b:List KR) (x y:KR):((((ky (a++x::b)).set (G a*4) (zI (y.1.k:Int))).set (G a*4+1) (.string ⟨y.1.nm.toArray⟩)).set (G a*4+2) (zI (y.1.n:Int))).set (G a*4+3) (.slice y.2.1 y.2.2.1 y.2.2.2)=ky (a++y::b):=by
 have c:=ur a;rw [Ar,Ar,Fv,Fv];rw [yl _ _ ae,yl _ _ ae,yl _ _ ae,yl _ _ ae,c];simp
structure UM (x y:By) (k n:Int) (nm:By) (w wr:zW) (g cap:Nat) (ks ns:List KR):Prop where
 bS:zB w wr
 p:wr.heap[w.heap.size]?=some (.cells #[zI k,zG nm,zI n,zS g (G ks) cap] 87 (0,0))
 R:wr.heap[w.heap.size+1]?=some (.cells #[zI 0,zG [],zI 0,zN] 87 (0,0))
 own:wr.ownsRow (w.heap.size+1+1) 87 4 (zS g (G ks) cap) (G ks) (ky (ns++ks.drop (G ns)))
 le:(G ns)<=G ks
 kid:∀ i (h:i<G ns),ns[i].1=aR x y (ks[i]'ae).1/\dR wr (λq=>w.heap.size+1<q/\q<wr.heap.size/\q≠g) ns[i].1 ns[i].2.1 ns[i].2.2.1 ns[i].2.2.2
def UM.step {x y:By} {k n:Int} {nm:By} {w wr:zW} {g e:Nat} {ks a:List KR} (h:UM x y k n nm w wr g e ks a) {W w2:zW} (f:zB wr W) (u:zB W w2) (z:KR) (t:(G a)<G ks) (D:z.1=aR x y (ks[G a]).1) (o:dR w2 (λq=>W.heap.size<=q/\q<w2.heap.size) z.1 z.2.1 z.2.2.1 z.2.2.2) :
  UM x y k n nm w ((((w2.setCell ⟨g,G a*4,none⟩ (zI (z.1.k:Int))).setCell ⟨g,G a*4+1,none⟩ (.string ⟨z.1.nm.toArray⟩)).setCell ⟨g,G a*4+2,none⟩ (zI (z.1.n:Int))).setCell ⟨g,G a*4+3,none⟩ (.slice z.2.1 z.2.2.1 z.2.2.2)) g e ks (a++[z]):=by
 obtain ⟨A,s⟩:=h.own.lt g rfl;have c:zB wr w2:=f.t (u.m f.size);have hs:=c.size;have r:=f.size;have b:∀ q,q≠g->((((w2.setCell ⟨g,G a*4,none⟩ (zI (z.1.k:Int))).setCell ⟨g,G a*4+1,none⟩ (.string ⟨z.1.nm.toArray⟩)).setCell ⟨g,G a*4+2,none⟩ (zI (z.1.n:Int))).setCell ⟨g,G a*4+3,none⟩ (.slice z.2.1 z.2.2.1 z.2.2.2)).heap[q]?=w2.heap[q]?:=λq hq=>Xt;have d:((((w2.setCell ⟨g,G a*4,none⟩ (zI (z.1.k:Int))).setCell ⟨g,G a*4+1,none⟩ (.string ⟨z.1.nm.toArray⟩)).setCell ⟨g,G a*4+2,none⟩ (zI (z.1.n:Int))).setCell ⟨g,G a*4+3,none⟩ (.slice z.2.1 z.2.2.1 z.2.2.2)).heap.size=w2.heap.size:=aq;refine ⟨?_,?_,?_,?_,aN,λi hi=>?_⟩
 ·exact ((((h.bS.t (c.m h.bS.size)).setCell (p:=⟨g,_,none⟩) GG _).setCell (p:=⟨g,_,none⟩) GG _).setCell (p:=⟨g,_,none⟩) GG _).setCell (p:=⟨g,_,none⟩) GG _
 ·rw [b _ ae,c.block _ (cz.1 h.p).1];exact h.p
 ·rw [b _ ae,c.block _ (cz.1 h.R).1];exact h.R
 ·have l:=aZ h.own c;have E:ks.drop (G a)=ks[G a]::ks.drop (G a+1):=jL t;rw [E] at l;have m:=(((((l.stored (G a*4) (zI (z.1.k:Int))).1).stored (G a*4+1) (.string ⟨z.1.nm.toArray⟩)).1.stored (G a*4+2) (zI (z.1.n:Int))).1.stored (G a*4+3) (.slice z.2.1 z.2.2.1 z.2.2.2)).1;rw [UL] at m;rw [b6,kI];exact m
 ·by_cases j:i<G a
  ·obtain ⟨v,B⟩:=h.kid i j;rw [yj j];exact ⟨v,(B.next λq hq=>(b q hq.2.2).t (c.block q hq.2.1)).wide λq hq=>⟨hq.1,by rw [d];omega,hq.2.2⟩⟩
  ·obtain rfl:i=(G a):=zM;simp only [Bt (aG _),nK,List.getElem_cons_zero];have C:w.heap.size+1<wr.heap.size:=(cz.1 h.R).1;exact ⟨D,(o.next λq hq=>b q ae).wide λq hq=>⟨ae,by rw [d];exact hq.2,ae⟩⟩
def uu (tk:List PT) (j:Nat) (h:j<G tk):(IW tk)[j*4]?=some (zI tk[j].1)/\(IW tk)[j*4+1]?=some (zI (tk[j].2.1:Int))/\(IW tk)[j*4+2]?=some (.string ⟨tk[j].2.2.1.toArray⟩)/\(IW tk)[j*4+3]?=some (zI (tk[j].2.2.2:Int)):=by
 induction tk generalizing j with
 | nil=>simp at h
 | cons t tk ih=>
  have hc:IW (t::tk)=zI t.1::zI (t.2.1:Int)::.string ⟨t.2.2.1.toArray⟩::zI (t.2.2.2:Int)::IW tk:=by simp [IW]
  exact XB
def Fw (len:Nat) (ts:List (By × Nat)):iY ts++sM len=IW (aL len ts):=by
 unfold aL IW iY sM;rw [yo,List.flatMap_map];simp
def Shape:Pt->Prop
 | .atom k _ _=>k=1\/k=2\/k=7\/k=8
 | .un k a=>(k=9\/k=14\/k=6)/\Shape a
 | .bin k a b=>(k=4\/k=5\/k=12\/k=13\/k=15\/k=16\/k=17\/k=18\/k=19)/\Shape a/\Shape b
 | .ifs a b c=>Shape a/\Shape b/\Shape c
def Shape.get {p:Pt} (h:Shape p):∀ j (hj:j<G p.kids),Shape p.kids[j]:=by
 intro j hj;cases p with
 | atom k x n=>simp [Pt.kids] at hj
 | un k a=>
  obtain rfl:j=0:=vO;exact h.2
 | bin k a b=>
  rcases (show j=0\/j=1 from vO) with rfl|rfl
  ·exact h.2.1
  ·exact h.2.2
 | ifs a b c=>
  rcases (show j=0\/j=1\/j=2 from vO) with rfl|rfl|rfl
  ·exact h.1
  ·exact h.2.1
  ·exact h.2.2
def UY (n:Nat) (f:1<=n) (g:n<=5) (t:By) (k:Nat) (h:b5 t (dc n)=true) (c:ij t k):k=4\/k=5\/k=12\/k=13\/k=15\/k=16\/k=17\/k=18\/k=19:=by
 have d:n=1\/n=2\/n=3\/n=4\/n=5:=ae;have a:∀ x m,(x,m)∈eb->t=x->k=m:=λx m e b=>(cQ x m e t k c).2 b;simp only [b5,pF] at h;rcases d with rfl|rfl|rfl|rfl|rfl<;>simp only [dc,bQ,jA,iK] at h
 ·have:=a _ 5 ai h;omega
 ·have:=a _ 4 ai h;omega
 ·rcases h with h|h
  ·have:=a _ 18 ai h;omega
  ·have:=a _ 19 ai h;omega
 ·rcases h with h|h
  ·have:=a _ 12 ai h;omega
  ·have:=a _ 13 ai h;omega
 ·rcases h with h|h|h
  ·have:=a _ 15 ai h;omega
  ·have:=a _ 16 ai h;omega
  ·have:=a _ 17 ai h;omega
def bh.shape {ts:List (By × Nat)} {n i j:Nat} {p:Pt} (h:bh ts n i j p):Shape p:=by
 induction h with
 | atom i k _ _ o=>exact o
 | jV _ _ _ _ _ d=>exact ⟨Or.inr (Or.inr rfl),d⟩
 | neg _ _ _ _ _ d=>exact ⟨Or.inr (Or.inl rfl),d⟩
 | br _ _ _ _ _ _ d=>exact ⟨Or.inl rfl,d⟩
 | ifs _ _ _ _ _ _ _ _ _ _ _ _ _ _ _ c e f=>exact ⟨c,e,f⟩
 | up _ _ _ _ _ _ _ d=>exact d
 | more n i j q k a b g m _ hs l _ c e=>exact ⟨UY n g m _ k hs l,c,e⟩
structure Fd where
 nm:By
 p:Pt
 v:Vl
def fB (w:zW) (S:Nat->Prop) (b:Nat) (f:Fd):Prop:=
 ¬ S b/\Shape f.p/\Good f.p/\(txt f.p).length<=100/\∃ (a:Option zD) (l c:Nat),w.heap[b]?=some (.cells #[zG f.nm,zI f.p.k,zG f.p.nm,zI f.p.n,.slice a l c,zI f.v.1,zI f.v.2] 223 (0,0))/\dR w S f.p a l c
structure Sh (w:zW) (S:Nat->Prop) (a:Option zD) (fs:List (Nat × Fd)):Prop where
 still:∀ q,S q->q<w.heap.size
 ptr:∀ j (h:j<G fs),∃ g o,a=some ⟨g,o,none⟩/\S g/\w.cell? ⟨g,o+j,none⟩=some (.pointer (some ⟨(fs[j]).1,0,none⟩))
 bX:∀ x,x∈fs->fB w S x.1 x.2
def fB.lt {w:zW} {S:Nat->Prop} {b:Nat} {f:Fd} (h:fB w S b f):b<w.heap.size:=by
 obtain ⟨_,_,_,_,a,l,c,d,_⟩:=h;exact (cz.1 d).1
def fB.next {w w':zW} {S:Nat->Prop} {b:Nat} {f:Fd} (h:fB w S b f) (g:∀ q,S q->q<w.heap.size) (e:zB w w'):fB w' S b f:=by
 have d:=h.lt;obtain ⟨i,j,p,n,a,l,c,o,k⟩:=h;exact ⟨i,j,p,n,a,l,c,(e.block b d).t o,k.next λq m=>e.block q (g q m)⟩
def Sh.next {w w':zW} {S:Nat->Prop} {a:Option zD} {fs:List (Nat × Fd)} (h:Sh w S a fs) (b:zB w w'):Sh w' S a fs:=by
 refine ⟨λq f=>bG (h.still q f) b.size,λj e=>?_,λx i=>(h.bX x i).next h.still b⟩;obtain ⟨g,o,d,c,k⟩:=h.ptr j e;exact ⟨g,o,d,c,(b.cell (p:=⟨g,o+j,none⟩) (h.still g c)).t k⟩
def fP {w:zW} {q:Nat} {v0 v1 v2 v3 v4 v5 a:zV} {t:TypeId} (h:w.heap[q]?=some (.cells #[v0,v1,v2,v3,v4,v5,a] t (0,0))) :
  (w.cell? ⟨q,0,none⟩=some v0/\w.cell? ⟨q,1,none⟩=some v1/\w.cell? ⟨q,2,none⟩=some v2/\w.cell? ⟨q,3,none⟩=some v3/\w.cell? ⟨q,4,none⟩=some v4/\w.cell? ⟨q,5,none⟩=some v5/\w.cell? ⟨q,6,none⟩=some a)/\(∀ j,w.frozen? ⟨q,j,none⟩=false)/\q<w.heap.size:=
 ⟨⟨(bq w q 0 _ _ _ h).t rfl,(bq w q 1 _ _ _ h).t rfl,(bq w q 2 _ _ _ h).t rfl,(bq w q 3 _ _ _ h).t rfl,(bq w q 4 _ _ _ h).t rfl,(bq w q 5 _ _ _ h).t rfl,(bq w q 6 _ _ _ h).t rfl⟩,λj=>bF h j,(cz.1 h).1⟩
def findF (fs:List (Nat × Fd)) (x:By):Option (Nat × Fd):=fs.find? λf=>f.2.nm == x
def iQ (fs:List (Nat × Fd)) (x:By):Option zD:=(findF fs x).map λf=>⟨f.1,0,none⟩
def Vf (fs:List (Nat × Fd)) (x:By) (k:Nat) (h:k<G fs) (a:∀ j (hj:j<G fs),j<k->(fs[j]).2.nm≠x) (h2:(fs[k]).2.nm=x):findF fs x=some fs[k]:=by
 induction fs generalizing k with
 | nil=>simp at h
 | cons f fs d=>
  cases k with
  | zero=>
   simp at h2;simp [findF,h2]
  | succ k=>
   have b:f.2.nm≠x:=a 0 aq ae;have:=d k jP (λj hj c=>a (j+1) oT ae) tI;simp only [findF] at *;rw [List.find?_cons_of_neg (by simpa using b)];simpa using this
def Lt (fs:List (Nat × Fd)) (x:By) (b:∀ j (a:j<G fs),(fs[j]).2.nm≠x):findF fs x=none:=by
 simp only [findF,rp];intro f c;obtain ⟨j,a,rfl⟩:=e9 c;simpa using b j a
def kQ (x:By) {S:Nat->Prop} (e c:Nat) (a:Option zD) (fs:List (Nat × Fd)) (w:zW) (hs:Sh w S a fs) (K:w.cell? ⟨e,0,none⟩=some (.slice a (G fs) c)) (D:(G fs)<=1000) :
  zC prog 137 #[zJ e,zG x] w λr w'=>r=.returned (.pointer (iQ fs x))/\w=w':=by
 have u:=I hs;clear hs;go_in;go_wp2_with fail;go_loopg [6,12] (G fs) (λgk _ s wr=>wr=w/\∃ j:Nat,j<=G fs/\(G fs)<=j+gk/\s=zI j/\Hid (∀ i (b:i<G fs),i<j->(fs[i]).2.nm≠x))
 case atStart=>exact ⟨rfl,0,bE _,ae,rfl,λi b h=>ae⟩
 case round=>
  obtain ⟨rfl,j,J,z,rfl,l⟩:=hrel;by_cases d:j<G fs
  ·obtain ⟨g,o,rfl,E,L⟩:=u.o.ptr j d;obtain ⟨_,_,_,_,H,F,c1,p,_⟩:=u.o.bX fs[j] (bt d);obtain ⟨⟨C,_⟩,f,v⟩:=fP p;have k:(j:Int)<((G fs):Int):=ae;by_cases he:(fs[j]).2.nm=x
   ·have n:((fs[j]).2.nm == x)=true:=rh;have A:=I (Vf fs x j d (λi b h=>l.o i b h) he);clear he p f l;generalize t:(fs[j]).1=q at *;have B:=I t;clear t;generalize (fs[j]).2.nm=y at *;go_wp2;go_ret;exact ⟨by rw [iQ,A.o,<- B.o];rfl,rfl⟩
   ·have n:((fs[j]).2.nm == x)=false:=bo.2 he;have m:=I (show ∀ i (b:i<G fs),i<j+1->(fs[i]).2.nm≠x from λi b h=>by
     by_cases e:i=j
     ·subst e;exact he
     ·exact l.o i b ae)
    clear he p f;generalize (fs[j]).1=q at *;generalize (fs[j]).2.nm=y at *;go_wp2;go_roundg (G fs - (j+1))
    case measure=>omega
    case rel=>exact ⟨rfl,j+1,ae,ae,ez,m⟩
  ·have k:¬ (j:Int)<((G fs):Int):=ae;go_wp2;go_ret;refine ⟨?_,rfl⟩;rw [iQ,Lt fs x λi b=>l.o i b ae];rfl
def mW (fs:List (Nat × Fd)) (x:By):Vl:=match findF fs x with|some f=>f.2.v|none=>(3,3)
def fE {fs:List (Nat × Fd)} {x:By} {f:Nat × Fd} (h:findF fs x=some f):f∈fs/\f.2.nm=x:=by
 simp only [findF] at h;exact ⟨vK h,aaS⟩
def Tp (x:By) {S:Nat->Prop} (e c:Nat) (a:Option zD) (fs:List (Nat × Fd)) (w:zW) (hs:Sh w S a fs) (s:w.cell? ⟨e,0,none⟩=some (.slice a (G fs) c)) (l:e<w.heap.size) (o:(G fs)<=1000) :
  zC prog 198 #[zJ e,zG x] w (dx (mW fs x) w):=by
 have H:=I (λW (d:zB w W)=>kQ x e c a fs W (hs.next d) ((d.cell (p:=⟨e,0,none⟩) l).t s) o);have HS:=I hs;clear hs;unfold mW;cases hf:findF fs x with
 | some f=>
  have b:iQ fs x=some ⟨f.1,0,none⟩:=yK;rw [b] at H;obtain ⟨_,_,_,_,C,B,c1,d,_⟩:=HS.o.bX f (fE hf).1;have n:=I d;clear d;go_in;go_wp2_with (go_at_call 137;refine mo (H.o _ (bZ _)) ?_;rintro r w1 ⟨rfl,rfl⟩);obtain ⟨⟨t,u,y,E,A,D,z⟩,g,m⟩:=fP ((cj w (.cells #[zI 0,zI 0] 177) _ (HS.o.bX f (fE hf).1).lt).t n.o);have i:f.1≠w.heap.size:=ZY;have j:w.heap.size≠f.1:=λh=>i h.symm;generalize f.2.v=k at *;generalize f.1=q at *;clear g H hf b;apply I;go_wp2;refine aK (v:=.agg #[zI k.1,zI k.2]) aas rfl ?_;exact ⟨rfl,(aM _ _).alloc (aG _) _⟩
 | none=>
  have b:iQ fs x=none:=yK;rw [b] at H;go_in;go_wp2_with (go_at_call 137;refine (H.o _ (bZ _)).m ?_;rintro r w1 ⟨rfl,rfl⟩);refine aK (v:=.agg #[zI 3,zI 3]) aas rfl ?_;exact ⟨rfl,(aM _ _).alloc (aG _) _⟩
structure Ks (P:Nat->Prop) (w w':zW):Prop where
 os:w'.os=w.os
 tape:w'.tape=w.tape
 output:w'.output=w.output
 size:w.heap.size<=w'.heap.size
 block:∀ k,k<w.heap.size->¬ P k->w'.heap[k]?=w.heap[k]?
def Ks.of {P:Nat->Prop} {w w':zW} (h:zB w w'):Ks P w w':=⟨h.os,h.tape,h.output,h.size,λk a _=>h.block k a⟩
def Ks.t {P:Nat->Prop} {w w' a:zW} (h:Ks P w w') (g:Ks P w' a):Ks P w a:=
 ⟨g.os.t h.os,g.tape.t h.tape,g.output.t h.output,bf h.size g.size,λk c b=>(g.block k (bG c h.size) b).t (h.block k c b)⟩
def Ks.refl (P:Nat->Prop) (w:zW):Ks P w w:=⟨rfl,rfl,rfl,aG _,λ_ _ _=>rfl⟩
def Ks.wide {P P':Nat->Prop} {w w':zW} (h:Ks P w w') (d:∀ q,P q->P' q):Ks P' w w':=⟨h.os,h.tape,h.output,h.size,λk b c=>h.block k b λa=>c (d k a)⟩
def Ks.set {P:Nat->Prop} {w w':zW} (h:Ks P w w') (q j:Nat) (v:zV) (b:P q):Ks P w (w'.setCell ⟨q,j,none⟩ v):=
 h.t ⟨rfl,rfl,rfl,aq,λk _ a=>cY _ _ _ _ (λe=>a (by rw [show k=q from e];exact b))⟩
def Ks.alloc {P:Nat->Prop} {w w':zW} (h:Ks P w w') (o:Obj):Ks P w (w'.alloc o):=h.t (Ks.of (bZ _))
def qH (fs:List (Nat × Fd)) (b:Nat) (v:Vl):List (Nat × Fd):=fs.map λf=>if f.1=b then (f.1,{ f.2 with v:=v }) else f
def oh (fs:List (Nat × Fd)) (b:Nat):Pt:=match fs.find? (λf=>f.1 == b) with|some f=>f.2.p|none=>.atom 1 [] 0
def iR:List (Nat × Fd)->List Nat->List (Nat × Fd)
 | fs,[]=>fs
 | fs,b::r=>iR (qH fs b (cD (mW fs) (oh fs b))) r
def fB.stays {w w':zW} {S:Nat->Prop} {b:Nat} {f:Fd} (h:fB w S b f) (i:w'.heap[b]?=w.heap[b]?) (d:∀ q,S q->w'.heap[q]?=w.heap[q]?):fB w' S b f:=by
 obtain ⟨e,j,n,g,a,l,c,k,m⟩:=h;exact ⟨e,j,n,g,a,l,c,i.t k,m.next d⟩
def mV:(prog.info? 151).map (λi=>(i.zero,i.size,i.bytes))=some (some .nilFunc,1,8):=aD
def Ut (fs:List (Nat × Fd)) (b:Nat) (v:Vl):(qH fs b v).map (λf=>f.1)=fs.map λf=>f.1:=by
 simp only [qH,fM];congr 1;funext f;simp only [Function.comp];split<;>rfl
def EJ (w:zW) (A B C:Obj):(((w.alloc A).alloc B).alloc C).heap[w.heap.size]?=some A:=by
 rw [cj _ _ _ aN,cj _ _ _ aq];exact bL w A
def zU (w:zW) (A B C:Obj) (q:Nat) (a:q<w.heap.size):(((w.alloc A).alloc B).alloc C).heap[q]?=w.heap[q]?:=by
 rw [cj _ _ _ aN,cj _ _ _ aN,cj _ _ _ a]
def Dx (w:zW) (q:Nat) (k:Int) (nm:By) (n:Int) (a:Option zD) (l c:Nat):zW:=(((w.setCell ⟨q,1,none⟩ (zI k)).setCell ⟨q,2,none⟩ (zG nm)).setCell ⟨q,3,none⟩ (zI n)).setCell ⟨q,4,none⟩ (.slice a l c)
def JO (q:Nat) (v0 v5 s:zV) (k:Int) (nm:By) (n:Int) (a:Option zD) (l c:Nat) (g:Int) (b:By) (i:Int) (f:Option zD) (d h:Nat) (t:TypeId) (w:zW) (u:w.heap[q]?=some (.cells #[v0,zI k,zG nm,zI n,.slice a l c,v5,s] t (0,0))) :
  zC prog 162 #[.pointer (some ⟨q,1,none⟩),.agg #[zI g,zG b,zI i,.slice f d h]] w λe w'=>∃ p o,e=.returned (.func (.func 191) #[] #[zJ p,zJ o])/\w.heap.size<=p/\w.heap.size<=o/\p≠o/\w'.heap[p]?=some (.cells #[.pointer (some ⟨q,1,none⟩)] 251 (0,0))/\w'.heap[o]?=some (.cells #[zI k,zG nm,zI n,.slice a l c] 89 (0,0)) /\
   w'.heap[q]?=some (.cells #[v0,zI g,zG b,zI i,.slice f d h,v5,s] t (0,0))/\Ks (λx=>x=q) w w':=by
 obtain ⟨⟨C,D,E,J,G,H,F⟩,m,A⟩:=fP u;have f1:=m 1;have f2:=m 2;have f3:=m 3;have f4:=m 4;have z:q<w.heap.size+1:=ae;have v:q<w.heap.size+1+1:=ae;have y:=I u;clear u m;go_in;go_wp2;go_ret;have j:(Dx w q g b i f d h).heap.size=w.heap.size:=by simp [Dx]
 have B:(Dx w q g b i f d h).heap[q]?=some (.cells #[v0,zI g,zG b,zI i,.slice f d h,v5,s] t (0,0)):=
  (aj (aj (aj (aj y.o 1 _) 2 _) 3 _) 4 _).t rfl
 have r:Ks (λx=>x=q) w (Dx w q g b i f d h):=((((Ks.refl (λx=>x=q) w).set q 1 _ rfl).set q 2 _ rfl).set q 3 _ rfl).set q 4 _ rfl;refine ⟨w.heap.size,w.heap.size+1+1,rfl,aG _,ae,ae,?_,?_,?_,((r.alloc _).alloc _).alloc _⟩
 ·rw [<- j];exact EJ (Dx w q g b i f d h) _ _ _
 ·rw [<- j];exact fZ (Dx w q g b i f d h) _ _ _ _
 ·exact (zU (Dx w q g b i f d h) _ _ _ q (by rw [j];exact A)).t B
structure bg where
 ord:List Nat
 mem:Nat->Fd
inductive Wr
 | ord (l:List Nat)
 | nm (b:Nat) (x:By)
 | rl (b:Nat) (p:Pt)
 | vl (b:Nat) (v:Vl)
def bg.put (σ:bg) (b:Nat) (f:Fd):bg:=⟨σ.ord,λq=>if q=b then f else σ.mem q⟩
def kx (σ:bg):Wr->bg
 | .ord l=>⟨l,σ.mem⟩
 | .nm b x=>σ.put b ⟨x,(σ.mem b).p,(σ.mem b).v⟩
 | .rl b p=>σ.put b ⟨(σ.mem b).nm,p,(σ.mem b).v⟩
 | .vl b v=>σ.put b ⟨(σ.mem b).nm,(σ.mem b).p,v⟩
def Te (σ:bg):Wr->Wr
 | .ord _=>.ord σ.ord
 | .nm b _=>.nm b (σ.mem b).nm
 | .rl b _=>.rl b (σ.mem b).p
 | .vl b _=>.vl b (σ.mem b).v
def aU:List Wr->bg->bg
 | [],σ=>σ
 | u::r,σ=>aU r (kx σ u)
def dz:List Wr->bg->List Wr
 | [],_=>[]
 | u::r,σ=>dz r (kx σ u)++[Te σ u]
def Ct (σ:bg) (b:Nat) (f g:Fd):(σ.put b f).put b g=σ.put b g:=YW
def yO (σ:bg) (b:Nat):σ.put b (σ.mem b)=σ:=by
 cases σ with
 | mk o m=>
  exact YW
def fN (σ:bg) (b:Nat) (f:Fd):(σ.put b f).mem b=f:=by simp [bg.put]
def dM (σ:bg) (b q:Nat) (f:Fd) (h:q≠b):(σ.put b f).mem q=σ.mem q:=by simp [bg.put,h]
def Tf (σ:bg) (u:Wr):kx (kx σ u) (Te σ u)=σ:=by
 cases u with
 | ord l=>rfl
 | nm b x=>simp only [kx,Te,fN,Ct];exact yO σ b
 | rl b x=>simp only [kx,Te,fN,Ct];exact yO σ b
 | vl b x=>simp only [kx,Te,fN,Ct];exact yO σ b
def lH (a b:List Wr):∀ σ,aU (a++b) σ=aU b (aU a σ):=by
 induction a with
 | nil=>intro σ;rfl
 | cons u r c=>intro σ;exact c _
def EI (a b:List Wr):∀ σ,dz (a++b) σ=dz b (aU a σ)++dz a σ:=by
 induction a with
 | nil=>intro σ;simp [dz,aU]
 | cons u r c=>intro σ;simp only [gT,dz,aU,c,kI]
def lV (us:List Wr):∀ σ,aU (dz us σ) (aU us σ)=σ:=by
 induction us with
 | nil=>intro σ;rfl
 | cons u r a=>intro σ;simp only [dz,aU,lH,a,Tf]
def jQ (w:zW) (S:Nat->Prop) (a:Option zD) (l:List Nat):Prop:=
 ∀ j (h:j<G l),∃ g o,a=some ⟨g,o,none⟩/\S g/\w.cell? ⟨g,o+j,none⟩=some (.pointer (some ⟨l[j],0,none⟩))
def jQ.next {w w':zW} {S:Nat->Prop} {a:Option zD} {l:List Nat} (h:jQ w S a l) (e:∀ q,S q->w'.heap[q]?=w.heap[q]?):jQ w' S a l:=λj d=>by
 obtain ⟨g,o,c,b,f⟩:=h j d;exact ⟨g,o,c,b,(nu (a:=⟨g,o+j,none⟩) (e g b)).t f⟩
def jQ.wide {w:zW} {S S':Nat->Prop} {a:Option zD} {l:List Nat} (h:jQ w S a l) (e:∀ q,S q->S' q):jQ w S' a l:=λj c=>by
 obtain ⟨g,o,b,d,f⟩:=h j c;exact ⟨g,o,b,e g d,f⟩
structure cK (w:zW) (S:Nat->Prop) (e:Nat) (D:Nat->Prop) (σ:bg) (v1 v2 v3 v4 v5:zV) (te:TypeId):Prop where
 still:∀ q,S q->q<w.heap.size
 eS:¬ S e
 eD:¬ D e
 bX:∀ b,D b->fB w S b (σ.mem b)
 sub:∀ b,b∈σ.ord->D b
 row:∃ a c,jQ w S a σ.ord/\σ.ord.length<=c/\(a=none->c=0)/\w.heap[e]?=some (.cells #[.slice a σ.ord.length c,v1,v2,v3,v4,v5] te (0,0))
def bg.fs (σ:bg):List (Nat × Fd):=σ.ord.map λb=>(b,σ.mem b)
def cK.sh {w:zW} {S:Nat->Prop} {e:Nat} {D:Nat->Prop} {σ:bg} {v1 v2 v3 v4 v5:zV} {te:TypeId} (h:cK w S e D σ v1 v2 v3 v4 v5 te):∃ a c,Sh w S a σ.fs/\σ.fs.length<=c/\(a=none->c=0)/\w.heap[e]?=some (.cells #[.slice a σ.fs.length c,v1,v2,v3,v4,v5] te (0,0)):=by
 obtain ⟨a,c,i,l,r,n⟩:=h.row;have d:σ.fs.length=σ.ord.length:=tL;refine ⟨a,c,⟨h.still,λj s=>?_,λx q=>?_⟩,by rw [d];exact l,r,by rw [d];exact n⟩
 ·obtain ⟨g,o,f,k,m⟩:=i j ae;exact ⟨g,o,f,k,by simpa [bg.fs] using m⟩
 ·obtain ⟨b,p,rfl⟩:=bU.1 q;exact h.bX b (h.sub b p)
inductive cO (e:Nat) (D:Nat->Prop) (w:zW) (S:Nat->Prop):Nat->Array zV->List Wr->Prop
 | ord (g1 g2:Nat) (a:Option zD) (c:Nat) (l:List Nat):S g1->S g2->w.heap[g1]?=some (.cells #[zJ e] 253 (0,0))->w.heap[g2]?=some (.cells #[.slice a (G l) c] 101 (0,0))->jQ w S a l->G l<=c->(a=none->c=0)->(∀ b,b∈l->D b) ->
   cO e D w S 192 #[zJ g1,zJ g2] [.ord l]
 | nm (g1 g2 b:Nat) (x:By):S g1->S g2->w.heap[g1]?=some (.cells #[zJ b] 291 (0,0))->w.heap[g2]?=some (.cells #[zG x] 9 (0,0))->D b ->
   cO e D w S 221 #[zJ g1,zJ g2] [.nm b x]
 | rl (g1 g2 b:Nat) (p:Pt) (a:Option zD) (l c:Nat):S g1->S g2->w.heap[g1]?=some (.cells #[.pointer (some ⟨b,1,none⟩)] 251 (0,0))->w.heap[g2]?=some (.cells #[zI p.k,zG p.nm,zI p.n,.slice a l c] 89 (0,0))->dR w S p a l c->Shape p->Good p->(txt p).length<=100->D b ->
   cO e D w S 191 #[zJ g1,zJ g2] [.rl b p]
 | vl (g1 g2 b:Nat) (v:Vl):S g1->S g2->w.heap[g1]?=some (.cells #[.pointer (some ⟨b,5,none⟩)] 287 (0,0))->w.heap[g2]?=some (.cells #[zI v.1,zI v.2] 177 (0,0))->D b ->
   cO e D w S 219 #[zJ g1,zJ g2] [.vl b v]
 | all (g:Nat) (a:Option zD) (n c:Nat) (N:Nat->Nat) (cs:Nat->Array zV) (us:Nat->List Wr):S g->w.heap[g]?=some (.cells #[.slice a n c] 104 (0,0))->n<=c->(n=0\/∃ h o,a=some ⟨h,o,none⟩/\S h)->n*8<=140737488355328 ->
   (∀ i,i<n->∀ h o,a=some ⟨h,o,none⟩->w.cell? ⟨h,o+i,none⟩=some (.func (.func (N i)) #[] (cs i)))->(∀ i,i<n->cO e D w S (N i) (cs i) (us i)) ->
   cO e D w S 106 #[zJ g] ((List.range n).reverse.flatMap us)
def cO.next {e:Nat} {D:Nat->Prop} {w w':zW} {S:Nat->Prop} {N:Nat} {cs:Array zV} {us:List Wr} (h:cO e D w S N cs us) (k:∀ q,S q->w'.heap[q]?=w.heap[q]?):cO e D w' S N cs us:=by
 induction h with
 | ord t s a c l d j r f m u y A=>exact .ord t s a c l d j ((k _ d).t r) ((k _ j).t f) (m.next k) u y A
 | nm t s b x d j r f m=>exact .nm t s b x d j ((k _ d).t r) ((k _ j).t f) m
 | rl t s b p a l c d j r f m u y A C=>exact .rl t s b p a l c d j ((k _ d).t r) ((k _ j).t f) (m.next k) u y A C
 | vl t s b v d j r f m=>exact .vl t s b v d j ((k _ d).t r) ((k _ j).t f) m
 | all g a n c N cs us d j r f m u _ E=>
  refine .all g a n c N cs us d ((k _ d).t j) r f m (λi F h o B=>?_) E;rcases f with f|⟨G,H,f,z⟩
  ·omega
  ·rw [B] at f;cases f;exact (nu (a:=⟨h,o+i,none⟩) (k h z)).t (u i F h o B)
def cO.wide {e:Nat} {D A:Nat->Prop} {w:zW} {S S':Nat->Prop} {N:Nat} {cs:Array zV} {us:List Wr} (h:cO e D w S N cs us) (d:∀ q,S q->S' q) (u:∀ q,D q->A q):cO e A w S' N cs us:=by
 induction h with
 | ord s r a c l i j m k f t y z=>exact .ord s r a c l (d _ i) (d _ j) m k (f.wide d) t y λb F=>u b (z b F)
 | nm s r b x i j m k f=>exact .nm s r b x (d _ i) (d _ j) m k (u b f)
 | rl s r b p a l c i j m k f t y z C=>exact .rl s r b p a l c (d _ i) (d _ j) m k (f.wide d) t y z (u b C)
 | vl s r b v i j m k f=>exact .vl s r b v (d _ i) (d _ j) m k (u b f)
 | all g a n c N cs us i j m k f t _ E=>
  refine .all g a n c N cs us (d _ i) j m (k.imp id ?_) f t E;rintro ⟨h,o,e1,B⟩;exact ⟨h,o,e1,d h B⟩
def cO.enters {e:Nat} {D:Nat->Prop} {w:zW} {S:Nat->Prop} {N:Nat} {cs:Array zV} {us:List Wr} (h:cO e D w S N cs us):∀ args w,(callFunc N args).run prog w=.ok (.enter N args) w:=by
 cases h with
 | ord=>exact oK func192 aD rfl
 | nm=>exact oK func221 aD rfl
 | rl=>exact oK func191 aD rfl
 | vl=>exact oK func219 aD rfl
 | all=>exact oK func106 aD rfl
def qG (S O:Nat->Prop) (e:Nat) (D:Nat->Prop) (σ:bg) (us:List Wr) (v1 v2 v3 v4 v5:zV) (te:TypeId) (w:zW) (r:Ending) (w':zW):Prop:=
 ∃ (b:Nat) (a:Array zV) (S':Nat->Prop),r=.returned (.func (.func b) #[] a)/\(∀ q,S q->S' q)/\(∀ q,S' q->S q\/(O q/\∃ c t z,w'.heap[q]?=some (.cells c t z)))/\cK w' S' e D (aU us σ) v1 v2 v3 v4 v5 te/\cO e D w' S' b a (dz us σ)/\Ks (λq=>q=e\/D q) w w'
def gX (S:Nat->Prop) (e:Nat) (D:Nat->Prop) (σ:bg) (us:List Wr) (v1 v2 v3 v4 v5:zV) (te:TypeId) (w:zW) (r:Ending) (w':zW):Prop:=qG S (λq=>w.heap.size<=q) e D σ us v1 v2 v3 v4 v5 te w r w'
def cJ (fs:List (Nat × Fd)):List By:=fs.map λf=>f.2.nm
def Qx (fs:List (Nat × Fd)) (j:Nat) (h:j<G fs):(strs ((cJ fs).take j++List.replicate (G fs - j) [])).set j (.string ⟨((fs[j]).2.nm).toArray⟩)=strs ((cJ fs).take (j+1)++List.replicate (G fs - (j+1)) []):=by
 have e1:(cJ fs).take (j+1)=(cJ fs).take j++[(fs[j]).2.nm]:=by
  rw [List.take_add_one,cU (by simpa [cJ] using h)];simp [cJ]
 have a:min j (cJ fs).length=j:=by simp [cJ];omega
 obtain ⟨m,b⟩:∃ m,G fs - j=m+1:=⟨G fs - j - 1,ae⟩;rw [e1,b,show (G fs) - (j+1)=m from ae];simp only [strs,fK,BC,fL,List.map_nil,kI,gT,ko];rw [yl _ _ (by simp [a])];simp [a]
def uK {S:Nat->Prop} (a:Option zD) (c:Nat) (fs:List (Nat × Fd)) (w:zW) (hs:Sh w S a fs) (U:(G fs)<=1000) :
  zC prog 142 #[.slice a (G fs) c] w λe w'=>∃ v,e=.returned v/\w'.ownsRow w.heap.size 9 1 v (G fs) (strs (cJ fs))/\zB w w':=by
 have s:=I hs;clear hs;obtain ⟨H,L,l,m,r⟩:=fe yU;go_in;obtain ⟨w1,x,f,b⟩:=run_make_full (P:=prog) w w.heap.size 24 9 H (zG []) 1 underlying24 L l m .i64 .i64 (G fs) (by rw [r];omega) jM (aG _);have J:=I (show zB w w1 from (aM _ _).grown b (aG _) (λk K=>by cases K));have R:=I (show w1.ownsRow w.heap.size 9 1 (zS w.heap.size (G fs) (G fs)) (G fs) (strs ((cJ fs).take 0++List.replicate (G fs - 0) [])) by
  have e:(madeCells (Value.cells (zG [])) (G fs*1)).toList=strs ((cJ fs).take 0++List.replicate (G fs - 0) []):=by
   rw [show Value.cells (zG [])=#[zG []] from rfl,toList_madeCells_one];simp [strs]
  rw [<- e];exact f)
 clear f b;go_wp2_with fail;go_loopg [11] (G fs) (λgk t wr=>∃ j:Nat,j<=G fs/\(G fs)<=j+gk/\t=zI j/\Hid (zB w wr)/\Hid (wr.ownsRow w.heap.size 9 1 (zS w.heap.size (G fs) (G fs)) (G fs) (strs ((cJ fs).take j++List.replicate (G fs - j) []))))
 case atStart=>exact ⟨0,bE _,ae,rfl,J,R⟩
 case round=>
  obtain ⟨j,Y,M,rfl,d,HOr⟩:=hrel;by_cases h:j<G fs
  ·obtain ⟨g,o,rfl,N,C⟩:=s.o.ptr j h;have T:=(d.o.cell (p:=⟨g,o+j,none⟩) (s.o.still g N)).t C;have E:=s.o.bX fs[j] (bt h);have n:=E.lt;obtain ⟨_,_,_,_,X,W,c1,D,_⟩:=E;obtain ⟨⟨V,_⟩,_,F⟩:=fP ((d.o.block _ n).t D);have i:(j:Int)<((G fs):Int):=ae;have O:=HOr.o.cellAt j ae;obtain ⟨u,A⟩:∃ u,(strs ((cJ fs).take j++List.replicate (G fs - j) []))[j]?=some u:=⟨_,cU (by simp [strs,cJ];omega)⟩;rw [A] at O;have Q:=HOr.o.frozenAt j;have z:=I (show (wr.setCell ⟨w.heap.size,j,none⟩ (.string ⟨((fs[j]).2.nm).toArray⟩)).ownsRow w.heap.size 9 1 (zS w.heap.size (G fs) (G fs)) (G fs) (strs ((cJ fs).take (j+1)++List.replicate (G fs - (j+1)) [])) by
    have B:=(HOr.o.stored j (.string ⟨((fs[j]).2.nm).toArray⟩)).1;have e:(strs ((cJ fs).take j++List.replicate (G fs - j) [])).set j (.string ⟨((fs[j]).2.nm).toArray⟩)=strs ((cJ fs).take (j+1)++List.replicate (G fs - (j+1)) []):=Qx fs j h;rw [e] at B;exact B)
   clear D C A HOr;generalize (fs[j]).1=q at *;generalize (fs[j]).2.nm=y at *;go_wp2;go_roundg (G fs - (j+1))
   case measure=>omega
   case rel=>exact ⟨j+1,ae,ae,ez,d.o.setCell (p:=⟨w.heap.size,j,none⟩) (aG _) _,z⟩
  ·have i:¬ (j:Int)<((G fs):Int):=ae;obtain rfl:j=(G fs):=ae;go_wp2;go_ret;refine ⟨_,rfl,?_,d.o⟩;have:=HOr.o;rw [nK,qy G8] at this;simpa using this
def jR (x y:By):∀ p,Good p->Good (aR x y p)
 | .atom _ _ _,h=>h
 | .un _ a,h=>⟨h.1,jR x y a h.2⟩
 | .bin _ a b,h=>⟨h.1,jR x y a h.2.1,jR x y b h.2.2⟩
 | .ifs a b c,h=>⟨jR x y a h.1,jR x y b h.2.1,jR x y c h.2.2⟩
def iN (x y:By):∀ p,Shape p->Shape (aR x y p)
 | .atom _ _ _,h=>h
 | .un _ a,h=>⟨h.1,iN x y a h.2⟩
 | .bin _ a b,h=>⟨h.1,iN x y a h.2.1,iN x y b h.2.2⟩
 | .ifs a b c,h=>⟨iN x y a h.1,iN x y b h.2.1,iN x y c h.2.2⟩
def ig (x y:By):∀ p,aC x p=false->aR x y p=p
 | .atom k nm n,h=>by
  simp [aC] at h;have:¬ (k=2/\nm=x):=λd=>h d.1 d.2;simp only [aR,aA this]
 | .un k a,h=>by
  simp [aC] at h;simp only [aR,ig x y a h.2]
 | .bin k a b,h=>by
  simp [aC] at h;simp only [aR,ig x y a h.2.1,ig x y b h.2.2]
 | .ifs a b c,h=>by
  simp [aC] at h;simp only [aR,ig x y a h.1,ig x y b h.2.1,ig x y c h.2.2]
def zo (z:By) (hz:z≠[]) (k:Nat) (a:Pt):aC z (.un k a)=aC z a:=YD
def xi (z:By) (hz:z≠[]) (k:Nat) (a b:Pt):aC z (.bin k a b)=(aC z a||aC z b):=YD
def P8 (z:By) (a b c:Pt):aC z (.ifs a b c)=(aC z a||(aC z b||aC z c)):=by
 simp [aC]
def j9 (x y z:By) (f:x≠[]) (g:y≠[]) (e:z≠[]) (d:y≠x):∀ p,aC z (aR x y p)=if z=x then false else if z=y then aC x p||aC y p else aC z p
 | .atom k nm n=>by
  simp only [aR,aC,List.any_nil,Bool.or_false]
  grind
 | .un k a=>by
  have h:=j9 x y z f g e d a;simp only [aR,zo _ f,zo _ g,zo _ e,h]
 | .bin k a b=>by
  have h:=j9 x y z f g e d a;have i:=j9 x y z f g e d b;simp only [aR,xi _ f,xi _ g,xi _ e,h,i]
  grind
 | .ifs a b c=>by
  have h:=j9 x y z f g e d a;have i:=j9 x y z f g e d b;have j:=j9 x y z f g e d c;simp only [aR,P8,h,i,j]
  grind
def mY (x y:By) (e:x≠[]):∀ p,(txt (aR x y p)).length<=(txt p).length*(G y+1)
 | .atom k nm n=>by
  have d:∀ q:Nat,q<=q*(G y+1):=λq=>Nat.le_mul_of_pos_right _ ae;have o:(if k=2/\nm=x then y else nm).length<=G nm*(G y+1):=by
   by_cases h:k=2/\nm=x
   ·rw [aB h,h.2];have:1<=(G x):=BB.2 e;have:=Nat.mul_le_mul_right (G y+1) this;omega
   ·rw [aA h];exact d _
  simp only [aR,txt,b6,Nat.add_mul];have f:=d (iP k).length;have g:=d (gu k n).length;have l:=d (jn (lL k) []).length;have i:=d (jO k).length;omega
 | .un k a=>by
  have d:∀ q:Nat,q<=q*(G y+1):=λq=>Nat.le_mul_of_pos_right _ ae;have j:=mY x y e a;simp only [aR,txt,jn,List.flatMap_nil,b6,nZ,Nat.add_mul];have f:=d (iP k).length;have g:=d (gu k 0).length;have i:=d (jO k).length;omega
 | .bin k a b=>by
  have d:∀ q:Nat,q<=q*(G y+1):=λq=>Nat.le_mul_of_pos_right _ ae;have j:=mY x y e a;have m:=mY x y e b;simp only [aR,txt,jn,sD,List.flatMap_nil,b6,nZ,Nat.add_mul];have f:=d (iP k).length;have g:=d (gu k 0).length;have l:=d (lL k).length;have i:=d (jO k).length;omega
 | .ifs a b c=>by
  have d:∀ q:Nat,q<=q*(G y+1):=λq=>Nat.le_mul_of_pos_right _ ae;have j:=mY x y e a;have m:=mY x y e b;have r:=mY x y e c;simp only [aR,txt,jn,sD,List.flatMap_nil,b6,nZ,Nat.add_mul];have f:=d (iP 3).length;have g:=d (gu 3 0).length;have l:=d (lL 3).length;have i:=d (jO 3).length;omega
section
attribute [local go_sem] idx_eq app_eq
variable {w w' W:zW} {v u:zV} {Z:List zV} {P:Nat->Prop}
def dA (w:zW) (v:zV) (Z:List zV):Prop:=
 (v=zN/\Z=[])\/∃ g o a,v=.slice (some ⟨g,o,none⟩) (G Z) a/\g<w.heap.size/\(G Z)<=a/\a<=maxLen/\(∀ j,j<a->(w.cell? ⟨g,o+j,none⟩).isSome=true/\w.frozen? ⟨g,o+j,none⟩=false)/\∀ (j:Nat) (u:zV),Z[j]?=some u->w.cell? ⟨g,o+j,none⟩=some u
def qJ {g:Nat} (h:w'.heap[g]?=w.heap[g]?) (o:Nat):w'.frozen? ⟨g,o,none⟩=w.frozen? ⟨g,o,none⟩:=by
 simp only [World.frozen?,h]
def dA.ks (h:dA w v Z) (c:Ks P w w') (d:∀ q,v.ownBlock=some q->¬ P q):dA w' v Z:=by
 rcases h with h|⟨g,o,a,rfl,b,n,i,l,k⟩
 ·exact Or.inl h
 ·have e:=c.block g b (d g rfl);exact Or.inr ⟨g,o,a,rfl,bG b c.size,n,i,λj f=>by rw [aS e,qJ e];exact l j f,λj u m=>(aS e _).t (k j u m)⟩
def dA.next (h:dA w v Z) (a:zB w w'):dA w' v Z:=h.ks (P:=λ_=>False) (Ks.of a) λ_ _ h=>h
def dA.len (h:dA w v Z):∃ c a,v=.slice c (G Z) a/\(G Z)<=a/\a<=maxLen:=by
 rcases h with ⟨rfl,rfl⟩|⟨g,o,a,rfl,f,d,b,i,e⟩
 ·exact ⟨none,0,rfl,aG _,ai⟩
 ·exact ⟨_,a,rfl,d,b⟩
def dA.lt (h:dA w v Z):∀ q,v.ownBlock=some q->q<w.heap.size:=by
 rcases h with ⟨rfl,rfl⟩|⟨g,o,c,rfl,b,i,d,f,e⟩
 ·intro q a;cases a
 ·intro q a;cases a;exact b
def dA.drop {b:Option zD} {a k:Nat} (h:dA w (.slice b (G Z) a) Z) (f:k<=G Z):dA w (.slice (b.map λx=>x.add k) (G Z - k) (a - k)) (Z.drop k)/\(Value.slice (b.map λx=>x.add k) (G Z - k) (a - k)).ownBlock=(Value.slice b (G Z) a).ownBlock:=by
 rcases h with ⟨d,rfl⟩|⟨g,o,c,d,i,q,p,m,l⟩
 ·cases d;simp at f;subst f;exact ⟨Or.inl ⟨rfl,rfl⟩,rfl⟩
 ·cases d;refine ⟨Or.inr ⟨g,o+k,a - k,?_,i,?_,ae,λj n=>?_,λj u e=>?_⟩,by rw [oH,Addr.add_lit];rfl⟩
  ·rw [mG,oH,Addr.add_lit]
  ·rw [mG];omega
  ·rw [oJ];exact m _ ae
  ·rw [qz] at e;rw [oJ];exact l _ _ e
def dA.aih {b:Option zD} {a k:Nat} (h:dA w (.slice b (G Z) a) Z) (l:k=G Z):dA w (.slice b (G Z - k) 0) (Z.drop k)/\(Value.slice b (G Z - k) 0).ownBlock=(Value.slice b (G Z) a).ownBlock:=by
 subst l;rw [nK,List.drop_length];rcases h with ⟨d,rfl⟩|⟨g,o,c,d,e,q,m,p,n⟩
 ·cases d;exact ⟨Or.inl ⟨rfl,rfl⟩,rfl⟩
 ·cases d;exact ⟨Or.inr ⟨g,o,0,rfl,e,aG _,bE _,λj i=>absurd i (pH j),λj u f=>by simp at f⟩,rfl⟩
def dA.take {e:Option zD} {a k:Nat} (h:dA w (.slice e (G Z) a) Z) (f:k<=G Z):dA w (.slice e k a) (Z.take k):=by
 rcases h with ⟨d,rfl⟩|⟨g,o,c,d,i,q,m,p,n⟩
 ·cases d;simp at f;subst f;exact Or.inl ⟨rfl,rfl⟩
 ·cases d;have l:(Z.take k).length=k:=by rw [sF];omega
  refine Or.inr ⟨g,o,a,by rw [l],i,ae,m,p,λj u b=>n j u ?_⟩;rw [sX] at b;split at b
  ·exact b
  ·cases b
def dA.own {B:Nat} (h:w.ownsRow B 111 1 v (G Z) Z):dA w v Z:=by
 rcases h.2 with ⟨rfl,f⟩|⟨g,b,i,rfl,l,a,k,e,m,n⟩
 ·exact Or.inl ⟨rfl,oD f⟩
 ·refine Or.inr ⟨g,0,b,rfl,(cz.1 a).1,k,e,λj d=>⟨?_,bF a _⟩,λj u c=>?_⟩
  ·rw [cS,bq w g j _ _ _ a,Array.getElem?_eq_getElem ae];rfl
  ·have d:j<(G Z):=(fI.1 c).1;rw [cS,h.cellAt j ae];exact c
def abl:(prog.info? 111).map (λi=>(i.zero,i.size,i.bytes))=some (some (zN),1,24):=aD
def OZ (w:zW) (v v':zV):Prop:=v'.ownBlock=v.ownBlock\/∃ g,v'.ownBlock=some g/\w.heap.size<=g
def TA (B:TypeId) (h:dA w v Z) (T:(G Z)<=1000000) {m:zD} {c:Nat} (Q:w.cell? (m.add 0)=some u) (r:u.oneCell'=true) :
  ∃ v' w',(Builtin.append_ #[112,112] B #[v,.slice (some m) 1 c]).run prog w=.ok v' w'/\dA w' v' (Z++[u])/\Ks (λq=>v.ownBlock=some q) w w'/\OZ w v v':=by
 obtain ⟨C,J,n,b,t⟩:=fe abl;have a:∀ (j:Nat) (x:zV),[u][j]?=some x->w.cell? (m.add j)=some x:=λj x hx=>by
  cases j with
  | zero=>simp at hx;rw [<- hx];exact Q
  | succ j=>simp at hx
 have p:∀ x∈[u],x.oneCell'=true:=λx hx=>by rw [iB.1 hx];exact r
 rcases h with ⟨rfl,rfl⟩|⟨g,o,d,rfl,N,U,O,s,g6⟩
 ·obtain ⟨v',w',E,z,f,_⟩:=run_append_own (P:=prog) w w.heap.size _ B _ C _ 1 24 underlying112 J n b t rfl ai (zN) 0 [] (eW _ _ _ _) m 1 c [u] rfl a p ai ai (aG _);refine ⟨v',w',E,dA.own z,⟨f.os,f.tape,f.output,f.size,λk F S=>f.block k F (λe=>S e.symm)⟩,?_⟩;rcases z.2 with ⟨_,M⟩|⟨g,d,H,rfl,r,_⟩
  ·cases M
  ·exact Or.inr ⟨g,rfl,r⟩
 ·by_cases l:(G Z)+1<=d
  ·have L:w.cell? ⟨g,o+G Z,none⟩≠none:=λe=>by have:=(s (G Z) ae).1;rw [e] at this;cases this
   refine ⟨.slice (some ⟨g,o,none⟩) (G Z+1) d,w.setCell ⟨g,o+G Z,none⟩ u,?_,?_,?_,Or.inl rfl⟩
   ·have:=run_append_room_cells (P:=prog) w _ B _ C underlying112 J g o (G Z) d m 1 c [u] (by rw [b];rfl) a p l (by rw [b,nL];intro j i;simp at i;subst i;exact (s (G Z) ae).1) (by rw [b,nL];intro j i;simp at i;subst i;exact (s (G Z) ae).2);rw [b,nL] at this;exact this
   ·have A:(Z++[u]).length=G Z+1:=aq;refine Or.inr ⟨g,o,d,by rw [A],?_,ae,O,λj i=>⟨?_,?_⟩,λj x hx=>?_⟩
    ·simpa using N
    ·by_cases e:j=G Z
     ·subst e;obtain ⟨y,D⟩:=Option.ne_none_iff_exists'.1 L;rw [World.cell?_setCell_same (h:=D)];rfl
     ·rw [World.cell?_setCell_other (h:=show (⟨g,o+G Z,none⟩:zD)≠⟨g,o+j,none⟩ from λh=>e (Nat.add_left_cancel (eL Addr.off h)).symm)];exact (s j i).1
    ·rw [World.frozen?_setCell];exact (s j i).2
    ·by_cases e:j=G Z
     ·subst e;obtain ⟨y,D⟩:=Option.ne_none_iff_exists'.1 L;rw [World.cell?_setCell_same (h:=D)];rw [qx (aG _),nK] at hx;exact hx
     ·rw [World.cell?_setCell_other (h:=show (⟨g,o+G Z,none⟩:zD)≠⟨g,o+j,none⟩ from λh=>e (Nat.add_left_cancel (eL Addr.off h)).symm)];have i:j<(Z++[u]).length:=(fI.1 hx).1;rw [sy ae] at hx;exact g6 j x hx
   ·exact (Ks.refl _ w).set g _ _ rfl
  ·obtain ⟨v',w',E,z,f⟩:=run_append_arg_grows (P:=prog) w _ B _ C _ 1 24 underlying112 J n b t rfl ai ⟨g,o,none⟩ (G Z) d Z ae (λj x hx=>aaz) m 1 c [u] rfl a ae jM ae;refine ⟨v',w',E,dA.own (by rw [b6];exact z),⟨f.os,f.tape,f.output,f.size,λk F _=>f.block k F aq⟩,?_⟩;rcases z.2 with ⟨_,M⟩|⟨R,K,H,rfl,r,_⟩
   ·omega
   ·exact Or.inr ⟨R,rfl,r⟩
def rL {b:Array Oper} {rest:List Oper} {o:Oper} {a:Act} {Q:Exit->Act->zW->Prop} (d:o.guard=none) (s x:Operand)
  (p:o.op=.call { callee:=.builtin .append,args:=#[s,x],argTypes:=#[112,112] }) (hs:a.eval s=v) (h:dA w v Z) (m:(G Z)<=1000000) {e:zD} {c:Nat} (k:a.eval x=.slice (some e) 1 c) (n:w.cell? (e.add 0)=some u) (f:u.oneCell'=true)
  (g:∀ v' w',dA w' v' (Z++[u])->Ks (λq=>v.ownBlock=some q) w w'->OZ w v v'->wpList prog b Q rest (a.put o.dst v') w'):wpList prog b Q (o::rest) a w:=by
 obtain ⟨v',w',l,r,j,i⟩:=TA o.type h m n f;exact Lib.wpList_append_run w d s x _ _ p _ _ hs k v' w' l (g v' w' r j i)
def eI {α:Type} (l:List α) (n:Nat):List α:=l.drop (G l - n)
def ER (n:Nat) (m:n<=6) (h:dA w v Z) (p:(G Z)<=1000000):zC prog 153 #[v,zI n] w λr w'=>∃ v',r=.returned v'/\w'=w/\dA w v' (eI Z n)/\(v'.ownBlock=v.ownBlock):=by
 obtain ⟨c,b,rfl,x,u⟩:=h.len;have e:=I h;have l:((G Z):Int)<=1000000:=a6.2 p;have s:(n:Int)<=6:=a6.2 m;rcases cC n (G Z) with a|a
 ·have i:(n:Int)<((G Z):Int):=iD.2 a;have g:=I (h.drop (k:=G Z - n) (Nat.sub_le _ _));by_cases t:b=G Z - n
  ·have q:n=0:=ae;subst q;have d:Hid (dA w (.slice c 0 0) (eI Z 0)/\(Value.slice c 0 0).ownBlock=(Value.slice c (G Z) b).ownBlock):=I (by
    have:=h.aih (k:=G Z - 0) ae;rw [show (G Z) - (G Z - 0)=0 from ae] at this;exact this)
   subst t;clear h g e;go_in;go_wp2_with fail;go_ret;exact ⟨_,rfl,rfl,d.o⟩
  ·clear h e;go_in;go_wp2_with fail;go_ret;exact ⟨_,rfl,rfl,g.o⟩
 ·have j:((G Z):Int)<=(n:Int):=a6.2 a;have f:Hid (eI Z n=Z):=I (by unfold eI;rw [Nat.sub_eq_zero_of_le a];rfl);have o:Hid (dA w (.slice c (G Z) b) (eI Z n)):=I (by rw [f.o];exact h);clear h f;go_in;go_wp2_with fail;go_ret;exact ⟨_,rfl,rfl,o.o,rfl⟩
end
end Go.Proofs.YtihgojcfpnhelaaGreatDoor
