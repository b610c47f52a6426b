import Derived.Test.YtihgojcfpnhelaaGreatDoorQj
import Derived.Test.YtihgojcfpnhelaaGreatDoorNa
import Derived.Test.YtihgojcfpnhelaaGreatDoorNg
set_option maxRecDepth 100000
set_option maxHeartbeats 4000000
set_option linter.all false
namespace Go.Proofs.YtihgojcfpnhelaaGreatDoor
open Go renaming World->zW,Value->zV,Calls->zC,Addr->zD
open Go.RowKit Go.Proofs.Tryz
open List renaming length→G
def Cv (e:Nat) (a:Option zD) (l c:Nat) (f:Option zD) (d b:Nat) (v1 v2 v3 v4 v5:zV) (te:TypeId) (w:zW) (i:w.heap[e]?=some (.cells #[.slice a l c,v1,v2,v3,v4,v5] te (0,0))) :
  zC prog 163 #[zJ e,.slice f d b] w λr w'=>∃ g h,r=.returned (.func (.func 192) #[] #[zJ g,zJ h])/\w'.heap[e]?=some (.cells #[.slice f d b,v1,v2,v3,v4,v5] te (0,0))/\Ks (λq=>q=e) w w'/\w.heap.size<=g/\w.heap.size<=h/\w'.heap[g]?=some (.cells #[zJ e] 253 (0,0))/\w'.heap[h]?=some (.cells #[.slice a l c] 101 (0,0)):=by
 obtain ⟨⟨j,_,_,_,_,_⟩,⟨z0,_,_,_,_,_⟩,od⟩:=bJ i;refine (U8 e 0 a l c f d b w j z0 od).m ?_;rintro r w' ⟨rfl,rfl⟩;refine ⟨_,_,rfl,?_,(((Ks.refl (λq=>q=e) w).set e 0 _ rfl).alloc _).alloc _,aG _,ae,?_,?_⟩
 ·rw [cj _ _ _ aN,cj _ _ _ Og,aj i];rfl
 ·have:=fX (w.setCell ⟨e,0,none⟩ (.slice f d b)) #[zJ e] 253 (.cells #[.slice a l c] 101);simpa using this
 ·have:=bc (w.setCell ⟨e,0,none⟩ (.slice f d b)) (.cells #[zJ e] 253) #[.slice a l c] 101;simpa using this
structure FrW (S:Nat->Prop) (e c:Nat) (a:Option zD) (fs:List (Nat × Fd)) (x:By) (p:Pt) (v1 v2 v3 v4 v5:zV) (te:TypeId) (w w3:zW) (b g cap g1 g2:Nat):Prop where
 sh:Sh w3 (λq=>S q\/q=g) (some ⟨g,0,none⟩) (fs++[(b,⟨x,p,(0,0)⟩)])
 hb:w.heap.size<=b
 hg:w.heap.size<=g
 cp:(G fs)+1<=cap
 row:w3.heap[e]?=some (.cells #[zS g (G fs+1) cap,v1,v2,v3,v4,v5] te (0,0))
 ks:Ks (λq=>q=e) w w3
 hg1:w.heap.size<=g1
 hg2:w.heap.size<=g2
 hc1:w3.heap[g1]?=some (.cells #[zJ e] 253 (0,0))
 hc2:w3.heap[g2]?=some (.cells #[.slice a (G fs) c] 101 (0,0))
def xr (e c:Nat) (a:Option zD) (fs:List (Nat × Fd)) (b:Nat) (Q:Option zD->Nat->Nat->zV->Int->zW->Prop) (f:zW):Prop:=
 zC prog 164 #[.slice (some ⟨f.heap.size+1,0,none⟩) 2 2] ((f.alloc (.cells #[zJ b] 220)).alloc (.cells #[.slice a (G fs) c,zS f.heap.size 1 1] 101)).drew λr w2=>∃ g d,r=.returned (zS g (G fs+1) d) /\
  zC prog 163 #[zJ e,zS g (G fs+1) d] w2 λr w3=>∃ h i,r=.returned (.func (.func 192) #[] #[zJ h,zJ i]) /\
   zC prog 161 #[zJ e,zJ b,.func (.func 192) #[] #[zJ h,zJ i]] w3 λr w4=>∃ (j:Option zD) (ln cn:Nat) (bk:zV) (er:Int),r=.returned (.tuple #[.slice j ln cn,bk,zI er])/\Q j ln cn bk er w4
def Qu {S:Nat->Prop} (e c:Nat) (a:Option zD) (fs:List (Nat × Fd)) (x:By) (p:Pt) (b:Nat) (v1 v2 v3 v4 v5:zV) (te:TypeId) (w l:zW) (Q:Option zD->Nat->Nat->zV->Int->zW->Prop) (hs:Sh w S a fs) (s:zB w l) (he:w.heap[e]?=some (.cells #[.slice a (G fs) c,v1,v2,v3,v4,v5] te (0,0))) (hf:fB l S b ⟨x,p,(0,0)⟩) (W:w.heap.size<=b) (agT:l.heap.size=w.heap.size+2) (hl:(G fs)<10) (hef:∀ f,f∈fs->f.1≠e) (V:¬ S e) (ha:a=none->c=0)
  (hSt:∀ g u L N w3,FrW S e c a fs x p v1 v2 v3 v4 v5 te w w3 b g u L N->zC prog 161 #[zJ e,zJ b,.func (.func 192) #[] #[zJ L,zJ N]] w3 λr w4=>∃ (an:Option zD) (ln cn:Nat) (bk:zV) (er:Int),r=.returned (.tuple #[.slice an ln cn,bk,zI er])/\Q an ln cn bk er w4) :
  xr e c a fs b Q l:=by
 have od:e<w.heap.size:=(cz.1 he).1;have m:zB l ((l.alloc (.cells #[zJ b] 220)).alloc (.cells #[.slice a (G fs) c,zS l.heap.size 1 1] 101)).drew:=(aY l _ _).drew;have D:((l.alloc (.cells #[zJ b] 220)).alloc (.cells #[.slice a (G fs) c,zS l.heap.size 1 1] 101)).drew.heap[l.heap.size+1]?=some (.cells #[.slice a (G fs) c,zS l.heap.size 1 1] 101 (0,0)):=bc l _ _ _;have H:((l.alloc (.cells #[zJ b] 220)).alloc (.cells #[.slice a (G fs) c,zS l.heap.size 1 1] 101)).drew.heap[l.heap.size]?=some (.cells #[zJ b] 220 (0,0)):=fX l _ _ _;have JY:((l.alloc (.cells #[zJ b] 220)).alloc (.cells #[.slice a (G fs) c,zS l.heap.size 1 1] 101)).drew.heap.size=l.heap.size+2:=aq;unfold xr;generalize ((l.alloc (.cells #[zJ b] 220)).alloc (.cells #[.slice a (G fs) c,zS l.heap.size 1 1] 101)).drew=U at *;have F:=(hs.next s).next m;have C:b9 [fs,[(b,⟨x,p,(0,0)⟩)]]=fs++[(b,⟨x,p,(0,0)⟩)]:=by simp [b9]
 refine (rK [fs,[(b,⟨x,p,(0,0)⟩)]] [.slice a (G fs) c,zS l.heap.size 1 1] (l.heap.size+1) 2 U rfl ae (λi hi=>?_) (by rw [C];simp;omega) aq).m ?_
 ·rcases (show i=0\/i=1 from zM) with rfl|rfl
  ·refine ⟨(bq _ _ 0 _ _ _ D).t rfl,a,c,rfl,ha,λj hj=>?_⟩;obtain ⟨g,o,A,Z,h3⟩:=F.ptr j hj;exact ⟨g,o,A,F.still g Z,h3⟩
  ·refine ⟨(bq _ _ 1 _ _ _ D).t rfl,some ⟨l.heap.size,0,none⟩,1,rfl,λh=>ir,λj hj=>?_⟩;obtain rfl:j=0:=G0;exact ⟨l.heap.size,0,rfl,ae,(bq _ _ 0 _ _ _ H).t rfl⟩
 ·rintro r w2 ⟨v,rfl,n,K⟩;rw [C] at n;have E:(fs++[(b,(⟨x,p,(0,0)⟩:Fd))]).length=G fs+1:=aq;obtain ⟨g,u,rfl,hg,xE⟩:=n.form (by rw [E];omega);rw [E];refine ⟨g,u,rfl,?_⟩;have d:zB w w2:=s.t ((m.t (K.m m.size)).m s.size);refine (Cv e a (G fs) c (some ⟨g,0,none⟩) (G fs+1) u v1 v2 v3 v4 v5 te w2 ((d.block e od).t he)).m ?_;rintro r w3 ⟨L,N,rfl,he3,t,Y,hg2,hc1,hc2⟩;refine ⟨L,N,rfl,?_⟩;have M:(G fs)+1<=u:=by
   rcases n.2 with ⟨A,_⟩|⟨g',cap',cur,A,_,_,Z,_⟩
   ·simp at A
   ·simp at A;omega
  have R:Sh w2 (λq=>S q\/∃ o,(some ⟨g,0,none⟩:Option zD)=some ⟨q,o,none⟩) (some ⟨g,0,none⟩) (fs++[(b,⟨x,p,(0,0)⟩)]):=by
   have T:=hs.next d;refine Sh.afC (B:=U.heap.size) T.still (λy J=>?_) n (λy J=>?_)
   ·rcases cG.1 J with h|h
    ·exact T.bX y h
    ·obtain rfl:y=(b,⟨x,p,(0,0)⟩):=jP;exact hf.next (hs.next s).still (m.t (K.m m.size))
   ·rcases cG.1 J with h|h
    ·have:=(F.bX y h).lt;exact this
    ·obtain rfl:y=(b,⟨x,p,(0,0)⟩):=jP;have:=hf.lt;show b<U.heap.size;omega
  have P:∀ q,(S q\/∃ o,(some ⟨g,0,none⟩:Option zD)=some ⟨q,o,none⟩)->q≠e:=by
   rintro q (h|⟨o,h⟩) hq
   ·exact V (hq▸h)
   ·have A:g=q:=by injection h with h;injection h
    have:=s.size;have:=m.size;omega
  have hne:∀ y,y∈fs++[(b,(⟨x,p,(0,0)⟩:Fd))]->y.1≠e:=λy J=>by
   rcases cG.1 J with h|h
   ·exact hef y h
   ·obtain rfl:y=(b,⟨x,p,(0,0)⟩):=jP;show b≠e;omega
  have z:=R.ks t (λq hq h=>P q hq h) (λy J h=>hne y J h);have hgw:w.heap.size<=g:=by
   have:=s.size;have:=m.size;omega
  have X:∀ q,(S q\/∃ o,(some ⟨g,0,none⟩:Option zD)=some ⟨q,o,none⟩)↔(S q\/q=g):=λq=>by
   constructor
   ·rintro (h|⟨o,h⟩)
    ·exact Or.inl h
    ·injection h with h;injection h with A Z;exact Or.inr A.symm
   ·rintro (h|rfl)
    ·exact Or.inl h
    ·exact Or.inr ⟨0,rfl⟩
  have O:Sh w3 (λq=>S q\/q=g) (some ⟨g,0,none⟩) (fs++[(b,⟨x,p,(0,0)⟩)]):=by
   have e1:(λq=>S q\/∃ o,(some ⟨g,0,none⟩:Option zD)=some ⟨q,o,none⟩)=λq=>S q\/q=g:=funext λq=>propext (X q);rw [e1] at z;exact z
  exact hSt g u L N w3 ⟨O,W,hgw,M,he3,⟨t.os.t d.os,t.tape.t d.tape,t.output.t d.output,bf d.size t.size,λk hk hn=>(t.block k (bG hk d.size) hn).t (d.block k hk)⟩,bf d.size Y,bf d.size hg2,hc1,hc2⟩
def Tx {S:Nat->Prop} (e c:Nat) (a:Option zD) (fs:List (Nat × Fd)) (x:By) (p:Pt) (d:Option zD) (i j:Nat) (v1 v2 v3 v4 v5:zV) (te:TypeId) (w:zW) (Q:Option zD->Nat->Nat->zV->Int->zW->Prop) (hs:Sh w S a fs) (K:w.heap[e]?=some (.cells #[.slice a (G fs) c,v1,v2,v3,v4,v5] te (0,0))) (hl:(G fs)<10) (B:∀ f,f∈fs->f.1≠e) (s:¬ S e) (ha:a=none->c=0)
  (V:dR w S p d i j) (A:Shape p) (t:Good p) (u:(txt p).length<=100) (n:findF fs x=none)
  (E:∀ b g J N O w3,FrW S e c a fs x p v1 v2 v3 v4 v5 te w w3 b g J N O->zC prog 161 #[zJ e,zJ b,.func (.func 192) #[] #[zJ N,zJ O]] w3 λr w4=>∃ (o:Option zD) (ln cn:Nat) (bk:zV) (er:Int),r=.returned (.tuple #[.slice o ln cn,bk,zI er])/\Q o ln cn bk er w4) :
  zC prog 133 #[zJ e,zG x,.agg #[zI p.k,zG p.nm,zI p.n,.slice d i j]] w λr w4=>∃ (o:Option zD) (ln cn:Nat) (bk:zV) (er:Int),r=.returned (.tuple #[.slice o ln cn,bk,zI er])/\Q o ln cn bk er w4:=by
 have C:e<w.heap.size:=(cz.1 K).1;obtain ⟨⟨e0,e1,e2,e3,e4,e5⟩,⟨z0,z1,z2,z3,z4,z5⟩,_⟩:=bJ K;have T:=I K;have z:=I hs;have R:=I (show ∀ W,zB w W->zC prog 137 #[zJ e,zG x] W λr w'=>r=.returned (.pointer none)/\W=w' from λW X=>by
  have:=kQ x e c a fs W (hs.next X) ((X.cell (p:=⟨e,0,none⟩) C).t e0) ae;rw [iQ,n] at this;exact this)
 have h10:(((G fs):Int) == 10)=false:=bo.2 ae;clear hs K;go_in;go_wp2_with (go_at_call 137;refine (R.o _ agC).m ?_;rintro r w1 ⟨rfl,rfl⟩);have k:=I (aY w (.cells #[zI p.k,zG p.nm,zI p.n,.slice d i j] 89) (.cells #[zG x,zI p.k,zG p.nm,zI p.n,.slice d i j,zI 0,zI 0] 223));have P:=I (bc w (.cells #[zI p.k,zG p.nm,zI p.n,.slice d i j] 89) #[zG x,zI p.k,zG p.nm,zI p.n,.slice d i j,zI 0,zI 0] 223);have m:((w.alloc (.cells #[zI p.k,zG p.nm,zI p.n,.slice d i j] 89)).alloc (.cells #[zG x,zI p.k,zG p.nm,zI p.n,.slice d i j,zI 0,zI 0] 223)).heap.size=w.heap.size+2:=aq;generalize ((w.alloc (.cells #[zI p.k,zG p.nm,zI p.n,.slice d i j] 89)).alloc (.cells #[zG x,zI p.k,zG p.nm,zI p.n,.slice d i j,zI 0,zI 0] 223))=Z at *;obtain ⟨⟨u0,u1,u2,u3,u4,u5⟩,⟨t0,t1,t2,t3,t4,t5⟩,Y⟩:=bJ ((k.o.block e C).t T.o);generalize L:w.heap.size+1=b at *;have U:∀ y,y∈fs->y.1≠b:=λy hy=>by have:=(z.o.bX y hy).lt;omega
 have M:=I (show fB Z S b ⟨x,p,(0,0)⟩ from ⟨λh=>by have:=z.o.still b h;omega,A,t,u,d,i,j,P.o,V.next λq hq=>k.o.block q (z.o.still q hq)⟩);have HS0:=I (z.o.next k.o);have l:=I (Qu e c a fs x p b v1 v2 v3 v4 v5 te w Z Q z.o k.o T.o M.o ae m hl B s ha (E b));clear E B s V A t u n R m;unfold xr at l;go_wp2_with fail
 go_region_with (first|(go_at_call 164;refine l.o.m ?_;rintro r w2 ⟨g,J,rfl,F⟩;have C2:=I F;clear F)|(go_at_call 163;refine C2.o.m ?_;rintro r w3 ⟨N,O,rfl,D⟩;have C3:=I D;clear D)|(go_at_call 161;refine C3.o.m ?_;rintro r w4 ⟨o,ln,cn,bk,er,rfl,H⟩;have C4:=I H;clear H))
 all_goals go_wp2
 all_goals refine aK (v:=.tuple #[.slice o ln cn,bk,zI er]) ND gN ?_
 all_goals exact ⟨o,ln,cn,bk,er,rfl,C4.o⟩
section
variable {w w':zW} {S S':Nat->Prop} {e b:Nat} {D:Nat->Prop} {σ:bg} {v1 v2 v3 v4 v5:zV} {te:TypeId}
def cK.lt (h:cK w S e D σ v1 v2 v3 v4 v5 te):e<w.heap.size:=by
 obtain ⟨a,c,_,_,_,b⟩:=h.row;exact (cz.1 b).1
def fB.more {f:Fd} (h:fB w S b f) (hs:∀ q,S q->S' q) (d:¬ S' b):fB w S' b f:=by
 obtain ⟨_,i,k,e,a,l,c,j,g⟩:=h;exact ⟨d,i,k,e,a,l,c,j,g.wide hs⟩
def iy {P:Nat->Prop} {w w':zW} {base z n:Nat} {e:TypeId} {v:zV} {xs:List zV} (h:w.ownsRow base e z v n xs) (l:Ks P w w') (d:∀ q,v.ownBlock=some q->¬ P q):w'.ownsRow base e z v n xs:=by
 obtain ⟨f,i⟩:=h;refine ⟨f,i.imp id ?_⟩;rintro ⟨g,a,b,rfl,j,c,k⟩;exact ⟨g,a,b,rfl,j,(l.block g (cz.1 c).1 (d g rfl)).t c,k⟩
def cK.Bb (h:cK w S e D σ v1 v2 v3 v4 v5 te) (k:D b) (f:Fd) (m:fB w' S' b f) (hk:Ks (λq=>q=b) w w') (j:∀ q,S q->S' q) (hS':∀ q,S' q->S q\/(w.heap.size<=q/\q<w'.heap.size)):cK w' S' e D (σ.put b f) v1 v2 v3 v4 v5 te:=by
 have g:=h.lt;have i:e≠b:=λd=>h.eD (d▸k);have blk:∀ q,S q->w'.heap[q]?=w.heap[q]?:=λq hq=>hk.block q (h.still q hq) (λd=>(h.bX b k).1 (d▸hq));refine ⟨λq hq=>?_,λhq=>?_,h.eD,λq hq=>?_,h.sub,?_⟩
 ·exact X2
 ·exact Zg
 ·by_cases d:q=b
  ·subst d;rw [fN];exact m
  ·rw [dM _ _ _ _ d];have hq':=h.bX q hq;refine (hq'.stays (hk.block q hq'.lt d) blk).more j λh1=>?_;exact YE
 ·obtain ⟨a,c,h1,h2,n,l⟩:=h.row;exact ⟨a,c,(h1.next blk).wide j,h2,n,(hk.block e g i).t l⟩
def cK.ad5 (h:cK w S e D σ v1 v2 v3 v4 v5 te) (l:List Nat) (a:Option zD) (c:Nat) (m:∀ b,b∈l->D b) (k:jQ w S a l) (n:(G l)<=c) (j:a=none->c=0) (g:w'.heap[e]?=some (.cells #[.slice a (G l) c,v1,v2,v3,v4,v5] te (0,0))) (hk:Ks (λq=>q=e) w w') (f:∀ q,S q->S' q) (hS':∀ q,S' q->S q\/(w.heap.size<=q/\q<w'.heap.size)):cK w' S' e D ⟨l,σ.mem⟩ v1 v2 v3 v4 v5 te:=by
 have i:=h.lt;have blk:∀ q,S q->w'.heap[q]?=w.heap[q]?:=λq hq=>hk.block q (h.still q hq) (λd=>h.eS (d▸hq));refine ⟨λq hq=>?_,λhq=>?_,h.eD,λq hq=>?_,m,a,c,(k.next blk).wide f,n,j,g⟩
 ·exact X2
 ·exact Zg
 ·have hq':=h.bX q hq;refine (hq'.stays (hk.block q hq'.lt (λd=>h.eD (d▸hq))) blk).more f λh1=>?_;exact YE
def cK.next (h:cK w S e D σ v1 v2 v3 v4 v5 te) (d:zB w w'):cK w' S e D σ v1 v2 v3 v4 v5 te:=by
 obtain ⟨a,c,f,i,j,g⟩:=h.row;exact ⟨λq b=>bG (h.still q b) d.size,h.eS,h.eD,λq b=>(h.bX q b).next h.still d,h.sub,a,c,f.next (λq b=>d.block q (h.still q b)),i,j,(d.block e h.lt).t g⟩
def cK.same (h:cK w S e D σ v1 v2 v3 v4 v5 te) (d:∀ q,(S q\/q=e\/D q)->w'.heap[q]?=w.heap[q]?) (hs:w.heap.size<=w'.heap.size):cK w' S e D σ v1 v2 v3 v4 v5 te:=by
 obtain ⟨a,c,f,i,j,g⟩:=h.row;exact ⟨λq b=>bG (h.still q b) hs,h.eS,h.eD,λq b=>(h.bX q b).stays (d q (Or.inr (Or.inr b))) λq b=>d q (Or.inl b),h.sub,a,c,f.next (λq b=>d q (Or.inl b)),i,j,(d e (Or.inr (Or.inl rfl))).t g⟩
def cO.later {N:Nat} {cs:Array zV} {us:List Wr} (h:cO e D w S N cs us) (a:∀ q,S q->q<w.heap.size) (c:zB w w'):cO e D w' S N cs us:=h.next λq b=>c.block q (a q b)
def cK.notP (h:cK w S e D σ v1 v2 v3 v4 v5 te):∀ q,S q->¬ (q=e\/D q):=λq b a=>by
 rcases a with rfl|a
 ·exact h.eS b
 ·exact (h.bX q a).1 b
def S2 (S:Nat->Prop) (b a:Nat) (q:Nat):Prop:=S q\/q=b\/q=a
def gY {b a:Nat} (q:Nat) (h:S q):S2 S b a q:=Or.inl h
def uJ {a b:Nat} {c1 c2:Array zV} {t1 t2:TypeId} {j i:Nat × Nat} (e:w.heap.size<=a) (g:w.heap.size<=b) (d:w'.heap[a]?=some (.cells c1 t1 j)) (f:w'.heap[b]?=some (.cells c2 t2 i)) (q:Nat) (h:S2 S a b q):S q\/(w.heap.size<=q/\∃ c t z,w'.heap[q]?=some (.cells c t z)):=by
 rcases h with h|rfl|rfl
 ·exact Or.inl h
 ·exact Or.inr ⟨e,_,_,_,d⟩
 ·exact Or.inr ⟨g,_,_,_,f⟩
def Cu {a b:Nat} {c1 c2:Array zV} {t1 t2:TypeId} {i g:Nat × Nat} (d:w.heap.size<=a) (f:w.heap.size<=b) (c:w'.heap[a]?=some (.cells c1 t1 i)) (e:w'.heap[b]?=some (.cells c2 t2 g)) (q:Nat) (h:S2 S a b q):S q\/(w.heap.size<=q/\q<w'.heap.size):=by
 rcases h with h|rfl|rfl
 ·exact Or.inl h
 ·exact Or.inr ⟨d,(cz.1 c).1⟩
 ·exact Or.inr ⟨f,(cz.1 e).1⟩
def Hf (h:cK w S e D σ v1 v2 v3 v4 v5 te) (l:List Nat) (a:Option zD) (c:Nat) (y:∀ b,b∈l->D b) (v:jQ w S a l) (B:(G l)<=c) (t:a=none->c=0) :
  zC prog 163 #[zJ e,.slice a (G l) c] w (gX S e D σ [.ord l] v1 v2 v3 v4 v5 te w):=by
 obtain ⟨o,c0,s,u,A,z⟩:=h.row;refine (Cv e o σ.ord.length c0 a (G l) c v1 v2 v3 v4 v5 te w z).m ?_;rintro r w' ⟨k,n,rfl,p,i,j,m,g,f⟩;have blk:∀ q,S q->w'.heap[q]?=w.heap[q]?:=λq d=>i.block q (h.still q d) (λx=>h.eS (x▸d));refine ⟨_,_,S2 S k n,rfl,gY,uJ j m g f,h.ad5 l a c y v B t p i gY (Cu j m g f),?_,i.wide λq d=>Or.inl d⟩;exact .ord k n o c0 σ.ord (Or.inr (Or.inl rfl)) (Or.inr (Or.inr rfl)) g f ((s.next blk).wide gY) u A h.sub
def fB.open {f:Fd} (h:fB w S b f):∃ (a:Option zD) (l c:Nat),w.heap[b]?=some (.cells #[zG f.nm,zI f.p.k,zG f.p.nm,zI f.p.n,.slice a l c,zI f.v.1,zI f.v.2] 223 (0,0))/\dR w S f.p a l c:=h.2.2.2.2
def aa2 (h:cK w S e D σ v1 v2 v3 v4 v5 te) (hb:D b) (p:Pt) (a:Option zD) (l c:Nat) (z:dR w S p a l c) (m:Shape p) (g:Good p) (i:(txt p).length<=100) :
  zC prog 162 #[.pointer (some ⟨b,1,none⟩),.agg #[zI p.k,zG p.nm,zI p.n,.slice a l c]] w (gX S e D σ [.rl b p] v1 v2 v3 v4 v5 te w):=by
 have hF:=h.bX b hb;have j:=hF;obtain ⟨f1,f2,f3,f4,v,u,c0,A,B⟩:=hF;refine (JO b _ _ _ _ _ _ v u c0 p.k p.nm p.n a l c _ w A).m ?_;rintro r w' ⟨x,t,rfl,o,s,_,k,f,d,n⟩;have blk:∀ q,S q->w'.heap[q]?=w.heap[q]?:=λq hq=>n.block q (h.still q hq) (λy=>f1 (y▸hq));have C:=j.lt;refine ⟨_,_,S2 S x t,rfl,gY,uJ o s k f,h.Bb hb _ ⟨?_,m,g,i,a,l,c,d,(z.next blk).wide gY⟩ n gY (Cu o s k f),?_,n.wide λq hq=>Or.inr NJ⟩
 ·exact M9
 ·exact .rl x t b _ v u c0 (Or.inr (Or.inl rfl)) (Or.inr (Or.inr rfl)) k f ((B.next blk).wide gY) f2 f3 f4 hb
def Rt (h:cK w S e D σ v1 v2 v3 v4 v5 te) (hb:D b) (v:Vl) {g:Option zD} {d c0:Nat} (m:w.heap[b]?=some (.cells #[.string ⟨(σ.mem b).nm.toArray⟩,zI ((σ.mem b).p.k:Int),.string ⟨(σ.mem b).p.nm.toArray⟩,zI ((σ.mem b).p.n:Int),.slice g d c0,zI (σ.mem b).v.1,zI (σ.mem b).v.2] 223 (0,0))) (p:dR w S (σ.mem b).p g d c0) :
  zC prog 196 #[.pointer (some ⟨b,5,none⟩),.agg #[zI v.1,zI v.2]] w λr w'=>gX S e D σ [.vl b v] v1 v2 v3 v4 v5 te w r w'/\w'.heap[b]?=some (.cells #[.string ⟨(σ.mem b).nm.toArray⟩,zI ((σ.mem b).p.k:Int),.string ⟨(σ.mem b).p.nm.toArray⟩,zI ((σ.mem b).p.n:Int),.slice g d c0,zI v.1,zI v.2] 223 (0,0)):=by
 have hF:=h.bX b hb;obtain ⟨f1,f2,f3,f4,_⟩:=hF;obtain ⟨⟨t,u,x,z,y,s,n⟩,a,c⟩:=fP m;refine (Tg b _ _ v.1 v.2 w s n (a 5) (a 6) c).m ?_;rintro r w' ⟨rfl,rfl⟩;have k:Ks (λq=>q=b) w ((((w.setCell ⟨b,5,none⟩ (zI v.1)).setCell ⟨b,6,none⟩ (zI v.2)).alloc (.cells #[.pointer (some ⟨b,5,none⟩)] 287)).alloc (.cells #[zI v.1,zI v.2] 177)|>.alloc (.cells #[zI (σ.mem b).v.1,zI (σ.mem b).v.2] 177)):=(((((Ks.refl (λq=>q=b) w).set b 5 _ rfl).set b 6 _ rfl).alloc _).alloc _).alloc _;have f:=EJ ((w.setCell ⟨b,5,none⟩ (zI v.1)).setCell ⟨b,6,none⟩ (zI v.2)) (.cells #[.pointer (some ⟨b,5,none⟩)] 287) (.cells #[zI v.1,zI v.2] 177) (.cells #[zI (σ.mem b).v.1,zI (σ.mem b).v.2] 177);have i:=fZ ((w.setCell ⟨b,5,none⟩ (zI v.1)).setCell ⟨b,6,none⟩ (zI v.2)) (.cells #[.pointer (some ⟨b,5,none⟩)] 287) (.cells #[zI v.1,zI v.2] 177) #[zI (σ.mem b).v.1,zI (σ.mem b).v.2] 177;have j:=zU ((w.setCell ⟨b,5,none⟩ (zI v.1)).setCell ⟨b,6,none⟩ (zI v.2)) (.cells #[.pointer (some ⟨b,5,none⟩)] 287) (.cells #[zI v.1,zI v.2] 177) (.cells #[zI (σ.mem b).v.1,zI (σ.mem b).v.2] 177) b (by simpa using c);rw [aj (aj m _ _)] at j;simp only [World.size_setCell] at f i;generalize ((((w.setCell ⟨b,5,none⟩ (zI v.1)).setCell ⟨b,6,none⟩ (zI v.2)).alloc (.cells #[.pointer (some ⟨b,5,none⟩)] 287)).alloc (.cells #[zI v.1,zI v.2] 177)|>.alloc (.cells #[zI (σ.mem b).v.1,zI (σ.mem b).v.2] 177))=w' at *;have blk:∀ q,S q->w'.heap[q]?=w.heap[q]?:=λq hq=>k.block q (h.still q hq) (λo=>f1 (o▸hq));have l:w.heap.size<=w.heap.size+1+1:=ae;refine ⟨⟨_,_,S2 S w.heap.size (w.heap.size+1+1),rfl,gY,uJ (aG _) l f i,h.Bb hb _ ⟨?_,f2,f3,f4,g,d,c0,j,(p.next blk).wide gY⟩ k gY (Cu (aG _) l f i),?_,k.wide λq hq=>Or.inr NJ⟩,j⟩
 ·exact M9
 ·exact .vl _ _ b _ (Or.inr (Or.inl rfl)) (Or.inr (Or.inr rfl)) f i hb
def ahT (h:cK w S e D σ v1 v2 v3 v4 v5 te) (a:D b) (v:Vl) :
  zC prog 196 #[.pointer (some ⟨b,5,none⟩),.agg #[zI v.1,zI v.2]] w (gX S e D σ [.vl b v] v1 v2 v3 v4 v5 te w):=by
 obtain ⟨_,_,_,_,f,g,c0,c,d⟩:=h.bX b a;exact (Rt h a v c d).m λ_ _ h=>h.1
def aa3 (q:Nat) (x a:By) (w:zW) (b:w.cell? ⟨q,0,none⟩=some (zG x)) (d:w.frozen? ⟨q,0,none⟩=false) (c:q<w.heap.size) :
  zC prog 199 #[zJ q,zG a] w λe w'=>e=.returned (.func (.func 221) #[] #[zJ w.heap.size,.pointer (some ⟨w.heap.size+1,0,none⟩)])/\w'=((w.setCell ⟨q,0,none⟩ (zG a)).alloc (.cells #[zJ q] 291)).alloc (.cells #[zG x] 9):=by
 go_in;go_wp2;go_ret;exact ⟨rfl,rfl⟩
def aa4 (h:cK w S e D σ v1 v2 v3 v4 v5 te) (hb:D b) (x:By) :
  zC prog 199 #[zJ b,zG x] w (gX S e D σ [.nm b x] v1 v2 v3 v4 v5 te w):=by
 have hF:=h.bX b hb;obtain ⟨f1,f2,f3,f4,l,j,c0,k,o⟩:=hF;obtain ⟨⟨m,s,t,z,y,v,u⟩,g,a⟩:=fP k;refine (aa3 b _ x w m (g 0) a).m ?_;rintro r w' ⟨rfl,rfl⟩;have f:Ks (λq=>q=b) w (((w.setCell ⟨b,0,none⟩ (zG x)).alloc (.cells #[zJ b] 291)).alloc (.cells #[.string ⟨(σ.mem b).nm.toArray⟩] 9)):=(((Ks.refl (λq=>q=b) w).set b 0 _ rfl).alloc _).alloc _;have c:=fX (w.setCell ⟨b,0,none⟩ (zG x)) #[zJ b] 291 (.cells #[.string ⟨(σ.mem b).nm.toArray⟩] 9);have d:=bc (w.setCell ⟨b,0,none⟩ (zG x)) (.cells #[zJ b] 291) #[.string ⟨(σ.mem b).nm.toArray⟩] 9;have n:(((w.setCell ⟨b,0,none⟩ (zG x)).alloc (.cells #[zJ b] 291)).alloc (.cells #[.string ⟨(σ.mem b).nm.toArray⟩] 9)).heap[b]?=some (.cells #[zG x,zI ((σ.mem b).p.k:Int),.string ⟨(σ.mem b).p.nm.toArray⟩,zI ((σ.mem b).p.n:Int),.slice l j c0,zI (σ.mem b).v.1,zI (σ.mem b).v.2] 223 (0,0)):=by
  rw [cj _ _ _ aN,cj _ _ _ (by simpa using a),aj k];rfl
 simp only [World.size_setCell] at c d;generalize (((w.setCell ⟨b,0,none⟩ (zG x)).alloc (.cells #[zJ b] 291)).alloc (.cells #[.string ⟨(σ.mem b).nm.toArray⟩] 9))=w' at *;have blk:∀ q,S q->w'.heap[q]?=w.heap[q]?:=λq hq=>f.block q (h.still q hq) (λp=>f1 (p▸hq));have i:w.heap.size<=w.heap.size+1:=ae;refine ⟨_,_,S2 S w.heap.size (w.heap.size+1),rfl,gY,uJ (aG _) i c d,h.Bb hb _ ⟨?_,f2,f3,f4,l,j,c0,n,(o.next blk).wide gY⟩ f gY (Cu (aG _) i c d),?_,f.wide λq hq=>Or.inr NJ⟩
 ·exact M9
 ·exact .nm _ _ b _ (Or.inr (Or.inl rfl)) (Or.inr (Or.inr rfl)) c d hb
end
section
def jt (N:Nat) (cs:Array zV):zV:=.func (.func N) #[] cs
structure gA (S O:Nat->Prop) (e:Nat) (D:Nat->Prop) (σ:bg) (v1 v2 v3 v4 v5:zV) (te:TypeId) (w W:zW) (S1:Nat->Prop) (v:zV) (k:Nat) (U:List Wr) (N:Nat->Nat) (cs:Nat->Array zV) (us:Nat->List Wr):Prop where
 s0:∀ q,S q->S1 q
 s1:∀ q,S1 q->S q\/(O q/\∃ c t z,W.heap[q]?=some (.cells c t z))
 ph:cK W S1 e D (aU U σ) v1 v2 v3 v4 v5 te
 own:W.ownsRow w.heap.size 151 1 v k ((List.range k).map λj=>jt (N j) (cs j))
 ob:∀ q,v.ownBlock=some q->¬ S1 q/\q≠e/\¬ D q
 oo:∀ q,v.ownBlock=some q->O q
 bk:∀ j,j<k->cO e D W S1 (N j) (cs j) (us j)
 inv:(List.range k).reverse.flatMap us=dz U σ
 ks:Ks (λq=>q=e\/D q) w W
variable {S S1 O:Nat->Prop} {e:Nat} {D:Nat->Prop} {σ:bg} {v1 v2 v3 v4 v5:zV} {te:TypeId} {w W Z R:zW} {v v':zV} {k:Nat} {U:List Wr} {N:Nat->Nat} {cs:Nat->Array zV} {us:Nat->List Wr}
def gA.start (h:cK w S e D σ v1 v2 v3 v4 v5 te):gA S O e D σ v1 v2 v3 v4 v5 te w w S (zN) 0 [] (λ_=>0) (λ_=>#[]) (λ_=>[]):=
 ⟨λ_ h=>h,λ_ h=>Or.inl h,h,eW _ _ _ _,λq hq=>pK,λq hq=>pK,λj a=>ae,rfl,Ks.refl _ _⟩
def gA.next (h:gA S O e D σ v1 v2 v3 v4 v5 te w W S1 v k U N cs us) (a:zB W Z):gA S O e D σ v1 v2 v3 v4 v5 te w Z S1 v k U N cs us:=by
 refine ⟨h.s0,λq g=>(h.s1 q g).imp id ?_,h.ph.next a,aZ h.own a,h.ob,h.oo,λj f=>(h.bk j f).later h.ph.still a,h.inv,h.ks.t (Ks.of a)⟩;rintro ⟨d,c,t,z,b⟩;exact ⟨d,c,t,z,(a.block q (cz.1 b).1).t b⟩
def Ks.cells {P:Nat->Prop} {w w':zW} (h:Ks P w w') {q:Nat} {c:Array zV} {t:TypeId} {z:Nat × Nat} (a:w.heap[q]?=some (.cells c t z)) (b:¬ P q):w'.heap[q]?=some (.cells c t z):=(h.block q (cz.1 a).1 b).t a
def gA.step (hO:∀ q,W.heap.size<=q->O q) (h:gA S O e D σ v1 v2 v3 v4 v5 te w W S1 v k U N cs us) {us1:List Wr} {N1:Nat} {cs1:Array zV} {S2:Nat->Prop} (Q:∀ q,S1 q->S2 q) (P:∀ q,S2 q->S1 q\/(W.heap.size<=q/\∃ c t z,Z.heap[q]?=some (.cells c t z))) (n:cK Z S2 e D (aU us1 (aU U σ)) v1 v2 v3 v4 v5 te) (M:cO e D Z S2 N1 cs1 (dz us1 (aU U σ))) (H:Ks (λq=>q=e\/D q) W Z)
  {o:Obj} (G:(Z.alloc o).grownBy R v.ownBlock) (ho:R.ownsRow w.heap.size 151 1 v' (k+1) (((List.range k).map λj=>jt (N j) (cs j))++[jt N1 cs1])) (T:v'.ownBlock=v.ownBlock\/∃ g,v'.ownBlock=some g/\Z.heap.size<=g) :
  gA S O e D σ v1 v2 v3 v4 v5 te w R S2 v' (k+1) (U++us1) (λj=>if j=k then N1 else N j) (λj=>if j=k then cs1 else cs j) (λj=>if j=k then dz us1 (aU U σ) else us j):=by
 have hws:=H.size;have K:=G.size;simp at K;have Y:=h.ks.size;have x:∀ q,v.ownBlock=some q->q<W.heap.size/\w.heap.size<=q:=λq d=>⟨(h.own.lt q d).2,(h.own.lt q d).1⟩;have F:∀ q,v.ownBlock=some q->¬ S2 q:=λq d C=>by
  rcases P q C with p|p
  ·exact (h.ob q d).1 p
  ·have:=(x q d).1;omega
 have blk:∀ q,q<Z.heap.size->v.ownBlock≠some q->R.heap[q]?=Z.heap[q]?:=λq d E=>by
  rw [G.block q aN (λu=>E u.symm),cj _ _ _ d]
 have i:∀ q,S2 q->R.heap[q]?=Z.heap[q]?:=λq d=>blk q (n.still q d) λu=>F q u d;have y:Ks (λq=>v.ownBlock=some q) Z R:=⟨G.os,G.tape,G.output,ae,λq d E=>blk q d E⟩;have A:v.ownBlock≠some e:=λm=>(h.ob e m).2.1 rfl;have J:cK R S2 e D (aU (U++us1) σ) v1 v2 v3 v4 v5 te:=by
  rw [lH];obtain ⟨a,c,r1,r2,r3,r4⟩:=n.row;refine ⟨λq d=>bG (n.still q d) ae,n.eS,n.eD,λb B=>(n.bX b B).stays (blk b (n.bX b B).lt λm=>(h.ob b m).2.2 B) i,n.sub,a,c,r1.next i,r2,r3,(blk e n.lt A).t r4⟩
 refine ⟨λq d=>Q q (h.s0 q d),λq d=>?_,J,?_,λq d=>?_,λq d=>?_,λj hj=>?_,?_,?_⟩
 ·rcases P q d with m|⟨m,c,t,z,C⟩
  ·rcases h.s1 q m with p|⟨p,c,t,z,V⟩
   ·exact Or.inl p
   ·refine Or.inr ⟨p,c,t,z,(i q d).t ((H.block q (cz.1 V).1 ?_).t V)⟩;rintro (rfl|L)
    ·exact n.eS d
    ·exact (n.bX q L).1 d
  ·exact Or.inr ⟨hO q m,c,t,z,(i q d).t C⟩
 ·have:((List.range (k+1)).map λj=>jt (if j=k then N1 else N j) (if j=k then cs1 else cs j))=((List.range k).map λj=>jt (N j) (cs j))++[jt N1 cs1]:=by
   rw [wB,fK];congr 1
   ·refine sB λj hj=>?_;have:j≠k:=aaK;simp [this]
   ·simp
  rw [this];exact ho
 ·rcases T with m|⟨g,m,C⟩
  ·rw [m] at d;exact ⟨F q d,(h.ob q d).2⟩
  ·rw [m] at d;cases d;refine ⟨λp=>?_,λp=>?_,λp=>?_⟩
   ·have:=n.still _ p;omega
   ·have:=n.lt;omega
   ·have:=(n.bX _ p).lt;omega
 ·rcases T with m|⟨g,m,C⟩
  ·rw [m] at d;exact h.oo q d
  ·rw [m] at d;cases d;exact hO _ ae
 ·by_cases u:j=k
  ·simp only [u,jq];exact M.next i
  ·simp only [u,k8];have B:=((h.bk j ae).next (w':=Z) λq d=>H.block q (h.ph.still q d) (by
    rintro (rfl|L)
    ·exact h.ph.eS d
    ·exact (h.ph.bX q L).1 d)).wide Q (λ_ h=>h)
   exact B.next i
 ·rw [wB,rj,yo,EI];congr 1
  ·simp
  ·rw [<- h.inv];refine JP _ _ _ λj hj=>?_;have:j≠k:=by have:=List.mem_range.1 (wy.1 hj);omega
   simp [this]
 ·have s:=h.ks.t H;refine ⟨y.os.t s.os,y.tape.t s.tape,y.output.t s.output,ae,λq d E=>?_⟩;rw [blk q ae (λu=>by have:=(x q u).2;omega)];exact s.block q d E
 where
 JP (l:List Nat) (f g:Nat->List Wr) (h:∀ j,j∈l->f j=g j):l.flatMap f=l.flatMap g:=by
  induction l with
  | nil=>rfl
  | cons a r X=>simp only [sD,h a aq,X λj hj=>h j (by simp [hj])]
def cK.wide {S':Nat->Prop} (h:cK w S e D σ v1 v2 v3 v4 v5 te) (i:∀ q,S q->S' q) (f:∀ q,S' q->S q\/(q<w.heap.size/\q≠e/\¬ D q)):cK w S' e D σ v1 v2 v3 v4 v5 te:=by
 obtain ⟨a,c,l,m,k,j⟩:=h.row;refine ⟨λq d=>(f q d).elim (h.still q) λh=>h.1,λd=>(f e d).elim h.eS λh=>h.2.1 rfl,h.eD,λb g=>(h.bX b g).more i λd=>(f b d).elim (h.bX b g).1 λh=>h.2.2 g,h.sub,a,c,l.wide i,m,k,j⟩
def gA.all (hk8:k*8<=140737488355328) (hO:∀ q,W.heap.size<=q->O q) (h:gA S O e D σ v1 v2 v3 v4 v5 te w W S1 v k U N cs us):zC prog 72 #[v] W λr w'=>qG S O e D σ U v1 v2 v3 v4 v5 te w r w'/\zB W w':=by
 have t:=h.ks.size;obtain ⟨a,l,c,rfl⟩:=b7 h.own;refine (Ru a l c W).m ?_;rintro r w' ⟨rfl,rfl⟩;have s:zB W (W.alloc (.cells #[.slice a l c] 104)):=(aM _ _).alloc (aG _) _;have b:=bL W (.cells #[.slice a l c] 104);have f:∀ q,S1 q->(S1 q\/q=W.heap.size\/(Value.slice a l c).ownBlock=some q):=λq hq=>Or.inl hq;have n:∀ q,(Value.slice a l c).ownBlock=some q->q<W.heap.size/\w.heap.size<=q:=λq hq=>⟨(h.own.lt q hq).2,(h.own.lt q hq).1⟩;have d:=h.next s;refine ⟨⟨_,_,λq=>S1 q\/q=W.heap.size\/(Value.slice a l c).ownBlock=some q,rfl,λq hq=>Or.inl (h.s0 q hq),λq hq=>?_,d.ph.wide f λq hq=>?_,?_,d.ks⟩,s⟩
 ·rcases hq with hq|rfl|hq
  ·exact d.s1 q hq
  ·exact Or.inr ⟨hO _ (aG _),_,_,_,b⟩
  ·refine Or.inr ⟨h.oo q hq,?_⟩;rcases d.own.2 with ⟨h3,_⟩|⟨g,o,p,h3,_,h4,_⟩
   ·exact BZ
   ·exact Ys
 ·rcases hq with hq|rfl|hq
  ·exact Or.inl hq
  ·refine Or.inr ⟨aq,λm=>?_,λm=>?_⟩
   ·have:=h.ph.lt;omega
   ·have:=(h.ph.bX _ m).lt;omega
  ·exact Or.inr ⟨by have:=(n q hq).1;simp;omega,(h.ob q hq).2⟩
 ·rw [<- h.inv];rcases d.own.2 with ⟨h3,rfl⟩|⟨g,o,p,h3,h4,C,u,z,B,x⟩
  ·cases h3;exact .all _ none 0 0 N cs us (Or.inr (Or.inl rfl)) b (aG _) (Or.inl rfl) ae (λi j=>ae) λi j=>ae
  ·cases h3;refine .all _ (some ⟨g,0,none⟩) k c N cs us (Or.inr (Or.inl rfl)) b u (Or.inr ⟨g,0,rfl,Or.inr (Or.inr rfl)⟩) hk8 (λi j A y m=>?_) λi j=>(d.bk i j).wide f λ_ h=>h;cases m;have:=d.own.cellAt i ae;rw [cS,this,kn,List.getElem?_range j];rfl
def Bc (hO:∀ q,W.heap.size<=q->O q) {N1 N2:Nat} {cs1 cs2:Array zV} {ws1 ws2:List Wr} (b:cK W S1 e D (aU (ws1++ws2) σ) v1 v2 v3 v4 v5 te) (l:∀ q,S q->S1 q) (s1:∀ q,S1 q->S q\/(O q/\∃ c t z,W.heap[q]?=some (.cells c t z))) (i:cO e D W S1 N1 cs1 (dz ws1 σ)) (k:cO e D W S1 N2 cs2 (dz ws2 (aU ws1 σ))) (ks:Ks (λq=>q=e\/D q) w W) :
  gA S O e D σ v1 v2 v3 v4 v5 te w (W.alloc (.cells #[jt N1 cs1,jt N2 cs2] 151)) S1 (zS W.heap.size 2 2) 2 (ws1++ws2) (λj=>if j=0 then N1 else N2) (λj=>if j=0 then cs1 else cs2) (λj=>if j=0 then dz ws1 σ else dz ws2 (aU ws1 σ)):=by
 have d:zB W (W.alloc (.cells #[jt N1 cs1,jt N2 cs2] 151)):=(aM _ _).alloc (aG _) _;refine ⟨l,λq a=>(s1 q a).imp id ?_,b.next d,?_,λq a=>?_,λq a=>?_,λj m=>?_,?_,ks.t (Ks.of d)⟩
 ·rintro ⟨g,c,t,z,f⟩;exact ⟨g,c,t,z,(d.block q (cz.1 f).1).t f⟩
 ·have:=World.ownsRow_lit (base:=w.heap.size) (e:=151) (size:=1) W #[jt N1 cs1,jt N2 cs2] 2 ks.size jM rfl;exact this
 ·simp [Value.ownBlock] at a;subst a;refine ⟨λh=>?_,λh=>?_,λh=>?_⟩
  ·have:=b.still _ h;omega
  ·have:=b.lt;omega
  ·have:=(b.bX _ h).lt;omega
 ·simp [Value.ownBlock] at a;subst a;exact hO _ (aG _)
 ·rcases (show j=0\/j=1 from ae) with rfl|rfl
  ·exact i.later b.still d
  ·exact k.later b.still d
 ·simp [wB,EI]
end
section
open Go.RowKit Go.Shelf
attribute [local go_sem] Oper.semAt_some
variable {S S1 O:Nat->Prop} {e:Nat} {D:Nat->Prop} {σ:bg} {v1 v2 v3 v4 v5:zV} {te:TypeId} {w W Z U:zW} {v v':zV} {k:Nat} {R:List Wr} {N:Nat->Nat} {cs:Nat->Array zV} {us:Nat->List Wr}
def gA.turn {B:Nat} {i:zW} {row:Option Nat} (h:gA S O e D σ v1 v2 v3 v4 v5 te w W S1 v k R N cs us) (b:W.grownBy i row) (hr:∀ r,row=some r->B<=r/\∃ o:Obj,W.heap[r]?=some o/\o.isCells=false) (p:∀ q,S q->q<B) (A:w.heap.size<=B):gA S O e D σ v1 v2 v3 v4 v5 te w i S1 v k R N cs us:=by
 have d:∀ (q:Nat) (c:Array zV) (t:TypeId) (z:Nat × Nat),W.heap[q]?=some (Obj.cells c t z)->i.heap[q]?=W.heap[q]?:=λq c t z hq=>b.block q (cz.1 hq).1 λe'=>Yc;have low:∀ q,q<B->q<W.heap.size->i.heap[q]?=W.heap[q]?:=λq hq s=>b.block q s λe'=>by
  have:=(hr q e'.symm).1;omega
 have f:∀ q,S1 q->i.heap[q]?=W.heap[q]?:=λq hq=>by
  rcases h.s1 q hq with h1|⟨_,c,t,z,h2⟩
  ·exact low q (p q h1) (h.ph.still q hq)
  ·exact d q c t z h2
 refine ⟨h.s0,λq hq=>(h.s1 q hq).imp id ?_,h.ph.same ?_ b.size,?_,h.ob,h.oo,λj x=>(h.bk j x).next f,h.inv,?_⟩
 ·rintro ⟨h1,c,t,z,h2⟩;exact ⟨h1,c,t,z,(d q c t z h2).t h2⟩
 ·rintro q (hq|rfl|hq)
  ·exact f q hq
  ·obtain ⟨a,c,_,_,_,u⟩:=h.ph.row;exact d _ _ _ _ u
  ·obtain ⟨a,l,c,r,_⟩:=(h.ph.bX q hq).open;exact d _ _ _ _ r
 ·refine iy h.own (P:=λq=>some q=row) ⟨b.os,b.tape,b.output,b.size,λq hq m=>b.block q hq m⟩ λq hq e'=>?_;rcases h.own.2 with ⟨h3,_⟩|⟨g,y,n,h3,_,h4,_⟩
  ·exact BZ
  ·exact Xn
 ·refine ⟨b.os.t h.ks.os,b.tape.t h.ks.tape,b.output.t h.ks.output,bf h.ks.size b.size,λq hq m=>?_⟩;rw [low q ae (bG hq h.ks.size)];exact h.ks.block q hq m
def gA.ahW (h:gA S O e D σ v1 v2 v3 v4 v5 te w W S1 v k R N cs us) {q j:Nat} {u:zV} (m:¬ S1 q) (o:v.ownBlock≠some q) (x:w.heap.size<=q) (g:q≠e) (r:¬ D q):gA S O e D σ v1 v2 v3 v4 v5 te w (W.setCell ⟨q,j,none⟩ u) S1 v k R N cs us:=by
 have blk:∀ k,k≠q->(W.setCell ⟨q,j,none⟩ u).heap[k]?=W.heap[k]?:=λk a=>cY _ _ _ _ a;have b:∀ k,S1 k->(W.setCell ⟨q,j,none⟩ u).heap[k]?=W.heap[k]?:=λk a=>blk k λd=>m (d▸a);have a:Ks (λk=>k=q) W (W.setCell ⟨q,j,none⟩ u):=(Ks.refl (λk=>k=q) W).set q j u rfl;refine ⟨h.s0,λk a=>(h.s1 k a).imp id ?_,h.ph.same ?_ aq,iy h.own a λk f d=>o (by rw [f,d]),h.ob,h.oo,λi s=>(h.bk i s).next b,h.inv,⟨h.ks.os,h.ks.tape,h.ks.output,GK,λk a p=>(blk k ae).t (h.ks.block k a p)⟩⟩
 ·rintro ⟨l,c,t,z,n⟩;exact ⟨l,c,t,z,(b k a).t n⟩
 ·rintro k (a|rfl|a)
  ·exact b k a
  ·exact blk _ (nM g)
  ·exact blk _ λd=>r (d▸a)
def qG.turn {us:List Wr} {r:Ending} {row:Option Nat} (h:qG S O e D σ us v1 v2 v3 v4 v5 te w r Z) (f:Z.grownBy U row) (hr:∀ r,row=some r->w.heap.size<=r/\∃ o:Obj,Z.heap[r]?=some o/\o.isCells=false) (n:∀ q,S q->q<w.heap.size):qG S O e D σ us v1 v2 v3 v4 v5 te w r U:=by
 obtain ⟨v,i,S',h1,h2,m,j,A,g⟩:=h;have b:∀ (q:Nat) (c:Array zV) (t:TypeId) (z:Nat × Nat),Z.heap[q]?=some (Obj.cells c t z)->U.heap[q]?=Z.heap[q]?:=λq c t z hq=>f.block q (cz.1 hq).1 λe'=>Yc;have low:∀ q,q<w.heap.size->U.heap[q]?=Z.heap[q]?:=λq hq=>f.block q (bG hq g.size) λe'=>by
  have:=(hr q e'.symm).1;omega
 have d:∀ q,S' q->U.heap[q]?=Z.heap[q]?:=λq hq=>by
  rcases m q hq with s|⟨_,c,t,z,x⟩
  ·exact low q (n q s)
  ·exact b q c t z x
 refine ⟨v,i,S',h1,h2,λq hq=>(m q hq).imp id ?_,j.same ?_ f.size,A.next d,⟨f.os.t g.os,f.tape.t g.tape,f.output.t g.output,bf g.size f.size,λq hq u=>(low q hq).t (g.block q hq u)⟩⟩
 ·rintro ⟨p,c,t,z,k⟩;exact ⟨p,c,t,z,(b q c t z k).t k⟩
 ·rintro q (hq|rfl|hq)
  ·exact d q hq
  ·obtain ⟨a,c,_,_,_,y⟩:=j.row;exact b _ _ _ _ y
  ·obtain ⟨a,l,c,r,_⟩:=(j.bX q hq).open;exact b _ _ _ _ r
def JQ (n:Nat):∀ k h,(tN n k h).map Subtype.val=((List.range n).reverse).take k
 | 0,_=>rfl
 | k+1,h=>by
  have a:k<(List.range n).reverse.length:=aN;rw [tN,fK,JQ n k,<- List.take_append_getElem a];congr 1;simp [List.getElem_reverse];omega
def Tj (n:Nat) (us:Nat->List Wr):(tN n n (aG _)).flatMap (λx=>us x.1)=(List.range n).reverse.flatMap us:=by
 have:=JQ n n (aG _);rw [qy aq] at this;rw [<- this,List.flatMap_map]
def lY {F:Fence} {n:Nat} {P:Program} (w:zW) {y:Array Oper} {o:Oper} {a:Act} {K:Act->zW->Prop} {Q:Exit->Act->zW->Prop} {E:Prop} (J:o.guard=none) (s x:Operand) (t:TypeId)
  (f:o.op=.call { callee:=.builtin .append,args:=#[s,x],argTypes:=#[t,t] })
  (base:Nat) (e:TypeId) (i:TypeInfo) (z:zV) (size bytes:Nat) (ht:P.underlying t=some (.slice e)) (hi:P.info? e=some i) (Z:i.zero=some z)
  (p:i.size=size) (M:i.bytes=bytes) (L:z.cells.size=size) (B:0<size)
  (v:zV) (k:Nat) (xs:List zV) (hs:a.eval s=v) (A:w.ownsRow base e size v k xs)
  (D:zD) (m c:Nat) (news:List zV) (U:a.eval x=.slice (some D) m c) (R:(G news)=m*size) (q:∀ j u,news[j]?=some u->w.cell? (D.add j)=some u) (V:∀ u∈news,u.oneCell'=true)
  (O:0<m) (C:k+m<=maxLen) (b:(k+m)*bytes<=140737488355328) (l:base<=w.heap.size) (H:Nat) (T:w.heap.size=H)
  (h:∀ g d w',w'.ownsRow base e size (zS g (k+m) d) (k+m) (xs++news)->w.grownBy w' v.ownBlock->(v.ownBlock=some g\/g=H)->g<w'.heap.size->K (a.put o.dst (zS g (k+m) d)) w') :
  if Region.wanted o (yielded y a.tmps)=true then Oper.wpIn F n P o a w K Q else E:=by
 have W:Region.wanted o (yielded y a.tmps)=true:=by simp [Region.wanted,J]
 rw [aB W];obtain ⟨g,d,w',r,X,Y,r3,S⟩:=run_append_lies (P:=P) w t o.type base e i z size bytes ht hi Z p M L B v k xs A D m c news R q V O C b l H T;unfold Oper.wpIn;refine ⟨?_,?_⟩
 ·simp [Oper.about,f,resolve,Target.leads,Sem.run_pure]
 ·rw [Oper.semAt_plain F _ _ (by rw [f];intro c N;cases N)];simp [execOp,f,resolve,invoke,builtin,hs,U,r,Result.andThen];exact h g d w' X Y r3 S
def aa5 (S:Nat->Prop) (e:Nat) (D:Nat->Prop) (σ:bg) (v1 v2 v3 v4 v5:zV) (te:TypeId) (us:Nat->List Wr) (n:Nat) (f:zV) (w:zW) (a:List { i:Nat // i<n }) (W:zW):Prop:=
 ∃ (S1:Nat->Prop) (v:zV) (d:Nat->Nat) (b:Nat->Array zV) (c:Nat->List Wr),gA S (λq=>w.heap.size<=q) e D σ v1 v2 v3 v4 v5 te w W S1 v (G a) (a.flatMap λx=>us x.1) d b c/\Boxed W w.heap.size 104 v/\¬ S1 w.heap.size/\Boxed W (w.heap.size+1) 104 f
def Tl {S:Nat->Prop} {n B:Nat} {s:zV} (k:∀ q,S q->q<B) (m:w.heap.size<=B):OwnFrom B (aa5 S e D σ v1 v2 v3 v4 v5 te us n s w):=by
 rintro r W u row ⟨S1,v,p,b,c,l,i,t,j⟩ g d;refine ⟨S1,v,p,b,c,l.turn g d k m,i.kept g λf=>?_,t,j.kept g λf=>?_⟩
 rotate_left
 ·obtain ⟨_,o,a,h⟩:=d _ f.symm;rw [show W.heap[w.heap.size+1]?=_ from j] at a;cases a;simp [Obj.isCells] at h
 obtain ⟨_,o,a,h⟩:=d _ f.symm;rw [show W.heap[w.heap.size]?=_ from i] at a;cases a;simp [Obj.isCells] at h
def ahX (h:cK w S e D σ v1 v2 v3 v4 v5 te) (g:Nat) (a:Option zD) (n c:Nat) (hgS:S g) (X:w.heap[g]?=some (.cells #[.slice a n c] 104 (0,0))) (ha:n=0\/∃ h o,a=some ⟨h,o,none⟩/\S h) (hn:n<=maxLen) (hn8:n*8<=140737488355328)
  (hc:∀ i,i<n->∀ h o,a=some ⟨h,o,none⟩->w.cell? ⟨h,o+i,none⟩=some (.func (.func (N i)) #[] (cs i))) (agG:∀ i,i<n->∀ args w,(callFunc (N i) args).run prog w=.ok (.enter (N i) args) w)
  (Z:∀ i,i<n->∀ W S1 σ1,(∀ q,S q->S1 q/\W.heap[q]?=w.heap[q]?)->cK W S1 e D σ1 v1 v2 v3 v4 v5 te->zC prog (N i) (cs i) W (gX S1 e D σ1 (us i) v1 v2 v3 v4 v5 te W)) :
  zC prog 106 #[zJ g] w (gX S e D σ ((List.range n).reverse.flatMap us) v1 v2 v3 v4 v5 te w):=by
 have m0:w.cell? ⟨g,0,none⟩=some (.slice a n c):=(bq w g 0 _ _ _ X).t rfl;have xE:=h.still g hgS;have HP:=I h;have HC:=I hc;have HE:=I agG;have HCL:=I Z;have HA:=I ha;clear X hc agG Z h ha;refine (wE (n:=3)).1 ?_;refine callsIn_of_wp_marks func106 rfl trivial ?_ rfl;simp only [ntmps106,wq,gS,nZ,Nat.reduceAdd,Nat.reduceSub,wb,wh,wu,wm,ko,gT]
 gi_wp2_with (first|(gi_at_call 107;refine (backward _ a n c _).m ?_;rintro e w' ⟨rfl,rfl⟩)|(refine ⟨trivial,?_⟩;gi_at_call 107;refine (backward _ a n c _).m ?_;rintro e w' ⟨rfl,rfl⟩))
 have hb2:zB w ((w.alloc (.cells #[zN] 104)).alloc (.cells #[.slice a n c] 104)):=aY w _ _;have bO:=Boxed.new w 104 (zN);have bN:=Boxed.new (w.alloc (.cells #[zN] 104)) 104 (.slice a n c);rw [World.size_alloc] at bN;have H:∀ q,S q->q<w.heap.size:=HP.o.still;refine wpIn_rangeFunc_ownG rfl ae (gf:=143) (lb:=#[.pointer (some ⟨w.heap.size+1,0,none⟩)]) rfl trivial (oK func143 aD rfl)
  (AL _ ae (w.heap.size+1) n c a (λi=>.func (.func (N i)) #[] (cs i)) (λq=>S q\/q=w.heap.size+1) hn (Or.inr rfl) _ (λq hq=>by rcases hq with hq|hq;have:=H q hq;simp;omega;simp;omega) bN.cell (HA.o.imp id λ⟨h,o,h1,M⟩=>⟨h,o,h1,Or.inl M⟩) (λi hi h o e'=>by
   rcases HA.o with h0|⟨h',o',h1,M⟩
   ·omega
   ·rw [e'] at h1;cases h1;exact (hb2.cell (p:=⟨h,o+i,none⟩) (H h M)).t (HC.o i hi h o e')))
  (λh1 M=>⟨bf h1.1 M.1,λq hq=>(M.2 q hq).t (h1.2 q hq)⟩)
  (λW l o o' hl ho _ _=>⟨aq,λq hq=>World.putObj_heap_other (λe'=>by simp at hl;rcases hq with hq|hq;have:=H q hq;omega;omega)⟩)
  (aM _ _) (λ_=>rfl) (aa5 S e D σ v1 v2 v3 v4 v5 te us n (.slice a n c) w) (λ_ _ _=>False)
  (Tl (λq hq=>by have:=H q hq;simp;omega) aN) (λ_ _ _ _ _ hs _ _=>hs)
  ⟨S,zN,_,_,_,(gA.start HP.o).next hb2,bO.alloc _,λh1=>by have:=H _ h1;omega,bN⟩
  (λx=>{ tmps:=#[zJ g,.nilFunc,zJ w.heap.size,undef,.func (.func (N x.1)) #[] (cs x.1),.slice a n c,.func (.func 143) #[] #[.pointer (some ⟨w.heap.size+1,0,none⟩)],zI (x.1:Int),.func (.func (N x.1)) #[] (cs x.1),undef,undef,undef,undef,undef,undef,undef],defers:=[] }) ?assign ?body ?done ?stop
 case assign=>
  intro l x W K b
  gi_wp2
  exact b
 case body=>
  rintro l k x W ⟨S1,v,N',cs',us',E,B,hnS,V⟩ hlt;obtain ⟨i1,gi,qh,qi,pD⟩:=fe mV;obtain ⟨L,ln,cn,rfl⟩:=b7 E.own;have hcb:=B.cell;have hmx:prog.follows .mixedOrders=true:=aD;have heg:=HE.o x.1 x.2;have hwW:=E.ks.size;have hwB:w.heap.size<W.heap.size:=B.lt;have hpl:(G k)<n:=hlt;have A:=I E;have HBX:=I B;have hno:(Value.slice L ln cn).ownBlock≠some w.heap.size:=λh1=>B.not_row ai E.own h1.symm;have Jt:=I (λW' (hW:zB W W')=>(HCL.o x.1 x.2 W' S1 _ (λq hq=>⟨A.o.s0 q hq,(hW.block q (A.o.ph.still q (A.o.s0 q hq))).t (A.o.ks.block q (H q hq) (HP.o.notP q hq))⟩) (A.o.ph.next hW)).m (R':=λr w2=>∃ N1 cs1,r=.returned (.func (.func N1) #[] cs1)/\Hid (∃ S2,(∀ q,S1 q->S2 q)/\(∀ q,S2 q->S1 q\/(W.heap.size<=q/\∃ c t z,w2.heap[q]?=some (.cells c t z)))/\cK w2 S2 e D (aU (us x.1) (aU (k.flatMap λx=>us x.1) σ)) v1 v2 v3 v4 v5 te/\cO e D w2 S2 N1 cs1 (dz (us x.1) (aU (k.flatMap λx=>us x.1) σ))/\Ks (λq=>q=e\/D q) W w2)/\Hid (w2.ownsRow w.heap.size 151 1 (.slice L ln cn) (G k) ((List.range (G k)).map λj=>jt (N' j) (cs' j)))/\W.heap.size<=w2.heap.size/\Hid (Boxed w2 w.heap.size 104 (.slice L ln cn))) (by
   rintro r w2 ⟨N1,cs1,S2,rfl,q0,q1,q2,q3,q4⟩;have hk2:Ks (λq=>q=e\/D q) W w2:=(Ks.of hW).t q4;refine ⟨N1,cs1,rfl,⟨S2,q0,λq hq=>(q1 q hq).imp id λh=>⟨bf hW.size h.1,h.2⟩,q2,q3,hk2⟩,iy A.o.own hk2 λq hq h1=>?_,hk2.size,hk2.cells HBX.o λh1=>?_⟩
   ·obtain ⟨_,M,h3⟩:=A.o.ob q hq;rcases h1 with h1|h1
    ·exact M h1
    ·exact h3 h1
   ·have od:=HP.o.lt;rcases h1 with h1|h1
    ·omega
    ·have:=(HP.o.bX _ h1).lt;omega))
  have U:=I (show ∀ (N1:Nat) (cs1:Array zV) (w2:zW) (F m:Nat) (w3:zW),(∃ S2,(∀ q,S1 q->S2 q)/\(∀ q,S2 q->S1 q\/(W.heap.size<=q/\∃ c t z,w2.heap[q]?=some (.cells c t z)))/\cK w2 S2 e D (aU (us x.1) (aU (k.flatMap λx=>us x.1) σ)) v1 v2 v3 v4 v5 te/\cO e D w2 S2 N1 cs1 (dz (us x.1) (aU (k.flatMap λx=>us x.1) σ))/\Ks (λq=>q=e\/D q) W w2)->W.heap.size<=w2.heap.size ->
    w3.ownsRow w.heap.size 151 1 (zS F (G k+1) m) (G k+1) (((List.range (G k)).map λj=>jt (N' j) (cs' j))++[.func (.func N1) #[] cs1])->(w2.alloc (.cells #[.func (.func N1) #[] cs1] 151)).grownBy w3 (Value.slice L ln cn).ownBlock->((Value.slice L ln cn).ownBlock=some F\/F=w2.heap.size+1)->Boxed w3 w.heap.size 104 (.slice L ln cn) ->
    KeepsFrom ((w.alloc (.cells #[zN] 104)).alloc (.cells #[.slice a n c] 104)).heap.size W (w3.setCell ⟨w.heap.size,0,none⟩ (zS F (G k+1) m))/\OC (λq=>S q\/q=w.heap.size+1) W (w3.setCell ⟨w.heap.size,0,none⟩ (zS F (G k+1) m))/\aa5 S e D σ v1 v2 v3 v4 v5 te us n (.slice a n c) w (k++[x]) (w3.setCell ⟨w.heap.size,0,none⟩ (zS F (G k+1) m)) from by
   rintro N1 cs1 w2 F m w3 ⟨S2,q0,q1,q2,q3,q4⟩ T hown X y hbx;have od:=HP.o.lt;have hg3:=X.size;simp at hg3;have hst:=A.o.step (hO:=λq hq=>bf A.o.ks.size hq) q0 q1 q2 q3 q4 X hown (by
    rcases y with h1|h1
    ·exact Or.inl rJ
    ·exact Or.inr ⟨F,rfl,by rw [h1];exact Nat.le_succ _⟩)
   have agH:¬ S2 w.heap.size:=λh1=>by
    rcases q1 _ h1 with M|M
    ·exact hnS M
    ·omega
   have Rv:F≠w.heap.size:=λh1=>by
    rcases y with M|M
    ·exact hno (by rw [M,h1])
    ·omega
   have akL:∀ q,q≠w.heap.size->(w3.setCell ⟨w.heap.size,0,none⟩ (zS F (G k+1) m)).heap[q]?=w3.heap[q]?:=λq hq=>cY _ _ _ _ hq;have Y:∀ q,q<W.heap.size->q≠w.heap.size->¬ (q=e\/D q)->(Value.slice L ln cn).ownBlock≠some q->(w3.setCell ⟨w.heap.size,0,none⟩ (zS F (G k+1) m)).heap[q]?=W.heap[q]?:=λq hq h1 M h3=>by
    rw [akL q h1,X.block q aN (λh=>h3 h.symm),cj _ _ _ ae];exact q4.block q hq M
   have Gg:(k++[x]).flatMap (λx=>us x.1)=(k.flatMap λx=>us x.1)++us x.1:=aq;have J:=hst.ahW (q:=w.heap.size) (j:=0) (u:=zS F (G k+1) m) agH (by simpa [Value.ownBlock] using Rv) (aG _) ae λh1=>by have:=(HP.o.bX _ h1).lt;omega
   rw [<- Gg] at J;have hlen:(k++[x]).length=G k+1:=aq;have akM:(Value.slice L ln cn).ownBlock≠some (w.heap.size+1):=λh1=>V.not_row ai A.o.own h1.symm;have akN:=V.lt;have agI:(w3.setCell ⟨w.heap.size,0,none⟩ (zS F (G k+1) m)).heap[w.heap.size+1]?=W.heap[w.heap.size+1]?:=Y _ akN ae (λh1=>by
     rcases h1 with h1|h1
     ·omega
     ·have:=(HP.o.bX _ h1).lt;omega) akM
   refine ⟨⟨aN,λq o hB hq ho=>?_⟩,⟨aN,λq hq=>?_⟩,S2,_,_,_,_,by rw [hlen];exact J,?_,agH,agI.t V⟩
   ·simp at hB;refine (Y q (cz.1 hq).1 ae (λh1=>?_) λh1=>?_).t hq
    ·rcases h1 with h1|h1
     ·omega
     ·have:=(HP.o.bX q h1).lt;omega
    ·rcases A.o.own.2 with ⟨h3,_⟩|⟨gg,cap,cur,h3,_,h4,_⟩
     ·rw [h3] at h1;simp [Value.ownBlock] at h1
     ·exact XR
   ·rcases hq with hq|rfl
    ·have hqw:=H q hq;refine Y q ae ae (HP.o.notP q hq) λh1=>?_;exact (A.o.ob q h1).1 (A.o.s0 q hq)
    ·exact agI
   ·have:=hbx.set (zS F (G k+1) m);simpa using this)
  clear E B hlt V
  gi_wp2
  refine wpIn_region_any hmx ?_;change wpAnyIn _ _ _ _ _ _ _ _ _ (World.drew _);refine mJ (rs:=[0,1]) aD aq ?_;refine kK rfl (λK b=>?_) (kK rfl (λK b=>?_) mH)
  ·go_simp
   refine b _ _ ?_;clear b K;refine mJ (rs:=[1]) aD aq (kK rfl (λK b=>?_) mH)
   go_simp
   refine b _ _ ?_;clear b K;refine mJ (rs:=[2]) aD aq (kK rfl (λK b=>?_) mH)
   go_simp
   refine ⟨trivial,(CallsIn.inRound l (wE.2 (Jt.o _ (aM _ _).drew))).m ?_⟩;rintro e2 w2 ⟨N1,cs1,rfl,B2,BO,T,BX⟩;refine b _ _ ?_;clear b K;have agK:=BX.o.cell;refine mJ (rs:=[3]) aD aq (kK rfl (λK b=>?_) mH)
   go_simp
   refine b _ _ ?_;clear b K;refine mJ (rs:=[4]) aD aq (kK rfl (λK b=>?_) mH);refine lY _ dr (.tmp 9) (.tmp 12) 104 dr w.heap.size 151 i1 .nilFunc 1 8 underlying104 gi qh qi pD rfl ai (.slice L ln cn) (G k) _ dr (BO.o.alloc _) ⟨w2.heap.size,0,none⟩ 1 1 [.func (.func N1) #[] cs1] dr rfl (λq u hq=>bC w2 [.func (.func N1) #[] cs1] 151 q u hq) (λu hu=>nw) ae ae ae aN (w2.heap.size+1) aq ?_;intro F m w3 s d y vQ;refine b _ _ ?_;clear b K;have f:Boxed w3 w.heap.size 104 (.slice L ln cn):=(d.block _ aN (λh1=>hno h1.symm)).t ((cj w2 _ _ ae).t BX.o);have Rw:=f.cell;have Rx:=f.frozen;have O:=I s;have P:=I d;have Q:=I y;have R:=I f;clear s d y f;refine mJ (rs:=[5]) aD aq (kK rfl (λK b=>?_) mH)
   go_simp
   refine b _ _ ?_;clear b K;refine wpAnyIn_done aD ?_ _
   gi_wp2
   exact U.o N1 cs1 w2 F m w3 B2.o T O.o P.o Q.o R.o
  ·go_simp
   refine b _ _ ?_;clear b K;refine mJ (rs:=[0,2]) aD aq (kK rfl (λK b=>?_) (kK rfl (λK b=>?_) mH))
   ·go_simp
    refine b _ _ ?_;clear b K;refine mJ (rs:=[2]) aD aq (kK rfl (λK b=>?_) mH)
    go_simp
    refine ⟨trivial,(CallsIn.inRound l (wE.2 (Jt.o _ (aM _ _).drew))).m ?_⟩;rintro e2 w2 ⟨N1,cs1,rfl,B2,BO,T,BX⟩;refine b _ _ ?_;clear b K;have agK:=BX.o.cell;refine mJ (rs:=[3]) aD aq (kK rfl (λK b=>?_) mH)
    go_simp
    refine b _ _ ?_;clear b K;refine mJ (rs:=[4]) aD aq (kK rfl (λK b=>?_) mH);refine lY _ dr (.tmp 9) (.tmp 12) 104 dr w.heap.size 151 i1 .nilFunc 1 8 underlying104 gi qh qi pD rfl ai (.slice L ln cn) (G k) _ dr (BO.o.alloc _) ⟨w2.heap.size,0,none⟩ 1 1 [.func (.func N1) #[] cs1] dr rfl (λq u hq=>bC w2 [.func (.func N1) #[] cs1] 151 q u hq) (λu hu=>nw) ae ae ae aN (w2.heap.size+1) aq ?_;intro F m w3 s d y vQ;refine b _ _ ?_;clear b K;have f:Boxed w3 w.heap.size 104 (.slice L ln cn):=(d.block _ aN (λh1=>hno h1.symm)).t ((cj w2 _ _ ae).t BX.o);have Rw:=f.cell;have Rx:=f.frozen;have O:=I s;have P:=I d;have Q:=I y;have R:=I f;clear s d y f;refine mJ (rs:=[5]) aD aq (kK rfl (λK b=>?_) mH)
    go_simp
    refine b _ _ ?_;clear b K;refine wpAnyIn_done aD ?_ _
    gi_wp2
    exact U.o N1 cs1 w2 F m w3 B2.o T O.o P.o Q.o R.o
   ·go_simp
    refine ⟨trivial,(CallsIn.inRound l (wE.2 (Jt.o _ (aM _ _).drew))).m ?_⟩;rintro e2 w2 ⟨N1,cs1,rfl,B2,BO,T,BX⟩;refine b _ _ ?_;clear b K;have agK:=BX.o.cell;refine mJ (rs:=[0,3]) aD aq (kK rfl (λK b=>?_) (kK rfl (λK b=>?_) mH))
    ·go_simp
     refine b _ _ ?_;clear b K;refine mJ (rs:=[3]) aD aq (kK rfl (λK b=>?_) mH)
     go_simp
     refine b _ _ ?_;clear b K;refine mJ (rs:=[4]) aD aq (kK rfl (λK b=>?_) mH);refine lY _ dr (.tmp 9) (.tmp 12) 104 dr w.heap.size 151 i1 .nilFunc 1 8 underlying104 gi qh qi pD rfl ai (.slice L ln cn) (G k) _ dr (BO.o.alloc _) ⟨w2.heap.size,0,none⟩ 1 1 [.func (.func N1) #[] cs1] dr rfl (λq u hq=>bC w2 [.func (.func N1) #[] cs1] 151 q u hq) (λu hu=>nw) ae ae ae aN (w2.heap.size+1) aq ?_;intro F m w3 s d y vQ;refine b _ _ ?_;clear b K;have f:Boxed w3 w.heap.size 104 (.slice L ln cn):=(d.block _ aN (λh1=>hno h1.symm)).t ((cj w2 _ _ ae).t BX.o);have Rw:=f.cell;have Rx:=f.frozen;have O:=I s;have P:=I d;have Q:=I y;have R:=I f;clear s d y f;refine mJ (rs:=[5]) aD aq (kK rfl (λK b=>?_) mH)
     go_simp
     refine b _ _ ?_;clear b K;refine wpAnyIn_done aD ?_ _
     gi_wp2
     exact U.o N1 cs1 w2 F m w3 B2.o T O.o P.o Q.o R.o
    ·go_simp
     refine b _ _ ?_;clear b K;have aa8:w.heap.size<w2.heap.size:=ae;refine mJ (rs:=[0]) aD aq (kK rfl (λK b=>?_) mH)
     go_simp
     refine b _ _ ?_;clear b K;refine mJ (rs:=[4]) aD aq (kK rfl (λK b=>?_) mH);refine lY _ dr (.tmp 9) (.tmp 12) 104 dr w.heap.size 151 i1 .nilFunc 1 8 underlying104 gi qh qi pD rfl ai (.slice L ln cn) (G k) _ dr (BO.o.alloc _) ⟨w2.heap.size,0,none⟩ 1 1 [.func (.func N1) #[] cs1] dr rfl (λq u hq=>bC w2 [.func (.func N1) #[] cs1] 151 q u hq) (λu hu=>nw) ae ae ae aN (w2.heap.size+1) aq ?_;intro F m w3 s d y vQ;refine b _ _ ?_;clear b K;have f:Boxed w3 w.heap.size 104 (.slice L ln cn):=(d.block _ aN (λh1=>hno h1.symm)).t ((cj w2 _ _ ae).t BX.o);have Rw:=f.cell;have Rx:=f.frozen;have O:=I s;have P:=I d;have Q:=I y;have R:=I f;clear s d y f;refine mJ (rs:=[5]) aD aq (kK rfl (λK b=>?_) mH)
     go_simp
     refine b _ _ ?_;clear b K;refine wpAnyIn_done aD ?_ _
     gi_wp2
     exact U.o N1 cs1 w2 F m w3 B2.o T O.o P.o Q.o R.o
 case done=>
  rintro D' ys W hD rfl ⟨S1,v,N',cs',us',E,B,hnS,V⟩ b;have hcell:=B.cell;obtain ⟨L,ln,cn,rfl⟩:=b7 E.own;have Tm:=I (E.all (hk8:=by rw [tO];exact hn8) (hO:=λq hq=>bf E.ks.size hq));have A:=I E;have HK:=I b;clear E B V b
  gi_wp2_with (first|(refine ⟨trivial,?_⟩;gi_at_call 72;refine (wE.2 Tm.o).m ?_;rintro r w1 ⟨⟨N1,cs1,S2,rfl,C⟩,hb1⟩;have HR:=I C;have vA:=I hb1;clear C hb1)|(gi_at_call 72;refine (wE.2 Tm.o).m ?_;rintro r w1 ⟨⟨N1,cs1,S2,rfl,C⟩,hb1⟩;have HR:=I C;have vA:=I hb1;clear C hb1))
  have hK1:=(vA.o.block D' (cz.1 HK.o).1).t HK.o;refine ⟨aq,.inl ⟨_,_,rfl,run_takeDeferred hK1,?_⟩⟩;have J:gX S e D σ ((tN n n (aG _)).flatMap λx=>us x.1) v1 v2 v3 v4 v5 te w (.returned (.func (.func N1) #[] cs1)) w1:=⟨N1,cs1,S2,rfl,HR.o⟩;rw [Tj] at J;have ahZ:gX S e D σ ((List.range n).reverse.flatMap us) v1 v2 v3 v4 v5 te w (.returned (.func (.func N1) #[] cs1)) (w1.putObj D' (.deferred none)):=qG.turn J (grownBy_putObj' _ D' (.deferred none)) (λr e'=>by cases e';exact ⟨by simp at hD;omega,_,hK1,rfl⟩) H;refine ⟨.func (.func N1) #[] cs1,?_,ahZ⟩;simp [results,f106,go_sem]
 case stop=>
  rintro D' c k W _ _ h _;exact h.elim
end
section
variable {S S1 O:Nat->Prop} {e:Nat} {D:Nat->Prop} {σ:bg} {v1 v2 v3 v4 v5:zV} {te:TypeId} {w W Z R:zW} {v v':zV} {k:Nat} {U:List Wr} {N:Nat->Nat} {cs:Nat->Array zV} {us:Nat->List Wr}
def gB:bg->List Nat->List Wr
 | _,[]=>[]
 | σ,b::r=>.vl b (cD (mW σ.fs) (σ.mem b).p)::gB (kx σ (.vl b (cD (mW σ.fs) (σ.mem b).p))) r
def JR (l:List Nat) (b:Nat):∀ σ:bg,gB σ (l++[b])=gB σ l++[.vl b (cD (mW (aU (gB σ l) σ).fs) ((aU (gB σ l) σ).mem b).p)]:=by
 induction l with
 | nil=>intro σ;rfl
 | cons c r a=>intro σ;simp only [gT,gB,aU,a]
def aa9 (σ:bg) (b:Nat) (v:Vl):(kx σ (.vl b v)).ord=σ.ord:=rfl
def OG (l:List Nat):∀ σ:bg,(aU (gB σ l) σ).ord=σ.ord:=by
 induction l with
 | nil=>intro σ;rfl
 | cons c r a=>intro σ;simp only [gB,aU,a,aa9]
def OH (σ:bg) (b:Nat) (v:Vl):(kx σ (.vl b v)).fs=qH σ.fs b v:=by
 unfold bg.fs qH;rw [fM];refine sB λq _=>?_;simp only [Function.comp];by_cases h:q=b
 ·subst h;simp [kx,fN]
 ·simp [kx,dM _ _ _ _ h,h]
def OI (σ:bg) (b:Nat) (a:b∈σ.ord):oh σ.fs b=(σ.mem b).p:=by
 unfold oh bg.fs;rw [oI];have:((λf:Nat × Fd=>f.1 == b) ∘ λb=>(b,σ.mem b))=λq=>q == b:=rfl;rw [this];cases h:σ.ord.find? (λq=>q == b) with
 | none=>
  rw [rp] at h;exact absurd (beq_self_eq_true b) (h b a)
 | some q=>
  have:=wA h;simp at this;subst this;rfl
def EK (l:List Nat):∀ σ:bg,(∀ b,b∈l->b∈σ.ord)->(aU (gB σ l) σ).fs=iR σ.fs l:=by
 induction l with
 | nil=>intro σ _;rfl
 | cons c r d=>
  intro σ h;simp only [gB,aU,iR];rw [d (kx σ (.vl c (cD (mW σ.fs) (σ.mem c).p))) λb a=>h b (by simp [a]),OH,OI σ c (h c aq)]
def gA.akP (h:gA S O e D σ v1 v2 v3 v4 v5 te w W S1 v k U N cs us) (d:Ks (λq=>q=e\/D q) W Z):Z.ownsRow w.heap.size 151 1 v k ((List.range k).map λj=>jt (N j) (cs j)):=
 iy h.own d λq b a=>by
  obtain ⟨_,c,f⟩:=h.ob q b;rcases a with a|a
  ·exact c a
  ·exact f a
def EL (ck:Nat) (ak:Option zD) (ks:List Nat) (h:cK w S e D σ v1 v2 v3 v4 v5 te) (hl:σ.ord.length<=500) (Tn:(G ks)<=500)
  (hk:∀ j (h:j<G ks),D (ks[j])/\∃ g o,ak=some ⟨g,o,none⟩/\g<w.heap.size/\g≠e/\¬ D g/\w.cell? ⟨g,o+j,none⟩=some (.pointer (some ⟨ks[j],0,none⟩))) :
  zC prog 167 #[zJ e,.slice ak (G ks) ck] w (gX S e D σ (gB σ ks) v1 v2 v3 v4 v5 te w):=by
 have HS:=I h;have HK:=I hk;obtain ⟨i1,gi,qh,qi,pD⟩:=fe mV;clear h hk;go_in;go_wp2_with fail;go_loopg [5,7,10] (G ks) (λgk s5 _ s10 wr=>∃ (j:Nat) (S1:Nat->Prop) (N:Nat->Nat) (cs:Nat->Array zV) (us:Nat->List Wr),j<=G ks/\(G ks)<=j+gk/\s10=zI j/\Hid (gA S (λq=>w.heap.size<=q) e D σ v1 v2 v3 v4 v5 te w wr S1 s5 j (gB σ (ks.take j)) N cs us))
 case atStart=>exact ⟨0,_,_,_,_,bE _,ae,rfl,gA.start HS.o⟩
 case round=>
  obtain ⟨j,S1,N,cs,us,hj,xA,rfl,n⟩:=hrel;have hsz:=n.o.ks.size;by_cases hlt:j<G ks
  ·have P:(j:Int)<((G ks):Int):=ae;obtain ⟨hD,g,o,rfl,hg,tA,hgD,hp⟩:=HK.o j hlt;have hp':=(nu (a:=⟨g,o+j,none⟩) (n.o.ks.block g hg (by rintro (h1|h1);exact tA h1;exact hgD h1))).t hp;have m:=I (JR (ks.take j) ks[j] σ);rw [show ks.take j++[ks[j]]=ks.take (j+1) from aay] at m;have B:(aU (gB σ (ks.take j)) σ).ord=σ.ord:=OG _ _;have HOL:=I (show (aU (gB σ (ks.take j)) σ).fs.length<=500 by unfold bg.fs;rw [fy,B];exact hl);clear B;generalize ks[j]=b at *;generalize H:aU (gB σ (ks.take j)) σ=d at *;have i:cK wr S1 e D d v1 v2 v3 v4 v5 te:=by rw [<- H];exact n.o.ph
   have K:=I i;have hF:=i.bX b hD;have J:=hF.lt;obtain ⟨_,yP,_,_,U,T,c2,y,Q⟩:=hF;obtain ⟨⟨k0,k1,k2,k3,k4,k5,k6⟩,OJ,_⟩:=fP y;obtain ⟨a,c,M,_,_,s⟩:=i.sh;have od:=i.lt;have hce:wr.cell? ⟨e,0,none⟩=some (.slice a d.fs.length c):=(bJ s).1.1;have HC:=I (OL (zJ e) (mW d.fs) (d.mem b).p U T c2 wr.drew (Q.next λ_ _=>rfl) i.still yP (λx W hW=>Tp x e c a d.fs W ((M.next (aM _ _).drew).next hW) ((hW.cell (p:=⟨e,0,none⟩) od).t hce) NC (by have:=HOL.o;omega)));obtain ⟨V,ln,cn,rfl⟩:=b7 n.o.own;generalize hvv:cD (mW d.fs) (d.mem b).p=E at *;have BI:=I (show zC prog 197 #[.agg #[zI ((d.mem b).p.k:Int),.string ⟨(d.mem b).p.nm.toArray⟩,zI ((d.mem b).p.n:Int),.slice U T c2],.func (.func 198) #[zJ e] #[]] wr.drew (dx E wr.drew) from HC.o);have HPW:=I (λW (hW:zB wr.drew W)=>(Rt ((K.o.next (aM _ _).drew).next hW) hD E ((hW.block b J).t y) (Q.next λq v=>hW.block q (K.o.still q v))).m (R':=λr w2=>∃ N1 cs1,r=.returned (.func (.func N1) #[] cs1)/\Hid (∃ S2,(∀ q,S1 q->S2 q)/\(∀ q,S2 q->S1 q\/(wr.heap.size<=q/\∃ c t z,w2.heap[q]?=some (.cells c t z)))/\cK w2 S2 e D (kx d (.vl b E)) v1 v2 v3 v4 v5 te/\cO e D w2 S2 N1 cs1 [Te d (.vl b E)]/\Ks (λq=>q=e\/D q) wr w2)/\Hid (w2.ownsRow w.heap.size 151 1 (.slice V ln cn) j ((List.range j).map λj=>jt (N j) (cs j)))/\wr.heap.size<=w2.heap.size/\Hid (w2.heap[b]?=some (.cells #[.string ⟨(d.mem b).nm.toArray⟩,zI ((d.mem b).p.k:Int),.string ⟨(d.mem b).p.nm.toArray⟩,zI ((d.mem b).p.n:Int),.slice U T c2,zI E.1,zI E.2] 223 (0,0)))) (by
    rintro r w2 ⟨⟨N1,cs1,S2,rfl,q0,q1,q2,X,Y⟩,L⟩;have C:Ks (λq=>q=e\/D q) wr w2:=(Ks.of ((aM _ _).drew.t hW)).t Y;exact ⟨N1,cs1,rfl,⟨S2,q0,λq v=>(q1 q v).imp id λh=>⟨bf hW.size h.1,h.2⟩,q2,X,C⟩,n.o.akP C,C.size,L⟩))
   have HRW:=I (λW (hW:zB wr.drew W)=>fP ((hW.block b J).t y));clear HC OJ y M s i;have A:∀ q,(Value.slice V ln cn).ownBlock=some q->q≠b:=λq v e'=>(n.o.ob q v).2.2 (e'▸hD);have Z:=I A;clear A;go_wp2_with fail
   go_region_held3 (λw'=>w'.cell? ⟨b,1,none⟩=some (zI ((d.mem b).p.k:Int))/\w'.cell? ⟨b,2,none⟩=some (.string ⟨(d.mem b).p.nm.toArray⟩)/\w'.cell? ⟨b,3,none⟩=some (zI ((d.mem b).p.n:Int))/\w'.cell? ⟨b,4,none⟩=some (.slice U T c2)) (first|go_keep|(go_split_ands;exact ⟨n1,n2,n3,n4⟩)) (first|(go_at_call 197;refine BI.o.m ?_;rintro e w1 ⟨rfl,F⟩;obtain ⟨⟨n0,n1,n2,n3,n4,n5,n6⟩,_,_⟩:=HRW.o _ F;have B1:=I F;clear F)|(go_at_call 196;refine (HPW.o _ B1.o).m ?_;rintro e w2 ⟨N1,cs1,rfl,B2,BO,hs2,B3⟩;obtain ⟨⟨n0,n1,n2,n3,n4,n5,n6⟩,_,_⟩:=fP B3.o)|(refine yw _ dr (.tmp 14) (.tmp 26) 104 dr w.heap.size 151 i1 .nilFunc 1 8 underlying104 gi qh qi pD rfl ai (.slice V ln cn) j _ dr (BO.o.alloc _) ⟨w2.heap.size,0,none⟩ 1 1 [.func (.func N1) #[] cs1] dr rfl (λq u v=>bC w2 [.func (.func N1) #[] cs1] 151 q u v) (λu hu=>nw) ae jM ae aN (w2.heap.size+1) aq ?_;intro g' cap' w3 k f R vQ;obtain ⟨⟨n0,n1,n2,n3,n4,n5,n6⟩,_,_⟩:=fP ((f.block b aN (λe=>Z.o b e.symm rfl)).t ((cj w2 _ _ ae).t B3.o));have B4:=I k;have B5:=I f;have B6:=I R;clear k f R))
   all_goals go_wp2
   all_goals go_roundg (G ks - (j+1))
   all_goals try (case measure=>omega)
   all_goals (
    obtain ⟨S2,q0,q1,q2,X,Y⟩:=B2.o;have O:=n.o.step (hO:=λq v=>bf n.o.ks.size v) (us1:=[.vl b E]) q0 q1 (by rw [H];exact q2) (by rw [H];exact X) Y B5.o B4.o (by
     rcases B6.o with h1|h1
     ·exact Or.inl rJ
     ·exact Or.inr ⟨g',rfl,by rw [h1];exact Nat.le_succ _⟩)
    rw [<- m.o] at O;exact ⟨j+1,S2,_,_,_,ae,ae,ez,O⟩)
  ·have P:¬ (j:Int)<((G ks):Int):=ae;obtain rfl:j=(G ks):=ae;have HA:=I (n.o.all (hk8:=ae) (hO:=λq v=>bf n.o.ks.size v));rw [tq] at HA;obtain ⟨V,ln,cn,rfl⟩:=b7 n.o.own;go_wp2_with (go_at_call 72;refine HA.o.m ?_;rintro r w1 ⟨⟨N',cs',S',rfl,l⟩,_⟩;have HR:=I l;clear l);go_ret;exact ⟨N',cs',S',rfl,HR.o⟩
variable {w':zW} {S':Nat->Prop} {b:Nat}
def ahU (h:cK w S e D σ v1 v2 v3 v4 v5 te) (f g:Nat) (l:List Nat) (a:Option zD) (c:Nat) (j:w.heap[f]?=some (.cells #[zJ e] 253 (0,0))) (k:w.heap[g]?=some (.cells #[.slice a (G l) c] 101 (0,0))) (q:∀ b,b∈l->D b) (m:jQ w S a l) (s:(G l)<=c) (o:a=none->c=0) :
  zC prog 192 #[zJ f,zJ g] w (gX S e D σ [.ord l] v1 v2 v3 v4 v5 te w):=by
 have t:=I (Hf h l a c q m s o);have v:w.cell? ⟨f,0,none⟩=some (zJ e):=(bq w f 0 _ _ _ j).t rfl;have u:w.cell? ⟨g,0,none⟩=some (.slice a (G l) c):=(bq w g 0 _ _ _ k).t rfl;clear j k m h;go_in;go_wp2_with (go_at_call 163;refine t.o.m ?_;rintro r w1 ⟨p,i,S',rfl,d⟩;have n:=I d;clear d);go_ret;exact ⟨p,i,S',rfl,n.o⟩
def akG (h:cK w S e D σ v1 v2 v3 v4 v5 te) (c d:Nat) (x:By) (g:w.heap[c]?=some (.cells #[zJ b] 291 (0,0))) (i:w.heap[d]?=some (.cells #[zG x] 9 (0,0))) (l:D b) :
  zC prog 221 #[zJ c,zJ d] w (gX S e D σ [.nm b x] v1 v2 v3 v4 v5 te w):=by
 have m:=I (aa4 h l x);have o:w.cell? ⟨c,0,none⟩=some (zJ b):=(bq w c 0 _ _ _ g).t rfl;have n:w.cell? ⟨d,0,none⟩=some (zG x):=(bq w d 0 _ _ _ i).t rfl;clear g i h;go_in;go_wp2_with (go_at_call 199;refine m.o.m ?_;rintro r w1 ⟨k,f,S',rfl,a⟩;have j:=I a;clear a);go_ret;exact ⟨k,f,S',rfl,j.o⟩
def akH (h:cK w S e D σ v1 v2 v3 v4 v5 te) (f n:Nat) (p:Pt) (a:Option zD) (l c:Nat) (m:w.heap[f]?=some (.cells #[.pointer (some ⟨b,1,none⟩)] 251 (0,0))) (o:w.heap[n]?=some (.cells #[zI p.k,zG p.nm,zI p.n,.slice a l c] 89 (0,0))) (u:D b) (q:dR w S p a l c) (j:Shape p) (k:Good p) (g:(txt p).length<=100) :
  zC prog 191 #[zJ f,zJ n] w (gX S e D σ [.rl b p] v1 v2 v3 v4 v5 te w):=by
 have v:=I (aa2 h u p a l c q j k g);have A:w.cell? ⟨f,0,none⟩=some (.pointer (some ⟨b,1,none⟩)):=(bq w f 0 _ _ _ m).t rfl;obtain ⟨⟨y,x,B,z⟩,_,_⟩:=aX o;clear m o h q;go_in;go_wp2_with (go_at_call 162;refine v.o.m ?_;rintro r w1 ⟨t,i,S',rfl,d⟩;have s:=I d;clear d);go_ret;exact ⟨t,i,S',rfl,s.o⟩
def akI (h:cK w S e D σ v1 v2 v3 v4 v5 te) (d c:Nat) (v:Vl) (i:w.heap[d]?=some (.cells #[.pointer (some ⟨b,5,none⟩)] 287 (0,0))) (g:w.heap[c]?=some (.cells #[zI v.1,zI v.2] 177 (0,0))) (l:D b) :
  zC prog 219 #[zJ d,zJ c] w (gX S e D σ [.vl b v] v1 v2 v3 v4 v5 te w):=by
 have m:=I (ahT h l v);have p:w.cell? ⟨d,0,none⟩=some (.pointer (some ⟨b,5,none⟩)):=(bq w d 0 _ _ _ i).t rfl;have o:w.cell? ⟨c,0,none⟩=some (zI v.1):=(bq w c 0 _ _ _ g).t rfl;have n:w.cell? ⟨c,1,none⟩=some (zI v.2):=(bq w c 1 _ _ _ g).t rfl;clear i g h;go_in;go_wp2_with (go_at_call 196;refine m.o.m ?_;rintro r w1 ⟨k,f,S',rfl,a⟩;have j:=I a;clear a);go_ret;exact ⟨k,f,S',rfl,j.o⟩
end
section
structure dP (w:zW) (S:Nat->Prop) (e:Nat) (D:Nat->Prop) (v:zV) (V:List (List Wr)) (N:Nat->Nat) (cs:Nat->Array zV):Prop where
 own:w.ownsRow 0 151 1 v (G V) ((List.range (G V)).map λj=>jt (N j) (cs j))
 bk:∀ j,j<G V->cO e D w S (N j) (cs j) (V.getD j [])
 ob:∀ q,v.ownBlock=some q->¬ S q/\q≠e/\¬ D q
variable {S S' S1 O:Nat->Prop} {e:Nat} {D Z:Nat->Prop} {σ σ0 σ1:bg} {v1 v2 v3 v4 v5 v v':zV} {te:TypeId} {w w' W w1 w2 w3:zW} {V:List (List Wr)} {N:Nat->Nat} {cs:Nat->Array zV}
def dP.nil (w:zW) (S:Nat->Prop) (e:Nat) (D:Nat->Prop):dP w S e D (zN) [] (λ_=>0) (λ_=>#[]):=
 ⟨eW _ _ _ _,λj hj=>G9,λq hq=>pK⟩
def dP.keep {P:Nat->Prop} (h:dP w S e D v V N cs) (c:Ks P w w') (b:∀ q,S q->w'.heap[q]?=w.heap[q]?) (a:∀ q,v.ownBlock=some q->¬ P q):dP w' S e D v V N cs:=
 ⟨iy h.own c a,λj d=>(h.bk j d).next b,h.ob⟩
def dP.wide (h:dP w S e D v V N cs) (c:∀ q,S q->S' q) (d:∀ q,D q->Z q) (b:∀ q,v.ownBlock=some q->¬ S' q/\¬ Z q):dP w S' e Z v V N cs:=
 ⟨h.own,λj f=>(h.bk j f).wide c d,λq a=>⟨(b q a).1,(h.ob q a).2.1,(b q a).2⟩⟩
def dP.lt (h:dP w S e D v V N cs):∀ q,v.ownBlock=some q->q<w.heap.size:=λq a=>(h.own.lt q a).2
def dP.snoc (h:dP w1 S e D v V N cs) {us:List Wr} {N1:Nat} {cs1:Array zV} (l:cO e D w1 S N1 cs1 us) (i:∀ q,S q->q<w1.heap.size) (s:e<w1.heap.size) (m:∀ q,D q->q<w1.heap.size) {o:Obj} (r:(w1.alloc o).grownBy w2 v.ownBlock) (n:w2.ownsRow 0 151 1 v' (G V+1) (((List.range (G V)).map λj=>jt (N j) (cs j))++[jt N1 cs1])) (p:v.ownBlock=v'.ownBlock\/∃ g,v'.ownBlock=some g/\w1.heap.size<=g) :
  dP w2 S e D v' (V++[us]) (λj=>if j=(G V) then N1 else N j) (λj=>if j=(G V) then cs1 else cs j):=by
 have a:∀ q,S q->w2.heap[q]?=w1.heap[q]?:=λq b=>by
  rw [r.block q (by have:=i q b;simp;omega) (λd=>(h.ob q d.symm).1 b),cj _ _ _ (i q b)]
 refine ⟨?_,λj hj=>?_,λq b=>?_⟩
 ·have:((List.range (V++[us]).length).map λj=>jt (if j=(G V) then N1 else N j) (if j=(G V) then cs1 else cs j))=((List.range (G V)).map λj=>jt (N j) (cs j))++[jt N1 cs1]:=by
   rw [b6,sA,wB,fK];congr 1
   ·refine sB λj hj=>?_;have:j≠(G V):=aaK;simp [this]
   ·simp
  rw [this,b6,sA];exact n
 ·by_cases d:j=G V
  ·subst d;simp only [jq];rw [lC,qx (aG _)];simp only [nK,List.getElem?_cons_zero,Option.getD_some];exact l.next a
  ·have c:j<(G V):=G0;simp only [d,k8];rw [lC,sy c,<- lC];exact (h.bk j c).next a
 ·rcases p with k|⟨g,k,t⟩
  ·rw [<- k] at b;exact h.ob q b
  ·rw [k] at b;cases b;refine ⟨λf=>?_,λf=>?_,λf=>?_⟩
   ·have:=i _ f;omega
   ·omega
   ·have:=m _ f;omega
def dP.erase (h:dP w1 S e D v V N cs) {i:Nat} (c:i<G V) (b:∀ q,S q->w2.heap[q]?=w1.heap[q]?) (m:w2.ownsRow 0 151 1 v' (G V - 1) (((List.range (G V)).map λj=>jt (N j) (cs j)).eraseIdx i)) (f:v'.ownBlock=v.ownBlock) :
  dP w2 S e D v' (V.eraseIdx i) (λj=>if j<i then N j else N (j+1)) (λj=>if j<i then cs j else cs (j+1)):=by
 have d:(V.eraseIdx i).length=G V - 1:=by rw [List.length_eraseIdx,aB c]
 refine ⟨?_,λj g=>?_,λq l=>h.ob q (f▸l)⟩
 ·have:((List.range (V.eraseIdx i).length).map λj=>jt (if j<i then N j else N (j+1)) (if j<i then cs j else cs (j+1)))=(((List.range (G V)).map λj=>jt (N j) (cs j)).eraseIdx i):=by
   apply rC
   ·simp [List.length_eraseIdx,c]
   ·intro k a n;rw [List.getElem_eraseIdx];simp only [kJ,List.getElem_range];split<;>simp_all
  rw [this,d];exact m
 ·rw [d] at g;by_cases a:j<i
  ·simp only [a,jq];rw [lC,List.getElem?_eraseIdx,aB a,<- lC];exact (h.bk j ae).next b
  ·simp only [a,k8];rw [lC,List.getElem?_eraseIdx,aA a,<- lC];exact (h.bk (j+1) ae).next b
end
section
variable {S S' S1 O:Nat->Prop} {e:Nat} {D Z:Nat->Prop} {σ σ0 σ1:bg} {v0 v1 v2 v3 v4 v5 v v':zV} {te:TypeId} {w w' W w1 w2 w3:zW} {V:List (List Wr)} {N:Nat->Nat} {cs:Nat->Array zV}
def kD (M:Nat) (a:List (List Wr)) (us:List Wr):List (List Wr):=if M<G a+1 then (a++[us]).eraseIdx 0 else a++[us]
def Ij (S:Nat->Prop) (e:Nat) (D:Nat->Prop) (M:Nat) (v0 c v4 v5:zV) (te:TypeId) (V:List (List Wr)) (w:zW) (r:Ending) (w':zW):Prop:=
 ∃ (a:zV) (d:Nat->Nat) (b:Nat->Array zV),r=.returned (.tuple #[])/\w'.heap[e]?=some (.cells #[v0,zI M,a,zN,v4,v5] te (0,0))/\dP w' S e D a V d b/\(c.ownBlock=a.ownBlock\/∃ g,a.ownBlock=some g/\w.heap.size<=g)/\Ks (λq=>q=e\/c.ownBlock=some q) w w'
def ab0 (M:Nat) (o:Option zD) (n m:Nat) (au:Option zD) (lu cu:Nat) (N1:Nat) (cs1:Array zV) (us:List Wr) (he:w.heap[e]?=some (.cells #[v0,zI M,.slice o n m,.slice au lu cu,v4,v5] te (0,0))) (hd:dP w S e D (.slice o n m) V N cs) (X:cO e D w S N1 cs1 us) (hS:∀ q,S q->q<w.heap.size/\q≠e) (hD:∀ q,D q->q<w.heap.size) (hM:M<=6) (T:(G V)<=M) :
  zC prog 100 #[.pointer (some ⟨e,1,none⟩),.func (.func N1) #[] cs1] w (Ij S e D M v0 (.slice o n m) v4 v5 te (kD M V us) w):=by
 obtain ⟨⟨e0,e1,e2,e3,e4,e5⟩,⟨z0,z1,z2,z3,z4,z5⟩,od⟩:=bJ he;obtain ⟨i1,gi,qh,qi,pD⟩:=fe mV;have K:(Value.slice o n m).ownBlock≠some e:=λh1=>(hd.ob e h1).2.1 rfl;have HO:=I (w9 (j:=3) (u:=zN) hd.own K);have HE:=I he;have HD:=I hd;have f:=I hS;have HDD:=I hD;have H:=I X;have hn7:(G V)<=6:=ae;clear hd he hS hD X;go_in;go_wp2_with (at_builtin;refine rq _ rfl (.tmp 11) (.tmp 13) 104 rfl 0 151 i1 .nilFunc 1 8 underlying104 gi qh qi pD rfl ai (.slice o n m) (G V) _ rfl (HO.o.alloc _) ⟨w.heap.size,0,none⟩ 1 1 [.func (.func N1) #[] cs1] rfl rfl (λq u c=>by have:=bC (w.setCell ⟨e,3,none⟩ (zN)) [.func (.func N1) #[] cs1] 151 q u c;simpa using this) (λu hu=>nw) ae jM ae ae (w.heap.size+1) aq ?_;intro g a w2 B b z hlt;apply Hid.o);have tA:g≠e:=by
  rcases z with h|h
  ·intro e';rw [e'] at h;exact K h
  ·omega
 have amd:e≠g:=λh=>tA h.symm;have l:w2.heap[e]?=some (.cells #[v0,zI M,.slice o n m,zN,v4,v5] te (0,0)):=by
  rw [b.block e aN (λh=>K h.symm),cj _ _ _ Og,aj HE.o];rfl
 obtain ⟨⟨k0,k1,k2,J,k4,k5⟩,⟨y0,y1,y2,y3,y4,y5⟩,Z⟩:=bJ l;have R:=b.size;simp at R;have kA:Ks (λq=>q=e\/(Value.slice o n m).ownBlock=some q) w (((w.setCell ⟨e,3,none⟩ (zN)).alloc (.cells #[.func (.func N1) #[] cs1] 151))):=((Ks.refl _ w).set e 3 _ (Or.inl rfl)).alloc _;have kB:Ks (λq=>q=e\/(Value.slice o n m).ownBlock=some q) ((w.setCell ⟨e,3,none⟩ (zN)).alloc (.cells #[.func (.func N1) #[] cs1] 151)) w2:=⟨b.os,b.tape,b.output,b.size,λk hk T=>b.block k hk (λh=>T (Or.inr h.symm))⟩;have L:=kA.t kB;have O:∀ q,S q->w2.heap[q]?=w.heap[q]?:=λq c=>L.block q (f.o q c).1 (by
  rintro (h1|h1)
  ·exact (f.o q c).2 h1
  ·exact (HD.o.ob q h1).1 c)
 have Q:dP w2 S e D (zS g (G V+1) a) (V++[us]) (λj=>if j=(G V) then N1 else N j) (λj=>if j=(G V) then cs1 else cs j):=by
  have hd1:dP (w.setCell ⟨e,3,none⟩ (zN)) S e D (.slice o n m) V N cs:=HD.o.keep (P:=λq=>q=e) ((Ks.refl (λq=>q=e) w).set e 3 _ rfl) (λq c=>cY _ _ _ _ (f.o q c).2) λq c=>(HD.o.ob q c).2.1;refine hd1.snoc (H.o.next λq c=>cY _ _ _ _ (f.o q c).2) (λq c=>by simpa using (f.o q c).1) Og (λq c=>by simpa using HDD.o q c) b B ?_;rcases z with h|h
  ·exact Or.inl h
  ·exact Or.inr ⟨g,rfl,aN⟩
 have C:(Value.slice o n m).ownBlock=some g\/w.heap.size<=g:=z.imp id λh=>ae;have s:=I Q;have HKK:=I L;have Y:=I l;have F:=I C;clear B b z l Q L kA kB O C;apply I;by_cases p:M<G V+1
 ·have hMz:(M:Int)<((G V):Int)+1:=ae;have HD2:=I (zf 0 g a 0 (G V) _ (w2.setCell ⟨e,2,none⟩ (zS g (G V+1) a)).drew (by
   have:=w9 (j:=2) (u:=zS g (G V+1) a) (q:=e) s.o.own aaC;rw [b6,sA] at this;exact aZ this (aM _ _).drew) (bE _) ae (λv hv=>by
   obtain ⟨j,_,rfl⟩:=bU.1 hv;rfl))
  have y:=I (show ∀ w3,Ks (λq=>q=g) (w2.setCell ⟨e,2,none⟩ (zS g (G V+1) a)).drew w3->w3.ownsRow 0 151 1 (zS g (G V) a) (G V) (((List.range (G V+1)).map λj=>jt (if j=(G V) then N1 else N j) (if j=(G V) then cs1 else cs j)).eraseIdx 0)->w3.heap[e]?=some (.cells #[v0,zI M,zS g (G V+1) a,zN,v4,v5] te (0,0))/\Ij S e D M v0 (.slice o n m) v4 v5 te (kD M V us) w (.returned (.tuple #[])) (w3.setCell ⟨e,2,none⟩ (zS g (G V) a)) from λw3 d A=>by
   have t:w3.heap[e]?=some (.cells #[v0,zI M,zS g (G V+1) a,zN,v4,v5] te (0,0)):=by
    rw [d.block e (by simpa using Z) (λh=>amd h)];show (w2.setCell ⟨e,2,none⟩ (zS g (G V+1) a)).heap[e]?=_;rw [aj Y.o];rfl
   have U:∀ q,S q->(w3.setCell ⟨e,2,none⟩ (zS g (G V) a)).heap[q]?=w2.heap[q]?:=λq c=>by
    have W:=(f.o q c).2;rw [cY _ _ _ _ W,d.block q (by have:=(f.o q c).1;simp;omega) (λh=>(s.o.ob g rfl).1 (h▸c))];show (w2.setCell ⟨e,2,none⟩ (zS g (G V+1) a)).heap[q]?=_;exact cY _ _ _ _ W
   have E:(V++[us]).length=G V+1:=aq;have x:=s.o.erase (w2:=w3.setCell ⟨e,2,none⟩ (zS g (G V) a)) (v':=zS g (G V) a) (i:=0) (by rw [E];omega) U (by
    rw [E,Nat.add_sub_cancel];exact w9 A aaC) rfl
   refine ⟨t,zS g (G V) a,_,_,rfl,(aj t _ _).t rfl,by unfold kD;rw [aB p];exact x,?_,?_⟩
   ·rcases F.o with h|h
    ·exact Or.inl h
    ·exact Or.inr ⟨g,rfl,h⟩
   ·have J:Ks (λq=>q=e\/(Value.slice o n m).ownBlock=some q) w (w2.setCell ⟨e,2,none⟩ (zS g (G V+1) a)).drew:=(HKK.o.set e 2 _ (Or.inl rfl)).t (Ks.of (aM _ _).drew);have k5:Ks (λq=>q=e\/(Value.slice o n m).ownBlock=some q) w w3:=by
     refine ⟨d.os.t J.os,d.tape.t J.tape,d.output.t J.output,bf J.size d.size,λk hk T=>?_⟩;rw [d.block k (bG hk J.size) (λh=>?_)]
     ·exact J.block k hk T
     ·rcases F.o with h'|h'
      ·exact T (Or.inr (by rw [h',h]))
      ·omega
    exact k5.set e 2 _ (Or.inl rfl))
  clear HO HE HD H;go_wp2_with fail
  go_region
  all_goals go_wp2_with (go_at_call 136;refine mo HD2.o ?_;rintro r w3 ⟨rfl,d,A⟩)
  all_goals obtain ⟨t,uh⟩:=y.o w3 d (by simpa using A)
  all_goals obtain ⟨⟨p0,p1,p2,p3,p4,p5⟩,⟨x0,x1,x2,x3,x4,x5⟩,EM⟩:=bJ t
  all_goals have HP:=I uh
  all_goals clear d A t uh
  all_goals apply I
  all_goals go_wp2
  all_goals refine aK (v:=.tuple #[]) aaq rfl ?_
  all_goals exact HP.o
 ·have hMz:¬ (M:Int)<((G V):Int)+1:=ae;have y:=I (show Ij S e D M v0 (.slice o n m) v4 v5 te (kD M V us) w (.returned (.tuple #[])) (w2.setCell ⟨e,2,none⟩ (zS g (G V+1) a)).drew from by
   have x:=s.o.keep (P:=λq=>q=e) (w':=(w2.setCell ⟨e,2,none⟩ (zS g (G V+1) a)).drew) (((Ks.refl (λq=>q=e) w2).set e 2 _ rfl).t (Ks.of (aM _ _).drew)) (λq c=>cY _ _ _ _ (f.o q c).2) λq c=>(s.o.ob q c).2.1;refine ⟨zS g (G V+1) a,_,_,rfl,(aj Y.o _ _).t rfl,by unfold kD;rw [aA p];exact x,?_,(HKK.o.set e 2 _ (Or.inl rfl)).t (Ks.of (aM _ _).drew)⟩
   ·rcases F.o with h|h
    ·exact Or.inl h
    ·exact Or.inr ⟨g,rfl,h⟩)
  clear HO HE HD H;go_wp2_with fail
  go_region
  all_goals go_wp2
  all_goals refine aK (v:=.tuple #[]) aaq rfl ?_
  all_goals exact y.o
end
section
structure fx (w:zW) (e:Nat) (S D:Nat->Prop) (σ:bg) (M:Nat) (U R Z:zV) (dn ud gr:List (List Wr)) (op:Bool):Prop where
 ph:cK w S e D σ (zI M) U R (.bool op) Z 108
 rd:∃ N cs,dP w S e D U dn N cs
 ru:∃ N cs,dP w S e D R ud N cs
 rg:∃ N cs,dP w S e D Z gr N cs
 du:∀ q,U.ownBlock=some q->R.ownBlock≠some q
 dg:∀ q,U.ownBlock=some q->Z.ownBlock≠some q
 ug:∀ q,R.ownBlock=some q->Z.ownBlock≠some q
 hM:M<=6
 len:(G dn)+G ud<=M
variable {S S' S1 O:Nat->Prop} {e:Nat} {D X:Nat->Prop} {σ σ0 σ1:bg} {v0 v1 v2 v3 v4 v5 v v':zV} {te:TypeId} {w w' W w1 w2 w3:zW} {V:List (List Wr)} {N:Nat->Nat} {cs:Nat->Array zV} {M:Nat} {U R Z:zV} {dn ud gr:List (List Wr)} {op:Bool}
def jd (e:Nat) (D:Nat->Prop) (U R Z:zV) (q:Nat):Prop:=q=e\/D q\/U.ownBlock=some q\/R.ownBlock=some q\/Z.ownBlock=some q
def fx.agW (h:fx w e S D σ M U R Z dn ud gr op):∀ q,S q->¬ jd e D U R Z q:=by
 rintro q b (a|a|a|a|a)
 ·exact h.ph.eS (a▸b)
 ·exact (h.ph.bX q a).1 b
 ·obtain ⟨N,cs,c⟩:=h.rd;exact (c.ob q a).1 b
 ·obtain ⟨N,cs,c⟩:=h.ru;exact (c.ob q a).1 b
 ·obtain ⟨N,cs,c⟩:=h.rg;exact (c.ob q a).1 b
def fx.ltW (h:fx w e S D σ M U R Z dn ud gr op):∀ q,jd e D U R Z q->q<w.heap.size:=by
 rintro q (a|a|a|a|a)
 ·rw [a];exact h.ph.lt
 ·exact (h.ph.bX q a).lt
 ·obtain ⟨N,cs,b⟩:=h.rd;exact b.lt q a
 ·obtain ⟨N,cs,b⟩:=h.ru;exact b.lt q a
 ·obtain ⟨N,cs,b⟩:=h.rg;exact b.lt q a
def fx.keep {P:Nat->Prop} (h:fx w e S D σ M U R Z dn ud gr op) (b:Ks P w w') (f:∀ q,S q->¬ P q) (c:∀ q,jd e D U R Z q->¬ P q):fx w' e S D σ M U R Z dn ud gr op:=by
 have blk:∀ q,S q->w'.heap[q]?=w.heap[q]?:=λq a=>b.block q (h.ph.still q a) (f q a);refine ⟨h.ph.same ?_ b.size,?_,?_,?_,h.du,h.dg,h.ug,h.hM,h.len⟩
 ·rintro q (a|a|a)
  ·exact blk q a
  ·exact b.block q (h.ltW q (Or.inl a)) (c q (Or.inl a))
  ·exact b.block q (h.ltW q (Or.inr (Or.inl a))) (c q (Or.inr (Or.inl a)))
 ·obtain ⟨N,cs,d⟩:=h.rd;exact ⟨N,cs,d.keep b blk λq a=>c q (Or.inr (Or.inr (Or.inl a)))⟩
 ·obtain ⟨N,cs,d⟩:=h.ru;exact ⟨N,cs,d.keep b blk λq a=>c q (Or.inr (Or.inr (Or.inr (Or.inl a))))⟩
 ·obtain ⟨N,cs,d⟩:=h.rg;exact ⟨N,cs,d.keep b blk λq a=>c q (Or.inr (Or.inr (Or.inr (Or.inr a))))⟩
def fx.next (h:fx w e S D σ M U R Z dn ud gr op) (a:zB w w'):fx w' e S D σ M U R Z dn ud gr op:=
 h.keep (P:=λ_=>False) (Ks.of a) (λ_ _ h=>h) λ_ _ h=>h
def dP.tF (h:dP w S e D v V N cs) (b:∀ q,S q->q≠e) (j:Nat) (u:zV):dP (w.setCell ⟨e,j,none⟩ u) S e D v V N cs:=
 h.keep (P:=λq=>q=e) ((Ks.refl (λq=>q=e) w).set e j u rfl) (λq a=>cY _ _ _ _ (b q a)) λq a=>(h.ob q a).2.1
def cK.beside (h:cK w S e D σ v1 v2 v3 v4 v5 te) {u1 u2 u3 u4 u5:zV} (f:Ks (λq=>q=e) w w') (g:∀ a c,w.heap[e]?=some (.cells #[.slice a σ.ord.length c,v1,v2,v3,v4,v5] te (0,0))->w'.heap[e]?=some (.cells #[.slice a σ.ord.length c,u1,u2,u3,u4,u5] te (0,0))):cK w' S e D σ u1 u2 u3 u4 u5 te:=by
 obtain ⟨a,c,l,j,k,i⟩:=h.row;have blk:∀ q,S q->w'.heap[q]?=w.heap[q]?:=λq b=>f.block q (h.still q b) (λd=>h.eS (d▸b));exact ⟨λq b=>bG (h.still q b) f.size,h.eS,h.eD,λq b=>(h.bX q b).stays (f.block q (h.bX q b).lt λd=>h.eD (d▸b)) blk,h.sub,a,c,l.next blk,j,k,g a c i⟩
def xb (e:Nat) (w:zW) (op:Bool) (r:Ending) (w':zW):Prop:=if op=true then r=.returned (zI 9)/\w'=w else r=.returned (zI 0)/\w'=w.setCell ⟨e,4,none⟩ (.bool true)
def ae6 (a:w.heap[e]?=some (.cells #[v0,v1,v2,v3,.bool op,v5] te (0,0))):zC prog 66 #[.pointer (some ⟨e,1,none⟩)] w (xb e w op):=by
 obtain ⟨⟨d,e1,c,j,k,f⟩,⟨z0,m,i,g,h,l⟩,b⟩:=bJ a;clear a;unfold xb;cases op with
 | true=>
  go_in;go_wp2;go_ret;simp
 | false=>
  go_in;go_wp2;go_ret;simp
def fx.begin (h:fx w e S D σ M U R Z dn ud gr false):fx (w.setCell ⟨e,4,none⟩ (.bool true)) e S D σ M U R Z dn ud gr true:=by
 have hS:∀ q,S q->q≠e:=λq f d=>h.ph.eS (d▸f);refine ⟨h.ph.beside ((Ks.refl (λq=>q=e) w).set e 4 _ rfl) λa c b=>(aj b 4 _).t rfl,?_,?_,?_,h.du,h.dg,h.ug,h.hM,h.len⟩
 ·obtain ⟨N,cs,hr⟩:=h.rd;exact Nr
 ·obtain ⟨N,cs,hr⟩:=h.ru;exact Nr
 ·obtain ⟨N,cs,hr⟩:=h.rg;exact Nr
def qU (e:Nat) (Z:zV) (w:zW) (op:Bool) (r:Ending) (w':zW):Prop:=if op=true then r=.returned (.tuple #[Z,zI 0])/\w'=(w.setCell ⟨e,4,none⟩ (.bool false)).setCell ⟨e,5,none⟩ (zN) else r=.returned (.tuple #[zN,zI 10])/\w'=w
def RV (ag:Option zD) (a b:Nat) (c:w.heap[e]?=some (.cells #[v0,v1,v2,v3,.bool op,.slice ag a b] te (0,0))):zC prog 71 #[.pointer (some ⟨e,1,none⟩)] w (qU e (.slice ag a b) w op):=by
 obtain ⟨⟨g,e1,f,l,m,h⟩,⟨z0,o,k,i,j,n⟩,d⟩:=bJ c;clear c;unfold qU;cases op with
 | false=>
  go_in;go_wp2;refine aK (v:=.tuple #[zN,zI 10]) aaD gN ?_;simp
 | true=>
  go_in;go_wp2;refine aK (v:=.tuple #[.slice ag a b,zI 0]) aaD gN ?_;simp
def fx.ended (h:fx w e S D σ M U R Z dn ud gr true):fx ((w.setCell ⟨e,4,none⟩ (.bool false)).setCell ⟨e,5,none⟩ (zN)) e S D σ M U R (zN) dn ud [] false/\∃ N cs,dP ((w.setCell ⟨e,4,none⟩ (.bool false)).setCell ⟨e,5,none⟩ (zN)) S e D Z gr N cs:=by
 have hS:∀ q,S q->q≠e:=λq d b=>h.ph.eS (b▸d);refine ⟨⟨h.ph.beside (((Ks.refl (λq=>q=e) w).set e 4 _ rfl).set e 5 _ rfl) λa c h1=>(aj (aj h1 4 _) 5 _).t rfl,?_,?_,⟨_,_,dP.nil _ _ _ _⟩,h.du,λq _ h1=>Gy,λq _ h1=>Gy,h.hM,h.len⟩,?_⟩
 ·obtain ⟨N,cs,hr⟩:=h.rd;exact Nj
 ·obtain ⟨N,cs,hr⟩:=h.ru;exact Nj
 ·obtain ⟨N,cs,hr⟩:=h.rg;exact Nj
end
section
open Go.RowKit Go.Shelf
attribute [local go_sem] Oper.semAt_some
def ag4 (w:zW) (n:Nat) (b:Nat->zV) (a:List { i:Nat // i<n }) (W:zW):Prop:=
 ∃ v,Boxed W w.heap.size 101 v/\W.ownsRow w.heap.size 220 1 v (G a) (a.map λx=>b x.1)/\zB w W
def U0 {w:zW} {n B:Nat} {h:Nat->zV} (k:w.heap.size<=B):OwnFrom B (ag4 w n h):=by
 rintro f W j row ⟨v,b,c,h3⟩ a hr;refine ⟨v,b.kept a λe'=>?_,?_,⟨a.os.t h3.os,a.tape.t h3.tape,a.output.t h3.output,bf h3.size a.size,λq hq=>?_⟩⟩
 ·obtain ⟨_,o,h4,h5⟩:=hr _ e'.symm;rw [show W.heap[w.heap.size]?=_ from b] at h4;cases h4;simp [Obj.isCells] at h5
 ·refine iy c (P:=λq=>some q=row) ⟨a.os,a.tape,a.output,a.size,λq hq e=>a.block q hq e⟩ λq hq e'=>?_;rcases c.2 with ⟨h3,_⟩|⟨g,i,d,h3,_,h4,_⟩
  ·exact BZ
  ·exact Xn
 ·rw [a.block q (bG hq h3.size) λe'=>by have:=(hr q e'.symm).1;omega];exact h3.block q hq
def acN (n:Nat) (f:Nat->zV):(IE n n (aG _)).map (λx=>f x.1)=(List.range n).map f:=by
 have:∀ k h,(IE n k h).map (λx=>f x.1)=(List.range k).map f:=by
  intro k
  induction k with
  | zero=>intro _;rfl
  | succ k a=>intro h;rw [IE,fK,a,wB,fK];rfl
 exact this n _
def appendSeq (L n c:Nat) (a:Option zD) (H:Nat->Nat) (w:zW) (hn:n<=1000) (U:L<w.heap.size) (hBs:w.cell? ⟨L,0,none⟩=some (.slice a n c)) (ha:n=0\/∃ h o,a=some ⟨h,o,none⟩/\h<w.heap.size) (hc:∀ j,j<n->∀ h o,a=some ⟨h,o,none⟩->w.cell? ⟨h,o+j,none⟩=some (.pointer (some ⟨H j,0,none⟩))) :
  zC prog 201 #[zN,.func (.func 171) #[] #[zJ L]] w λr w'=>∃ C ln cn,r=.returned (.slice C ln cn)/\w'.ownsRow w.heap.size 220 1 (.slice C ln cn) n ((List.range n).map λj=>.pointer (some ⟨H j,0,none⟩))/\zB w w':=by
 have JA:n<=maxLen:=jM;have HC:=I hc;have HA:=I ha;clear hc ha;refine (wE (n:=3)).1 ?_;refine callsIn_of_wp_marks func201 rfl trivial ?_ rfl;simp only [ntmps201,wq,gS,nZ,Nat.reduceAdd,Nat.reduceSub,wb,wh,wu,wm,ko,gT]
 gi_wp2
 have Q:zB w (w.alloc (.cells #[zN] 101)):=(aM _ _).alloc (aG _) _;have bO:=Boxed.new w 101 (zN);refine wpIn_rangeFunc_ownG rfl ae (gf:=171) (lb:=#[zJ L]) rfl trivial (oK func171 aD rfl)
  (Ep _ ae L n c a (λi=>.pointer (some ⟨H i,0,none⟩)) (λq=>q<w.heap.size) JA U _ (λq hq=>aN) ((Q.cell (p:=⟨L,0,none⟩) U).t hBs) HA.o (λi hi h o D=>by
   rcases HA.o with h0|⟨h',o',h1,h2⟩
   ·omega
   ·rw [D] at h1;cases h1;exact (Q.cell (p:=⟨h,o+i,none⟩) h2).t (HC.o i hi h o D)))
  (λh1 h2=>⟨bf h1.1 h2.1,λq hq=>(h2.2 q hq).t (h1.2 q hq)⟩)
  (λW l o o' hl ho _ _=>⟨aq,λq hq=>World.putObj_heap_other (λD=>by simp at hl;omega)⟩)
  (aM _ _) (λ_=>rfl) (ag4 w n (λi=>.pointer (some ⟨H i,0,none⟩))) (λ_ _ _=>False)
  (U0 aq) (λ_ _ _ _ _ hs _ _=>hs)
  ⟨zN,bO,eW _ _ _ _,Q⟩
  (λx=>{ tmps:=#[zN,.func (.func 171) #[] #[zJ L],zJ w.heap.size,undef,zN,.pointer (some ⟨H x.1,0,none⟩),.func (.func 171) #[] #[zJ L],.pointer (some ⟨H x.1,0,none⟩),undef,undef,undef,undef,undef],defers:=[] }) ?assign ?body ?done ?stop
 case assign=>
  intro l x W K Z
  gi_wp2
  exact Z
 case body=>
  rintro l F x W ⟨v,b,d,e⟩ V;obtain ⟨i1,gi,qh,qi,pD⟩:=fe oX;obtain ⟨C,ln,cn,rfl⟩:=b7 d;have hcb:=b.cell;have hwW:=e.size;have hpl:(G F)<n:=V;have hno:(Value.slice C ln cn).ownBlock≠some w.heap.size:=λh1=>b.not_row ai d h1.symm;have hwB:w.heap.size<W.heap.size:=b.lt;have HBX:=I b;have O:=I d;have E:=I e;clear b d e V
  gi_wp2_with (first|(gi_at_builtin;refine wpListIn_append_own _ rfl _ _ 101 rfl w.heap.size 220 i1 (.pointer none) 1 8 underlying101 gi qh qi pD rfl ai _ _ _ rfl (O.o.alloc _) ⟨W.heap.size,0,none⟩ 1 1 [.pointer (some ⟨H x.1,0,none⟩)] rfl rfl (λq u hq=>bC W [.pointer (some ⟨H x.1,0,none⟩)] 220 q u hq) (λu hu=>nw) ae ae aN ?_;intro v' w3 f m M;have k:Boxed w3 w.heap.size 101 (.slice C ln cn):=(m.block _ aN (λh1=>hno h1.symm)).t ((cj W _ _ ae).t HBX.o);have Rw:=k.cell;have Rx:=k.frozen;obtain ⟨z,A,y,rfl⟩:=b7 f;have H1:=I f;have H2:=I m;have H3:=I k;clear f m M k;go_frame)|gi_in)
  have s:=H2.o;have m:=s.size;simp at m;have X:∀ q,q≠w.heap.size->(w3.setCell ⟨w.heap.size,0,none⟩ (.slice z A y)).heap[q]?=w3.heap[q]?:=λq hq=>cY _ _ _ _ hq;have t:∀ q,q<W.heap.size->q≠w.heap.size->(Value.slice C ln cn).ownBlock≠some q->(w3.setCell ⟨w.heap.size,0,none⟩ (.slice z A y)).heap[q]?=W.heap[q]?:=λq hq h1 h3=>by
   rw [X q h1,s.block q aN (λh=>h3 h.symm),cj _ _ _ ae]
  have J:∀ q,q<w.heap.size->(Value.slice C ln cn).ownBlock≠some q:=λq hq h1=>by
   have:=(O.o.lt q h1).1;omega
  have S:(Value.slice z A y).ownBlock≠some w.heap.size:=λh1=>H3.o.not_row ai H1.o h1.symm;have N:=H3.o.set (.slice z A y);have Y:(F++[x]).length=G F+1:=aq;refine ⟨⟨aN,λq o hB hq ho=>?_⟩,⟨aN,λq hq=>t q ae ae (J q hq)⟩,.slice z A y,N,?_,⟨?_,?_,?_,aN,λq hq=>(t q ae ae (J q hq)).t (E.o.block q hq)⟩⟩
  ·refine (t q (cz.1 hq).1 ae λh1=>?_).t hq;rcases O.o.2 with ⟨h3,_⟩|⟨gg,cap,cur,h3,_,h4,_⟩
   ·rw [h3] at h1;simp [Value.ownBlock] at h1
   ·exact XR
  ·rw [Y,fK];exact iy H1.o (P:=λq=>q=w.heap.size) ((Ks.refl _ _).set w.heap.size 0 _ rfl) λq hq D=>S (by rw [hq,D])
  ·exact s.os.t E.o.os
  ·exact s.tape.t E.o.tape
  ·exact s.output.t E.o.output
 case done=>
  rintro T ys W hD rfl ⟨v,b,d,e⟩ Z;have hcell:=b.cell;obtain ⟨C,ln,cn,rfl⟩:=b7 d;have HB:=I b;have HO:=I d;have R:=I e;have HK:=I Z;clear b d e Z
  gi_wp2
  refine ⟨aq,.inl ⟨_,_,rfl,run_takeDeferred HK.o,?_⟩⟩;have B:=grownBy_putObj' W T (.deferred none);have hDl:T<W.heap.size:=(cz.1 HK.o).1;have hDw:w.heap.size<T:=by simp at hD;omega
  refine ⟨.slice C ln cn,by simp [results,f201,go_sem],C,ln,cn,rfl,?_,⟨B.os.t R.o.os,B.tape.t R.o.tape,B.output.t R.o.output,bf R.o.size B.size,λq hq=>(B.block q (bG hq R.o.size) λD=>by cases D;omega).t (R.o.block q hq)⟩⟩;have ho:=HO.o;rw [uw,acN n (λi=>.pointer (some ⟨H i,0,none⟩))] at ho;refine iy ho (P:=λq=>some q=some T) ⟨B.os,B.tape,B.output,B.size,λq hq hn=>B.block q hq hn⟩ λq hq D=>?_;cases D;rcases ho.2 with ⟨h3,_⟩|⟨g,cap,cur,h3,_,h4,_⟩
  ·exact BZ
  ·rw [h3] at hq;simp [Value.ownBlock] at hq;subst hq;have:=HK.o;rw [h4] at this;cases this
 case stop=>
  rintro T c F W _ _ h _;exact h.elim
def collect (f n c:Nat) (a:Option zD) (i:Nat->Nat) (w:zW) (m:n<=1000) (d:f<w.heap.size) (b:w.cell? ⟨f,0,none⟩=some (.slice a n c)) (q:n=0\/∃ h o,a=some ⟨h,o,none⟩/\h<w.heap.size) (p:∀ j,j<n->∀ h o,a=some ⟨h,o,none⟩->w.cell? ⟨h,o+j,none⟩=some (.pointer (some ⟨i j,0,none⟩))) :
  zC prog 169 #[.func (.func 171) #[] #[zJ f]] w λr w'=>∃ g ln cn,r=.returned (.slice g ln cn)/\w'.ownsRow w.heap.size 220 1 (.slice g ln cn) n ((List.range n).map λj=>.pointer (some ⟨i j,0,none⟩))/\zB w w':=by
 have H:=I (appendSeq f n c a i w m d b q p);clear m d b q p;go_in;go_wp2_with (go_at_call 201;refine H.o.m ?_;rintro e w' ⟨g,ln,cn,rfl,k,l⟩;have t:=I k;have s:=I l;clear k l);go_ret;exact ⟨g,ln,cn,rfl,t.o,s.o⟩
end
section
open Go.RowKit Go.Shelf Go.Sort
def Sg (w:zW) (a:Option zD) (gs:List (Nat × Fd)):Prop:=∀ j (b:j<G gs),∃ g,a=some ⟨g,0,none⟩/\w.cell? ⟨g,j,none⟩=some (.pointer (some ⟨gs[j].1,0,none⟩))
def U3 {S:Nat->Prop} (t c:Nat) (a:Option zD) (fs:List (Nat × Fd)) (w:zW) (hs:Sh w S a fs) (p:t<w.heap.size) (n:w.cell? ⟨t,0,none⟩=some (.slice a (G fs) c)) (q:(G fs)<=12) :
  zC prog 138 #[.func (.func 171) #[] #[zJ t],.func (.func 140) #[] #[]] w λr w'=>∃ u y,r=.returned (.slice u (G fs) y)/\Hid (Sg w' u (kS fs))/\Hid (zB w w'):=by
 have b:=collect t (G fs) c a (λj=>(fs.getD j (0,⟨[],.atom 0 [] 0,(0,0)⟩)).1) w ae p n (by
  by_cases H:(G fs)=0
  ·exact Or.inl H
  ·obtain ⟨g,o,d,l,_⟩:=hs.ptr 0 ae;exact Or.inr ⟨g,o,d,hs.still g l⟩) (λj x h o D=>by
  obtain ⟨g,M,d,l,K⟩:=hs.ptr j x;rw [D] at d;cases d;rw [K];simp [lC,x])
 have k:(List.range (G fs)).map (λj=>Value.pointer (some ⟨(fs.getD j (0,⟨[],.atom 0 [] 0,(0,0)⟩)).1,0,none⟩))=fs.map λf=>Value.pointer (some ⟨f.1,0,none⟩):=by
  apply rC
  ·simp
  ·intro i d l;simp at d;simp [lC,d]
 rw [k] at b;have s:=I (b.m (R':=λr w1=>∃ m ln cn,r=.returned (.slice m ln cn)/\Hid (zB w w1)/\Hid (zC prog 170 #[.slice m ln cn,.func (.func 140) #[] #[]] w1 λe w'=>e=.returned (.tuple #[])/\ln=G fs/\Hid (Sg w' m (kS fs))/\Hid (zB w w'))) (by
  rintro r w1 ⟨m,ln,cn,rfl,d,l⟩;refine ⟨m,ln,cn,rfl,l,?_⟩;refine (afw (S:=S) fs w1 w.heap.size (.slice m ln cn) (λf z=>⟨(hs.next l).bX f z,(hs.bX f z).lt⟩) d l.size q).m ?_;rintro e w' ⟨rfl,A,u,y,B,N,E⟩;cases B;exact ⟨rfl,rfl,E,l.t A⟩))
 clear b k hs p n q;go_in;go_wp2_with (go_at_call 169;refine mo s.o ?_;rintro e w1 ⟨m,ln,cn,rfl,L,J⟩);apply I;go_wp2_with (go_at_call 170;refine J.o.m ?_;rintro e w2 ⟨rfl,v,C,F⟩;subst v);go_ret;exact ⟨m,cn,rfl,C,F⟩
def afy (n j gk:Nat) (h:j<n) (a:n<=j+gk):n<=j+1+(n - (j+1))/\n - (j+1)<gk:=ae
def ajo {S:Nat->Prop} (e c:Nat) (a:Option zD) (fs:List (Nat × Fd)) (w:zW) (hs:Sh w S a fs) (hE:Env w) (hc:w.cell? ⟨e,0,none⟩=some (.slice a (G fs) c)) (he:e<w.heap.size) (hl:(G fs)<=12) (z:∀ f,f∈fs->G f.2.nm<=100) :
  zC prog 104 #[zJ e] w λr w'=>r=.returned (.string ⟨(sK fs).toArray⟩)/\zB w w':=by
 have HV:=I (λW=>acM a (G fs) c W);have u:=I hs;have B:=I z;have L:=I (λ(W:zW) (hW:Below (w.alloc (.cells #[.slice a (G fs) c] 101)).heap.size (w.alloc (.cells #[.slice a (G fs) c] 101)) W)=>U3 (S:=S) w.heap.size c a fs W ((hs.next (bZ _)).next hW) NC ((hW.cell (p:=⟨w.heap.size,0,none⟩) aq).t (bq _ _ 0 _ _ _ (bL w (.cells #[.slice a (G fs) c] 101)))) hl);clear hs z;go_in;go_wp2_with (first|(go_at_call 139;refine (HV.o _).m ?_;rintro r w1 ⟨rfl,rfl⟩)|(go_at_call 138;refine (L.o _ (aM _ _)).m ?_;rintro r w2 ⟨a',c',rfl,P1,B1⟩));have HB0:=I (afx w2);have hw2:w.heap.size+1<=w2.heap.size:=by have:=B1.o.size;simpa using this
 have F:=I (show zB w w2 from (bZ _).t (B1.o.m aq));have k:=I (And.intro (nE fs).1.length_eq λf (o:f∈kS fs)=>(nE fs).1.mem_iff.1 o);have R:=I (Eq.refl (sK fs));generalize E:kS fs=gs at P1 k;have y:Hid (sK fs=gs.flatMap λf=>mN f.2):=by rw [<- E];exact I rfl
 clear R E L HV B1;generalize hn:(G fs)=n at *;clear hn;go_loopg [15] n (λgk i wr=>∃ j:Nat,j<=n/\n<=j+gk/\i=zI j/\Hid (Bu w2.heap.size ((gs.take j).flatMap λf=>mN f.2) wr/\qs w2.heap.size (w2.alloc (.cells #[.pointer none,zN] 170)) wr))
 case atStart=>exact ⟨0,bE _,ae,rfl,I ⟨HB0.o,qs.refl _ _⟩⟩
 case round=>
  obtain ⟨j,hj,T,rfl,x⟩:=hrel;by_cases m:j<n
  ·have t:j<(G gs):=by rw [k.o.1];exact m
   obtain ⟨g,ha',b⟩:=P1.o j t;subst ha';have o:gs[j]∈fs:=k.o.2 _ (bt t);obtain ⟨_,yP,K,l,a1,l1,c1,hb,hP⟩:=u.o.bX _ o;have arX:=B.o _ o;have D:=(u.o.bX _ o).lt;have OP:((gs.take j).flatMap λf=>mN f.2).length<=2448:=by
    have h1:=U4 (gs.take j) λf o=>⟨B.o f (k.o.2 f (lS o)),by obtain ⟨_,_,_,h1,_⟩:=u.o.bX f (k.o.2 f (lS o));exact h1⟩;have h2:(gs.take j).length<=12:=aN;omega
   have s:zB w2 wr:=(bZ _).t x.o.2.bS;have h:zB w wr:=F.o.t (s.m ae);have O:g<w2.heap.size:=by
    obtain ⟨_,_,_,h1,_⟩:=cells_of_cell? b;exact Gs
   have hcx:wr.cell? ⟨g,j,none⟩=some (.pointer (some ⟨gs[j].1,0,none⟩)):=(s.cell (p:=⟨g,j,none⟩) O).t b;have H:=I (show (gs.take (j+1)).flatMap (λf=>mN f.2)=(gs.take j).flatMap (λf=>mN f.2)++mN gs[j].2 from by
    rw [vJ t,yo];simp)
   generalize Q:gs[j]=f at *;have HR:=I ((h.block f.1 D).t hb);obtain ⟨⟨k0,k1,k2,k3,k4,k5,k6⟩,OJ,hsz⟩:=fP HR.o;have HPL:=I (λ(W:zW) (hW:zB wr W)=>uy f.2.p a1 l1 c1 W ((hP.next λq J=>h.block q (u.o.still q J)).next λq J=>hW.block q (bG (u.o.still q J) h.size)) (λq J=>bG (u.o.still q J) (bf h.size hW.size)) ((hE.next h).next hW) K ae);have X:=I (λ(W:zW) (hW:zB wr W)=>ag6 w2.heap.size ((gs.take j).flatMap λf=>mN f.2) (mN f.2) W (x.o.1.next hW) (by have:=Fz f.2;omega));simp only [zG] at X;rw [Lg] at X;have N4:(j:Int)<(n:Int):=ae;have Y:wrap64 ((j:Int)+1)=((j+1:Nat):Int):=Lf n j jM m;have M:=I (show ∀ w3 w4,zB wr w3->Bu w2.heap.size ((gs.take j).flatMap (λf=>mN f.2)++mN f.2) w4->qs w2.heap.size w3 w4->(Bu w2.heap.size ((gs.take (j+1)).flatMap λf=>mN f.2) w4/\qs w2.heap.size (w2.alloc (.cells #[.pointer none,zN] 170)) w4) from λw3 w4 h3 h4 h5=>by
    rw [H.o];exact ⟨h4,(x.o.2.next h3 (lF x.o.1.2)).t h5⟩)
   have b1:¬ 9223372036854775807<List.length f.2.nm+3:=ae;have b2:¬ 9223372036854775807<List.length f.2.nm+3+List.length (txt f.2.p):=ae;have b3:¬ 9223372036854775807<List.length f.2.nm+3+List.length (txt f.2.p)+1:=ae;clear hb hP yP K l b s h Q;have HM:=I (afy n j _ m T)
   go_upto_block 1 with fail
   go_cut [15] (λV wc=>V=zI j/\Hid (Bu w2.heap.size ((gs.take (j+1)).flatMap λf=>mN f.2) wc/\qs w2.heap.size (w2.alloc (.cells #[.pointer none,zN] 170)) wc))
   case first=>
    go_wp2_with fail
    go_region_with (first|(go_at_call 44;refine (HPL.o _ (aM _ _).drew).m ?_;rintro r w3 ⟨rfl,N⟩;have C3:=I ((aM wr.heap.size wr).drew.t N);obtain ⟨⟨m0,m1,m2,m3,m4,m5,m6⟩,mfz,msz⟩:=fP ((C3.o.block f.1 hsz).t HR.o);clear N)|(go_at_call 131;refine (X.o _ C3.o).m ?_;rintro r w4 ⟨rfl,A,C⟩;have Z:=I (M.o _ _ C3.o A C);clear A C))
    all_goals (go_wp2_with fail;go_meet;exact ⟨rfl,Z⟩)
   case rest=>
    obtain ⟨rfl,Z⟩:=hcut;go_wp2;go_roundg (n - (j+1))
    case measure=>exact HM.o.2
    case rel=>exact ⟨j+1,m,HM.o.1,by rw [Y],Z⟩
  ·obtain rfl:j=n:=ae;have d:Hid (Bu w2.heap.size (sK fs) wr/\zB w wr):=by
    have h1:=x.o.1;rw [qy (by rw [k.o.1];exact aG _),<- y.o] at h1;exact I ⟨h1,F.o.t (((bZ _).t x.o.2.bS).m ae)⟩
   have hni:¬ (j:Int)<(j:Int):=ae;obtain ⟨tx,l⟩:∃ tx,sK fs=tx:=⟨_,rfl⟩;rw [l] at d;have P:=I l;clear l;go_wp2_with (go_at_call 96;refine (Builder_String_any_k w2.heap.size w2.heap.size tx _ d.o.1.1 (by have:=d.o.1.2;omega)).m ?_;rintro r w5 ⟨rfl,Gd,U⟩);refine aK (v:=zG tx) (by simp [results,results104,go_sem]) gN ?_;rw [P.o];exact ⟨rfl,d.o.2.t (U.1.m ae)⟩
end
end Go.Proofs.YtihgojcfpnhelaaGreatDoor
