import Derived.Test.YtihgojcfpnhelaaGreatDoorQj
import Derived.Test.YtihgojcfpnhelaaGreatDoorNa
import Derived.Test.YtihgojcfpnhelaaGreatDoorNg
set_option maxRecDepth 100000
set_option maxHeartbeats 4000000
set_option linter.all false
namespace Go.Proofs.YtihgojcfpnhelaaGreatDoor
open Value renaming slice->B,agg->zd,tuple->zp,bool->zF,pointer->zK
open Obj renaming cells->zM
open Ending renaming returned->zP
open Option renaming some->A
open Or renaming inl->zR,inr->zZ
open Go renaming World->zW,Value->zV,Calls->zC,Addr->zD
open Go.RowKit Go.Proofs.Tryz
open List renaming length→G
def Cv (e:Nat) (a:Option zD) (l c:Nat) (f:Option zD) (d b:Nat) (v1 v2 v3 v4 v5:zV) (te:TypeId) (w:zW) (i:w.heap[e]?=A (zM #[B a l c,v1,v2,v3,v4,v5] te (0,0))) :
  zC prog 163 #[zJ e,B f d b] w λr C=>∃ g h,r=zP (.func (.func 192) #[] #[zJ g,zJ h])/\C.heap[e]?=A (zM #[B f d b,v1,v2,v3,v4,v5] te (0,0))/\Ks (λq=>q=e) w C/\w.heap.size<=g/\w.heap.size<=h/\C.heap[g]?=A (zM #[zJ e] 253 (0,0))/\C.heap[h]?=A (zM #[B a l c] 101 (0,0)):=by
 obtain ⟨⟨j,_,_,_,_,_⟩,⟨z0,_,_,_,_,_⟩,D⟩:=bJ i;refine (U8 e 0 a l c f d b w j z0 D).m ?_;rintro r C ⟨rfl,rfl⟩;refine ⟨_,_,rfl,?_,(((Ks.refl (λq=>q=e) w).set e 0 _ rfl).alloc _).alloc _,aG _,by omega,?_,?_⟩
 .rw [cj _ _ _ (by simp;omega),cj _ _ _ (by simpa using D),aj i];rfl
 .have:=fX (w.setCell (yh e) (B f d b)) #[zJ e] 253 (zM #[B a l c] 101);simpa using this
 .have:=bc (w.setCell (yh e) (B f d b)) (zM #[zJ e] 253) #[B a l c] 101;simpa using this
structure FrW (S:Nat->Prop) (e c:Nat) (a:Option zD) (fs:List (Nat × Fd)) (x:By) (p:Pt) (v1 v2 v3 v4 v5:zV) (te:TypeId) (w w3:zW) (b g cap g1 g2:Nat):Prop where
 sh:Sh w3 (λq=>S q\/q=g) (A (yh g)) (fs++[(b,⟨x,p,(0,0)⟩)])
 hb:w.heap.size<=b
 hg:w.heap.size<=g
 cp:G fs+1<=cap
 row:w3.heap[e]?=A (zM #[zS g (G fs+1) cap,v1,v2,v3,v4,v5] te (0,0))
 ks:Ks (λq=>q=e) w w3
 hg1:w.heap.size<=g1
 hg2:w.heap.size<=g2
 hc1:w3.heap[g1]?=A (zM #[zJ e] 253 (0,0))
 hc2:w3.heap[g2]?=A (zM #[B a (G fs) c] 101 (0,0))
def xr (e c:Nat) (a:Option zD) (fs:List (Nat × Fd)) (b:Nat) (H:Option zD->Nat->Nat->zV->Int->zW->Prop) (f:zW):Prop:=
 zC prog 164 #[B (A (yh (f.heap.size+1))) 2 2] ((f.alloc (zM #[zJ b] 220)).alloc (zM #[B a (G fs) c,zS f.heap.size 1 1] 101)).drew λr K=>∃ g d,r=zP (zS g (G fs+1) d) /\
  zC prog 163 #[zJ e,zS g (G fs+1) d] K λr L=>∃ h i,r=zP (.func (.func 192) #[] #[zJ h,zJ i]) /\
   zC prog 161 #[zJ e,zJ b,.func (.func 192) #[] #[zJ h,zJ i]] L λr M=>∃ (j:Option zD) (F D:Nat) (C:zV) (E:Int),r=zP (zp #[B j F D,C,J E])/\H j F D C E M
def Qu {S:Nat->Prop} (e c:Nat) (a:Option zD) (fs:List (Nat × Fd)) (x:By) (p:Pt) (b:Nat) (v1 v2 v3 v4 v5:zV) (te:TypeId) (w l:zW) (R:Option zD->Nat->Nat->zV->Int->zW->Prop) (hs:Sh w S a fs) (s:zB w l) (k:w.heap[e]?=A (zM #[B a (G fs) c,v1,v2,v3,v4,v5] te (0,0))) (v:fB l S b ⟨x,p,(0,0)⟩) (W:w.heap.size<=b) (al:l.heap.size=w.heap.size+2) (hl:G fs<10) (ad:∀ f,f∈fs->f.1≠e) (an:¬ S e) (ha:a=none->c=0)
  (hf:∀ g u L N w3,FrW S e c a fs x p v1 v2 v3 v4 v5 te w w3 b g u L N->zC prog 161 #[zJ e,zJ b,.func (.func 192) #[] #[zJ L,zJ N]] w3 λr w4=>∃ (Y:Option zD) (ln cn:Nat) (bk:zV) (er:Int),r=zP (zp #[B Y ln cn,bk,J er])/\R Y ln cn bk er w4) :
  xr e c a fs b R l:=by
 have od:e<w.heap.size:=(cz.1 k).1;have m:zB l ((l.alloc (zM #[zJ b] 220)).alloc (zM #[B a (G fs) c,zS l.heap.size 1 1] 101)).drew:=(aY l _ _).drew;have D:((l.alloc (zM #[zJ b] 220)).alloc (zM #[B a (G fs) c,zS l.heap.size 1 1] 101)).drew.heap[l.heap.size+1]?=A (zM #[B a (G fs) c,zS l.heap.size 1 1] 101 (0,0)):=bc l _ _ _;have hj:((l.alloc (zM #[zJ b] 220)).alloc (zM #[B a (G fs) c,zS l.heap.size 1 1] 101)).drew.heap[l.heap.size]?=A (zM #[zJ b] 220 (0,0)):=fX l _ _ _;have JY:((l.alloc (zM #[zJ b] 220)).alloc (zM #[B a (G fs) c,zS l.heap.size 1 1] 101)).drew.heap.size=l.heap.size+2:=(by simp);unfold xr;generalize ((l.alloc (zM #[zJ b] 220)).alloc (zM #[B a (G fs) c,zS l.heap.size 1 1] 101)).drew=U at *;have F:=(hs.next s).next m;have C:b9 [fs,[(b,⟨x,p,(0,0)⟩)]]=fs++[(b,⟨x,p,(0,0)⟩)]:=by simp [b9]
 refine (rK [fs,[(b,⟨x,p,(0,0)⟩)]] [B a (G fs) c,zS l.heap.size 1 1] (l.heap.size+1) 2 U rfl (by omega) (λi hi=>?_) (by rw [C];simp;omega) (by simp)).m ?_
 .rcases (show i=0\/i=1 by simp at hi;omega) with rfl|rfl
  .refine ⟨(bq _ _ 0 _ _ _ D).t rfl,a,c,rfl,ha,λj M=>?_⟩;obtain ⟨g,o,H,Z,h3⟩:=F.ptr j M;exact ⟨g,o,H,F.still g Z,h3⟩
  .refine ⟨(bq _ _ 1 _ _ _ D).t rfl,A (yh l.heap.size),1,rfl,λh=>(by cases h),λj M=>?_⟩;obtain rfl:j=0:=(by simp at M;omega);exact ⟨l.heap.size,0,rfl,by omega,(bq _ _ 0 _ _ _ hj).t rfl⟩
 .rintro r P ⟨ar,rfl,n,V⟩;rw [C] at n;have E:(fs++[(b,(⟨x,p,(0,0)⟩:Fd))]).length=G fs+1:=(by simp);obtain ⟨g,u,rfl,hg,xE⟩:=n.form (by rw [E];omega);rw [E];refine ⟨g,u,rfl,?_⟩;have d:zB w P:=s.t ((m.t (V.m m.size)).m s.size);refine (Cv e a (G fs) c (A (yh g)) (G fs+1) u v1 v2 v3 v4 v5 te P ((d.block e od).t k)).m ?_;rintro r w3 ⟨L,N,rfl,ac,t,he,af,hk,aa⟩;refine ⟨L,N,rfl,?_⟩;have hq:G fs+1<=u:=by
   rcases n.2 with ⟨H,_⟩|⟨g',am,ao,H,_,_,Z,_⟩
   .simp at H
   .simp at H;omega
  have QT:Sh P (λq=>S q\/∃ o,(A (yh g):Option zD)=A (X q o)) (A (yh g)) (fs++[(b,⟨x,p,(0,0)⟩)]):=by
   have T:=hs.next d;refine Sh.afC (Q4:=U.heap.size) T.still (λy K=>?_) n (λy K=>?_)
   .rcases cG.1 K with h|h
    .exact T.bX y h
    .obtain rfl:y=(b,⟨x,p,(0,0)⟩):=(by simpa using h);exact v.next (hs.next s).still (m.t (V.m m.size))
   .rcases cG.1 K with h|h
    .have:=(F.bX y h).lt;exact this
    .obtain rfl:y=(b,⟨x,p,(0,0)⟩):=(by simpa using h);have:=v.lt;show b<U.heap.size;omega
  have Q5:∀ q,(S q\/∃ o,(A (yh g):Option zD)=A (X q o))->q≠e:=by
   rintro q (h|⟨o,h⟩) O
   .exact an (O▸h)
   .have H:g=q:=by injection h with h;injection h
    have:=s.size;have:=m.size;omega
  have ak:∀ y,y∈fs++[(b,(⟨x,p,(0,0)⟩:Fd))]->y.1≠e:=λy K=>by
   rcases cG.1 K with h|h
   .exact ad y h
   .obtain rfl:y=(b,⟨x,p,(0,0)⟩):=(by simpa using h);show b≠e;omega
  have QV:=QT.ks t (λq O h=>Q5 q O h) (λy K h=>ak y K h);have ag:w.heap.size<=g:=by
   have:=s.size;have:=m.size;omega
  have Q6:∀ q,(S q\/∃ o,(A (yh g):Option zD)=A (X q o))↔(S q\/q=g):=λq=>by
   constructor
   .rintro (h|⟨o,h⟩)
    .exact zR h
    .injection h with h;injection h with H Z;exact zZ H.symm
   .rintro (h|rfl)
    .exact zR h
    .exact zZ ⟨0,rfl⟩
  have w2:Sh w3 (λq=>S q\/q=g) (A (yh g)) (fs++[(b,⟨x,p,(0,0)⟩)]):=by
   have e1:(λq=>S q\/∃ o,(A (yh g):Option zD)=A (X q o))=λq=>S q\/q=g:=funext λq=>propext (Q6 q);rw [e1] at QV;exact QV
  exact hf g u L N w3 ⟨w2,W,ag,hq,ac,⟨t.os.t d.os,t.tape.t d.tape,t.output.t d.output,bf d.size t.size,λQ0 z hn=>(t.block Q0 (bG z d.size) hn).t (d.block Q0 z)⟩,bf d.size he,bf d.size af,hk,aa⟩
def Tx {S:Nat->Prop} (e c:Nat) (a:Option zD) (fs:List (Nat × Fd)) (x:By) (p:Pt) (d:Option zD) (i j:Nat) (v1 v2 v3 v4 v5:zV) (te:TypeId) (w:zW) (M:Option zD->Nat->Nat->zV->Int->zW->Prop) (hs:Sh w S a fs) (K:w.heap[e]?=A (zM #[B a (G fs) c,v1,v2,v3,v4,v5] te (0,0))) (hl:G fs<10) (Q4:∀ f,f∈fs->f.1≠e) (s:¬ S e) (ha:a=none->c=0)
  (V:dR w S p d i j) (Q0:az p) (t:Good p) (u:(ai p).length<=100) (n:ah fs x=none)
  (E:∀ b g QV N O w3,FrW S e c a fs x p v1 v2 v3 v4 v5 te w w3 b g QV N O->zC prog 161 #[zJ e,zJ b,.func (.func 192) #[] #[zJ N,zJ O]] w3 λr L=>∃ (o:Option zD) (ln cn:Nat) (bk:zV) (er:Int),r=zP (zp #[B o ln cn,bk,J er])/\M o ln cn bk er L) :
  zC prog 133 #[zJ e,Q x,zd #[J p.k,Q p.nm,J p.n,B d i j]] w λr L=>∃ (o:Option zD) (ln cn:Nat) (bk:zV) (er:Int),r=zP (zp #[B o ln cn,bk,J er])/\M o ln cn bk er L:=by
 have C:e<w.heap.size:=(cz.1 K).1;obtain ⟨⟨e0,e1,e2,e3,e4,e5⟩,⟨z0,z1,z2,z3,z4,z5⟩,_⟩:=bJ K;have T:=I K;have z:=I hs;have R:=I (show ∀ W,zB w W->zC prog 137 #[zJ e,Q x] W λr w'=>r=zP (zK none)/\W=w' from λW P=>by
  have:=kQ x e c a fs W (hs.next P) ((P.cell (p:=yh e) C).t e0) (by omega);rw [iQ,n] at this;exact this)
 have aa:((G fs:Int) == 10)=false:=bo.2 (by omega);clear hs K;go_in;go_wp2_with (go_at_call 137;refine (R.o _ (by first|exact aM _ _|exact (aM _ _).alloc (aG _) _|exact aY _ _ _)).m ?_;rintro r w1 ⟨rfl,rfl⟩);have k:=I (aY w (zM #[J p.k,Q p.nm,J p.n,B d i j] 89) (zM #[Q x,J p.k,Q p.nm,J p.n,B d i j,J 0,J 0] 223));have w4:=I (bc w (zM #[J p.k,Q p.nm,J p.n,B d i j] 89) #[Q x,J p.k,Q p.nm,J p.n,B d i j,J 0,J 0] 223);have m:((w.alloc (zM #[J p.k,Q p.nm,J p.n,B d i j] 89)).alloc (zM #[Q x,J p.k,Q p.nm,J p.n,B d i j,J 0,J 0] 223)).heap.size=w.heap.size+2:=(by simp);generalize ((w.alloc (zM #[J p.k,Q p.nm,J p.n,B d i j] 89)).alloc (zM #[Q x,J p.k,Q p.nm,J p.n,B d i j,J 0,J 0] 223))=Z at *;obtain ⟨⟨u0,u1,u2,u3,u4,u5⟩,⟨t0,t1,t2,t3,t4,t5⟩,C4⟩:=bJ ((k.o.block e C).t T.o);generalize C2:w.heap.size+1=b at *;have C3:∀ y,y∈fs->y.1≠b:=λy hy=>by have:=(z.o.bX y hy).lt;omega
 have QT:=I (show fB Z S b ⟨x,p,(0,0)⟩ from ⟨λQ5=>by have:=z.o.still b Q5;omega,Q0,t,u,d,i,j,w4.o,V.next λq hq=>k.o.block q (z.o.still q hq)⟩);have Q6:=I (z.o.next k.o);have l:=I (Qu e c a fs x p b v1 v2 v3 v4 v5 te w Z M z.o k.o T.o QT.o (by omega) m hl Q4 s ha (E b));clear E Q4 s V Q0 t u n R m;unfold xr at l;go_wp2_with fail
 go_region_with (first|(go_at_call 164;refine l.o.m ?_;rintro r w2 ⟨g,QV,rfl,F⟩;have U:=I F;clear F)|(go_at_call 163;refine U.o.m ?_;rintro r w3 ⟨N,O,rfl,D⟩;have Y:=I D;clear D)|(go_at_call 161;refine Y.o.m ?_;rintro r L ⟨o,ln,cn,bk,er,rfl,H⟩;have h:=I H;clear H))
 all_goals go_wp2
 all_goals refine aK (v:=zp #[B o ln cn,bk,J er]) (by simp [results,results133,go_sem]) (by simp [go_sem]) ?_
 all_goals exact ⟨o,ln,cn,bk,er,rfl,h.o⟩
section
variable {w w':zW} {S S':Nat->Prop} {e b:Nat} {D:Nat->Prop} {σ:bg} {v1 v2 v3 v4 v5:zV} {te:TypeId}
def cK.lt (h:cK w S e D σ v1 v2 v3 v4 v5 te):e<w.heap.size:=by
 obtain ⟨a,c,_,_,_,b⟩:=h.row;exact (cz.1 b).1
def fB.more {f:Fd} (h:fB w S b f) (hs:∀ q,S q->S' q) (d:¬ S' b):fB w S' b f:=by
 obtain ⟨_,i,k,e,a,l,c,j,g⟩:=h;exact ⟨d,i,k,e,a,l,c,j,g.wide hs⟩
def iy {P:Nat->Prop} {w w':zW} {base z n:Nat} {e:TypeId} {v:zV} {C:List zV} (h:w.ownsRow base e z v n C) (l:Ks P w w') (d:∀ q,v.ownBlock=A q->¬ P q):w'.ownsRow base e z v n C:=by
 obtain ⟨f,i⟩:=h;refine ⟨f,i.imp id ?_⟩;rintro ⟨g,a,b,rfl,j,c,k⟩;exact ⟨g,a,b,rfl,j,(l.block g (cz.1 c).1 (d g rfl)).t c,k⟩
def cK.Bb (h:cK w S e D σ v1 v2 v3 v4 v5 te) (k:D b) (f:Fd) (m:fB w' S' b f) (H:Ks (λq=>q=b) w w') (j:∀ q,S q->S' q) (L:∀ q,S' q->S q\/(w.heap.size<=q/\q<w'.heap.size)):cK w' S' e D (σ.put b f) v1 v2 v3 v4 v5 te:=by
 have g:=h.lt;have i:e≠b:=λd=>h.eD (d▸k);have M:∀ q,S q->w'.heap[q]?=w.heap[q]?:=λq E=>H.block q (h.still q E) (λd=>(h.bX b k).1 (d▸E));refine ⟨λq E=>?_,λE=>?_,h.eD,λq E=>?_,h.sub,?_⟩
 .rcases L q E with C|C
  .exact bG (h.still q C) H.size
  .exact C.2
 .rcases L e E with C|C
  .exact h.eS C
  .omega
 .by_cases d:q=b
  .subst d;rw [fN];exact m
  .rw [dM _ _ _ _ d];have K:=h.bX q E;refine (K.stays (H.block q K.lt d) M).more j λC=>?_;rcases L q C with F|F
   .exact K.1 F
   .have:=K.lt;omega
 .obtain ⟨a,c,C,F,n,l⟩:=h.row;exact ⟨a,c,(C.next M).wide j,F,n,(H.block e g i).t l⟩
def cK.ad5 (h:cK w S e D σ v1 v2 v3 v4 v5 te) (l:List Nat) (a:Option zD) (c:Nat) (m:∀ b,b∈l->D b) (k:jQ w S a l) (n:G l<=c) (j:a=none->c=0) (g:w'.heap[e]?=A (zM #[B a (G l) c,v1,v2,v3,v4,v5] te (0,0))) (K:Ks (λq=>q=e) w w') (f:∀ q,S q->S' q) (H:∀ q,S' q->S q\/(w.heap.size<=q/\q<w'.heap.size)):cK w' S' e D ⟨l,σ.mem⟩ v1 v2 v3 v4 v5 te:=by
 have i:=h.lt;have L:∀ q,S q->w'.heap[q]?=w.heap[q]?:=λq C=>K.block q (h.still q C) (λd=>h.eS (d▸C));refine ⟨λq C=>?_,λC=>?_,h.eD,λq C=>?_,m,a,c,(k.next L).wide f,n,j,g⟩
 .rcases H q C with E|E
  .exact bG (h.still q E) K.size
  .exact E.2
 .rcases H e C with E|E
  .exact h.eS E
  .omega
 .have F:=h.bX q C;refine (F.stays (K.block q F.lt (λd=>h.eD (d▸C))) L).more f λE=>?_;rcases H q E with M|M
  .exact F.1 M
  .have:=F.lt;omega
def cK.next (h:cK w S e D σ v1 v2 v3 v4 v5 te) (d:zB w w'):cK w' S e D σ v1 v2 v3 v4 v5 te:=by
 obtain ⟨a,c,f,i,j,g⟩:=h.row;exact ⟨λq b=>bG (h.still q b) d.size,h.eS,h.eD,λq b=>(h.bX q b).next h.still d,h.sub,a,c,f.next (λq b=>d.block q (h.still q b)),i,j,(d.block e h.lt).t g⟩
def cK.same (h:cK w S e D σ v1 v2 v3 v4 v5 te) (d:∀ q,(S q\/q=e\/D q)->w'.heap[q]?=w.heap[q]?) (hs:w.heap.size<=w'.heap.size):cK w' S e D σ v1 v2 v3 v4 v5 te:=by
 obtain ⟨a,c,f,i,j,g⟩:=h.row;exact ⟨λq b=>bG (h.still q b) hs,h.eS,h.eD,λq b=>(h.bX q b).stays (d q (zZ (zZ b))) λq b=>d q (zR b),h.sub,a,c,f.next (λq b=>d q (zR b)),i,j,(d e (zZ (zR rfl))).t g⟩
def cO.later {N:Nat} {cs:Array zV} {us:List Wr} (h:cO e D w S N cs us) (a:∀ q,S q->q<w.heap.size) (c:zB w w'):cO e D w' S N cs us:=h.next λq b=>c.block q (a q b)
def cK.notP (h:cK w S e D σ v1 v2 v3 v4 v5 te):∀ q,S q->¬ (q=e\/D q):=λq b a=>by
 rcases a with rfl|a
 .exact h.eS b
 .exact (h.bX q a).1 b
def S2 (S:Nat->Prop) (b a:Nat) (q:Nat):Prop:=S q\/q=b\/q=a
def gY {b a:Nat} (q:Nat) (h:S q):S2 S b a q:=zR h
def uJ {a b:Nat} {c1 c2:Array zV} {t1 t2:TypeId} {j i:Nat × Nat} (e:w.heap.size<=a) (g:w.heap.size<=b) (d:w'.heap[a]?=A (zM c1 t1 j)) (f:w'.heap[b]?=A (zM c2 t2 i)) (q:Nat) (h:S2 S a b q):S q\/(w.heap.size<=q/\∃ c t z,w'.heap[q]?=A (zM c t z)):=by
 rcases h with h|rfl|rfl
 .exact zR h
 .exact zZ ⟨e,_,_,_,d⟩
 .exact zZ ⟨g,_,_,_,f⟩
def Cu {a b:Nat} {c1 c2:Array zV} {t1 t2:TypeId} {i g:Nat × Nat} (d:w.heap.size<=a) (f:w.heap.size<=b) (c:w'.heap[a]?=A (zM c1 t1 i)) (e:w'.heap[b]?=A (zM c2 t2 g)) (q:Nat) (h:S2 S a b q):S q\/(w.heap.size<=q/\q<w'.heap.size):=by
 rcases h with h|rfl|rfl
 .exact zR h
 .exact zZ ⟨d,(cz.1 c).1⟩
 .exact zZ ⟨f,(cz.1 e).1⟩
def Hf (h:cK w S e D σ v1 v2 v3 v4 v5 te) (l:List Nat) (a:Option zD) (c:Nat) (y:∀ b,b∈l->D b) (v:jQ w S a l) (Q4:G l<=c) (t:a=none->c=0) :
  zC prog 163 #[zJ e,B a (G l) c] w (gX S e D σ [.ord l] v1 v2 v3 v4 v5 te w):=by
 obtain ⟨o,c0,s,u,C,z⟩:=h.row;refine (Cv e o σ.ord.length c0 a (G l) c v1 v2 v3 v4 v5 te w z).m ?_;rintro r w' ⟨k,n,rfl,p,i,j,m,g,f⟩;have E:∀ q,S q->w'.heap[q]?=w.heap[q]?:=λq d=>i.block q (h.still q d) (λx=>h.eS (x▸d));refine ⟨_,_,S2 S k n,rfl,gY,uJ j m g f,h.ad5 l a c y v Q4 t p i gY (Cu j m g f),?_,i.wide λq d=>zR d⟩;exact .ord k n o c0 σ.ord (zZ (zR rfl)) (zZ (zZ rfl)) g f ((s.next E).wide gY) u C h.sub
def fB.open {f:Fd} (h:fB w S b f):∃ (a:Option zD) (l c:Nat),w.heap[b]?=A (zM #[Q f.nm,J f.p.k,Q f.p.nm,J f.p.n,B a l c,J f.v.1,J f.v.2] 223 (0,0))/\dR w S f.p a l c:=h.2.2.2.2
def iH (h:cK w S e D σ v1 v2 v3 v4 v5 te) (E:D b) (p:Pt) (a:Option zD) (l c:Nat) (z:dR w S p a l c) (m:az p) (g:Good p) (i:(ai p).length<=100) :
  zC prog 162 #[zK (A (X b 1)),zd #[J p.k,Q p.nm,J p.n,B a l c]] w (gX S e D σ [.rl b p] v1 v2 v3 v4 v5 te w):=by
 have hF:=h.bX b E;have j:=hF;obtain ⟨f1,f2,f3,f4,v,u,c0,L,M⟩:=hF;refine (JO b _ _ _ _ _ _ v u c0 p.k p.nm p.n a l c _ w L).m ?_;rintro r w' ⟨x,t,rfl,o,s,_,k,f,d,n⟩;have K:∀ q,S q->w'.heap[q]?=w.heap[q]?:=λq F=>n.block q (h.still q F) (λy=>f1 (y▸F));have C:=j.lt;refine ⟨_,_,S2 S x t,rfl,gY,uJ o s k f,h.Bb E _ ⟨?_,m,g,i,a,l,c,d,(z.next K).wide gY⟩ n gY (Cu o s k f),?_,n.wide λq F=>zZ (by rw [show q=b from F];exact E)⟩
 .rintro (H|H|H)
  .exact f1 H
  .omega
  .omega
 .exact .rl x t b _ v u c0 (zZ (zR rfl)) (zZ (zZ rfl)) k f ((M.next K).wide gY) f2 f3 f4 E
def Rt (h:cK w S e D σ v1 v2 v3 v4 v5 te) (C:D b) (v:Vl) {g:Option zD} {d c0:Nat} (m:w.heap[b]?=A (zM #[.string ⟨(σ.mem b).nm.toArray⟩,J ((σ.mem b).p.k:Int),.string ⟨(σ.mem b).p.nm.toArray⟩,J ((σ.mem b).p.n:Int),B g d c0,J (σ.mem b).v.1,J (σ.mem b).v.2] 223 (0,0))) (p:dR w S (σ.mem b).p g d c0) :
  zC prog 196 #[zK (A (X b 5)),zd #[J v.1,J v.2]] w λr w'=>gX S e D σ [.vl b v] v1 v2 v3 v4 v5 te w r w'/\w'.heap[b]?=A (zM #[.string ⟨(σ.mem b).nm.toArray⟩,J ((σ.mem b).p.k:Int),.string ⟨(σ.mem b).p.nm.toArray⟩,J ((σ.mem b).p.n:Int),B g d c0,J v.1,J v.2] 223 (0,0)):=by
 have hF:=h.bX b C;obtain ⟨f1,f2,f3,f4,_⟩:=hF;obtain ⟨⟨t,u,x,z,y,s,n⟩,a,c⟩:=fP m;refine (Tg b _ _ v.1 v.2 w s n (a 5) (a 6) c).m ?_;rintro r w' ⟨rfl,rfl⟩;have k:Ks (λq=>q=b) w ((((w.setCell (X b 5) (J v.1)).setCell (X b 6) (J v.2)).alloc (zM #[zK (A (X b 5))] 287)).alloc (zM #[J v.1,J v.2] 177)|>.alloc (zM #[J (σ.mem b).v.1,J (σ.mem b).v.2] 177)):=(((((Ks.refl (λq=>q=b) w).set b 5 _ rfl).set b 6 _ rfl).alloc _).alloc _).alloc _;have f:=EJ ((w.setCell (X b 5) (J v.1)).setCell (X b 6) (J v.2)) (zM #[zK (A (X b 5))] 287) (zM #[J v.1,J v.2] 177) (zM #[J (σ.mem b).v.1,J (σ.mem b).v.2] 177);have i:=fZ ((w.setCell (X b 5) (J v.1)).setCell (X b 6) (J v.2)) (zM #[zK (A (X b 5))] 287) (zM #[J v.1,J v.2] 177) #[J (σ.mem b).v.1,J (σ.mem b).v.2] 177;have j:=zU ((w.setCell (X b 5) (J v.1)).setCell (X b 6) (J v.2)) (zM #[zK (A (X b 5))] 287) (zM #[J v.1,J v.2] 177) (zM #[J (σ.mem b).v.1,J (σ.mem b).v.2] 177) b (by simpa using c);rw [aj (aj m _ _)] at j;simp only [World.size_setCell] at f i;generalize ((((w.setCell (X b 5) (J v.1)).setCell (X b 6) (J v.2)).alloc (zM #[zK (A (X b 5))] 287)).alloc (zM #[J v.1,J v.2] 177)|>.alloc (zM #[J (σ.mem b).v.1,J (σ.mem b).v.2] 177))=w' at *;have H:∀ q,S q->w'.heap[q]?=w.heap[q]?:=λq E=>k.block q (h.still q E) (λo=>f1 (o▸E));have l:w.heap.size<=w.heap.size+1+1:=(by omega);refine ⟨⟨_,_,S2 S w.heap.size (w.heap.size+1+1),rfl,gY,uJ (aG _) l f i,h.Bb C _ ⟨?_,f2,f3,f4,g,d,c0,j,(p.next H).wide gY⟩ k gY (Cu (aG _) l f i),?_,k.wide λq E=>zZ (by rw [show q=b from E];exact C)⟩,j⟩
 .rintro (F|F|F)
  .exact f1 F
  .omega
  .omega
 .exact .vl _ _ b _ (zZ (zR rfl)) (zZ (zZ rfl)) f i C
def GG (h:cK w S e D σ v1 v2 v3 v4 v5 te) (a:D b) (v:Vl) :
  zC prog 196 #[zK (A (X b 5)),zd #[J v.1,J v.2]] w (gX S e D σ [.vl b v] v1 v2 v3 v4 v5 te w):=by
 obtain ⟨_,_,_,_,f,g,c0,c,d⟩:=h.bX b a;exact (Rt h a v c d).m λ_ _ h=>h.1
def GH (q:Nat) (x a:By) (w:zW) (b:w.cell? (yh q)=A (Q x)) (d:w.frozen? (yh q)=false) (c:q<w.heap.size) :
  zC prog 199 #[zJ q,Q a] w λe w'=>e=zP (.func (.func 221) #[] #[zJ w.heap.size,zK (A (yh (w.heap.size+1)))])/\w'=((w.setCell (yh q) (Q a)).alloc (zM #[zJ q] 291)).alloc (zM #[Q x] 9):=by
 go_in;go_wp2;go_ret;exact ⟨rfl,rfl⟩
def iM (h:cK w S e D σ v1 v2 v3 v4 v5 te) (C:D b) (x:By) :
  zC prog 199 #[zJ b,Q x] w (gX S e D σ [.nm b x] v1 v2 v3 v4 v5 te w):=by
 have hF:=h.bX b C;obtain ⟨f1,f2,f3,f4,l,j,c0,k,o⟩:=hF;obtain ⟨⟨m,s,t,z,y,v,u⟩,g,a⟩:=fP k;refine (GH b _ x w m (g 0) a).m ?_;rintro r w' ⟨rfl,rfl⟩;have f:Ks (λq=>q=b) w (((w.setCell (yh b) (Q x)).alloc (zM #[zJ b] 291)).alloc (zM #[.string ⟨(σ.mem b).nm.toArray⟩] 9)):=(((Ks.refl (λq=>q=b) w).set b 0 _ rfl).alloc _).alloc _;have c:=fX (w.setCell (yh b) (Q x)) #[zJ b] 291 (zM #[.string ⟨(σ.mem b).nm.toArray⟩] 9);have d:=bc (w.setCell (yh b) (Q x)) (zM #[zJ b] 291) #[.string ⟨(σ.mem b).nm.toArray⟩] 9;have n:(((w.setCell (yh b) (Q x)).alloc (zM #[zJ b] 291)).alloc (zM #[.string ⟨(σ.mem b).nm.toArray⟩] 9)).heap[b]?=A (zM #[Q x,J ((σ.mem b).p.k:Int),.string ⟨(σ.mem b).p.nm.toArray⟩,J ((σ.mem b).p.n:Int),B l j c0,J (σ.mem b).v.1,J (σ.mem b).v.2] 223 (0,0)):=by
  rw [cj _ _ _ (by simp;omega),cj _ _ _ (by simpa using a),aj k];rfl
 simp only [World.size_setCell] at c d;generalize (((w.setCell (yh b) (Q x)).alloc (zM #[zJ b] 291)).alloc (zM #[.string ⟨(σ.mem b).nm.toArray⟩] 9))=w' at *;have H:∀ q,S q->w'.heap[q]?=w.heap[q]?:=λq E=>f.block q (h.still q E) (λp=>f1 (p▸E));have i:w.heap.size<=w.heap.size+1:=(by omega);refine ⟨_,_,S2 S w.heap.size (w.heap.size+1),rfl,gY,uJ (aG _) i c d,h.Bb C _ ⟨?_,f2,f3,f4,l,j,c0,n,(o.next H).wide gY⟩ f gY (Cu (aG _) i c d),?_,f.wide λq E=>zZ (by rw [show q=b from E];exact C)⟩
 .rintro (F|F|F)
  .exact f1 F
  .omega
  .omega
 .exact .nm _ _ b _ (zZ (zR rfl)) (zZ (zZ rfl)) c d C
end
section
def jt (N:Nat) (cs:Array zV):zV:=.func (.func N) #[] cs
structure gA (S O:Nat->Prop) (e:Nat) (D:Nat->Prop) (σ:bg) (v1 v2 v3 v4 v5:zV) (te:TypeId) (w W:zW) (S1:Nat->Prop) (v:zV) (k:Nat) (U:List Wr) (N:Nat->Nat) (cs:Nat->Array zV) (us:Nat->List Wr):Prop where
 s0:∀ q,S q->S1 q
 s1:∀ q,S1 q->S q\/(O q/\∃ c t z,W.heap[q]?=A (zM c t z))
 ph:cK W S1 e D (aU U σ) v1 v2 v3 v4 v5 te
 own:W.ownsRow w.heap.size 151 1 v k ((List.range k).map λj=>jt (N j) (cs j))
 ob:∀ q,v.ownBlock=A q->¬ S1 q/\q≠e/\¬ D q
 oo:∀ q,v.ownBlock=A q->O q
 bk:∀ j,j<k->cO e D W S1 (N j) (cs j) (us j)
 inv:(List.range k).reverse.flatMap us=dz U σ
 ks:Ks (λq=>q=e\/D q) w W
variable {S S1 O:Nat->Prop} {e:Nat} {D:Nat->Prop} {σ:bg} {v1 v2 v3 v4 v5:zV} {te:TypeId} {w W Z R:zW} {v v':zV} {k:Nat} {U:List Wr} {N:Nat->Nat} {cs:Nat->Array zV} {us:Nat->List Wr}
def gA.start (h:cK w S e D σ v1 v2 v3 v4 v5 te):gA S O e D σ v1 v2 v3 v4 v5 te w w S (zN) 0 [] (λ_=>0) (λ_=>#[]) (λ_=>[]):=
 ⟨λ_ h=>h,λ_ h=>zR h,h,eW _ _ _ _,λq C=>by simp [Value.ownBlock] at C,λq C=>by simp [Value.ownBlock] at C,λj a=>by omega,rfl,Ks.refl _ _⟩
def gA.next (h:gA S O e D σ v1 v2 v3 v4 v5 te w W S1 v k U N cs us) (a:zB W Z):gA S O e D σ v1 v2 v3 v4 v5 te w Z S1 v k U N cs us:=by
 refine ⟨h.s0,λq g=>(h.s1 q g).imp id ?_,h.ph.next a,aZ h.own a,h.ob,h.oo,λj f=>(h.bk j f).later h.ph.still a,h.inv,h.ks.t (Ks.of a)⟩;rintro ⟨d,c,t,z,b⟩;exact ⟨d,c,t,z,(a.block q (cz.1 b).1).t b⟩
def Ks.cells {P:Nat->Prop} {w w':zW} (h:Ks P w w') {q:Nat} {c:Array zV} {t:TypeId} {z:Nat × Nat} (a:w.heap[q]?=A (zM c t z)) (b:¬ P q):w'.heap[q]?=A (zM c t z):=(h.block q (cz.1 a).1 b).t a
def gA.step (hO:∀ q,W.heap.size<=q->O q) (h:gA S O e D σ v1 v2 v3 v4 v5 te w W S1 v k U N cs us) {us1:List Wr} {N1:Nat} {cs1:Array zV} {S2:Nat->Prop} (x:∀ q,S1 q->S2 q) (P:∀ q,S2 q->S1 q\/(W.heap.size<=q/\∃ c t z,Z.heap[q]?=A (zM c t z))) (n:cK Z S2 e D (aU us1 (aU U σ)) v1 v2 v3 v4 v5 te) (M:cO e D Z S2 N1 cs1 (dz us1 (aU U σ))) (H:Ks (λq=>q=e\/D q) W Z)
  {o:Obj} (G:(Z.alloc o).grownBy R v.ownBlock) (ho:R.ownsRow w.heap.size 151 1 v' (k+1) (((List.range k).map λj=>jt (N j) (cs j))++[jt N1 cs1])) (T:v'.ownBlock=v.ownBlock\/∃ g,v'.ownBlock=A g/\Z.heap.size<=g) :
  gA S O e D σ v1 v2 v3 v4 v5 te w R S2 v' (k+1) (U++us1) (λj=>if j=k then N1 else N j) (λj=>if j=k then cs1 else cs j) (λj=>if j=k then dz us1 (aU U σ) else us j):=by
 have Q5:=H.size;have QT:=G.size;simp at QT;have Q4:=h.ks.size;have hj:∀ q,v.ownBlock=A q->q<W.heap.size/\w.heap.size<=q:=λq d=>⟨(h.own.lt q d).2,(h.own.lt q d).1⟩;have F:∀ q,v.ownBlock=A q->¬ S2 q:=λq d C=>by
  rcases P q C with p|p
  .exact (h.ob q d).1 p
  .have:=(hj q d).1;omega
 have r:∀ q,q<Z.heap.size->v.ownBlock≠A q->R.heap[q]?=Z.heap[q]?:=λq d E=>by
  rw [G.block q (by simp;omega) (λu=>E u.symm),cj _ _ _ d]
 have i:∀ q,S2 q->R.heap[q]?=Z.heap[q]?:=λq d=>r q (n.still q d) λu=>F q u d;have y:Ks (λq=>v.ownBlock=A q) Z R:=⟨G.os,G.tape,G.output,by omega,λq d E=>r q d E⟩;have Q0:v.ownBlock≠A e:=λm=>(h.ob e m).2.1 rfl;have QV:cK R S2 e D (aU (U++us1) σ) v1 v2 v3 v4 v5 te:=by
  rw [lH];obtain ⟨a,c,r1,r2,r3,r4⟩:=n.row;refine ⟨λq d=>bG (n.still q d) (by omega),n.eS,n.eD,λb Y=>(n.bX b Y).stays (r b (n.bX b Y).lt λm=>(h.ob b m).2.2 Y) i,n.sub,a,c,r1.next i,r2,r3,(r e n.lt Q0).t r4⟩
 refine ⟨λq d=>x q (h.s0 q d),λq d=>?_,QV,?_,λq d=>?_,λq d=>?_,λj K=>?_,?_,?_⟩
 .rcases P q d with m|⟨m,c,t,z,C⟩
  .rcases h.s1 q m with p|⟨p,c,t,z,V⟩
   .exact zR p
   .refine zZ ⟨p,c,t,z,(i q d).t ((H.block q (cz.1 V).1 ?_).t V)⟩;rintro (rfl|L)
    .exact n.eS d
    .exact (n.bX q L).1 d
  .exact zZ ⟨hO q m,c,t,z,(i q d).t C⟩
 .have:((List.range (k+1)).map λj=>jt (if j=k then N1 else N j) (if j=k then cs1 else cs j))=((List.range k).map λj=>jt (N j) (cs j))++[jt N1 cs1]:=by
   rw [wB,fK];congr 1
   .refine sB λj K=>?_;have:j≠k:=(by have:=List.mem_range.1 K;omega);simp [this]
   .simp
  rw [this];exact ho
 .rcases T with m|⟨g,m,C⟩
  .rw [m] at d;exact ⟨F q d,(h.ob q d).2⟩
  .rw [m] at d;cases d;refine ⟨λp=>?_,λp=>?_,λp=>?_⟩
   .have:=n.still _ p;omega
   .have:=n.lt;omega
   .have:=(n.bX _ p).lt;omega
 .rcases T with m|⟨g,m,C⟩
  .rw [m] at d;exact h.oo q d
  .rw [m] at d;cases d;exact hO _ (by omega)
 .by_cases u:j=k
  .simp only [u,jq];exact M.next i
  .simp only [u,k8];have Y:=((h.bk j (by omega)).next (w':=Z) λq d=>H.block q (h.ph.still q d) (by
    rintro (rfl|L)
    .exact h.ph.eS d
    .exact (h.ph.bX q L).1 d)).wide x (λ_ h=>h)
   exact Y.next i
 .rw [wB,rj,yo,EI];congr 1
  .simp
  .rw [<- h.inv];refine JP _ _ _ λj K=>?_;have:j≠k:=by have:=List.mem_range.1 (wy.1 K);omega
   simp [this]
 .have s:=h.ks.t H;refine ⟨y.os.t s.os,y.tape.t s.tape,y.output.t s.output,by omega,λq d E=>?_⟩;rw [r q (by omega) (λu=>by have:=(hj q u).2;omega)];exact s.block q d E
 where
 JP (l:List Nat) (f g:Nat->List Wr) (h:∀ j,j∈l->f j=g j):l.flatMap f=l.flatMap g:=by
  induction l with
  | nil=>rfl
  | cons a aa Q6=>simp only [sD,h a (by simp),Q6 λj K=>h j (by simp [K])]
def cK.wide {S':Nat->Prop} (h:cK w S e D σ v1 v2 v3 v4 v5 te) (i:∀ q,S q->S' q) (f:∀ q,S' q->S q\/(q<w.heap.size/\q≠e/\¬ D q)):cK w S' e D σ v1 v2 v3 v4 v5 te:=by
 obtain ⟨a,c,l,m,k,j⟩:=h.row;refine ⟨λq d=>(f q d).elim (h.still q) λh=>h.1,λd=>(f e d).elim h.eS λh=>h.2.1 rfl,h.eD,λb g=>(h.bX b g).more i λd=>(f b d).elim (h.bX b g).1 λh=>h.2.2 g,h.sub,a,c,l.wide i,m,k,j⟩
def gA.all (hk8:k*8<=140737488355328) (hO:∀ q,W.heap.size<=q->O q) (h:gA S O e D σ v1 v2 v3 v4 v5 te w W S1 v k U N cs us):zC prog 72 #[v] W λr H=>qG S O e D σ U v1 v2 v3 v4 v5 te w r H/\zB W H:=by
 have t:=h.ks.size;obtain ⟨a,l,c,rfl⟩:=b7 h.own;refine (Ru a l c W).m ?_;rintro r H ⟨rfl,rfl⟩;have s:zB W (W.alloc (zM #[B a l c] 104)):=(aM _ _).alloc (aG _) _;have b:=bL W (zM #[B a l c] 104);have f:∀ q,S1 q->(S1 q\/q=W.heap.size\/(B a l c).ownBlock=A q):=λq E=>zR E;have n:∀ q,(B a l c).ownBlock=A q->q<W.heap.size/\w.heap.size<=q:=λq E=>⟨(h.own.lt q E).2,(h.own.lt q E).1⟩;have d:=h.next s;refine ⟨⟨_,_,λq=>S1 q\/q=W.heap.size\/(B a l c).ownBlock=A q,rfl,λq E=>zR (h.s0 q E),λq E=>?_,d.ph.wide f λq E=>?_,?_,d.ks⟩,s⟩
 .rcases E with E|rfl|E
  .exact d.s1 q E
  .exact zZ ⟨hO _ (aG _),_,_,_,b⟩
  .refine zZ ⟨h.oo q E,?_⟩;rcases d.own.2 with ⟨F,_⟩|⟨g,o,p,F,_,K,_⟩
   .rw [F] at E;simp [Value.ownBlock] at E
   .rw [F] at E;simp [Value.ownBlock] at E;subst E;exact ⟨_,_,_,K⟩
 .rcases E with E|rfl|E
  .exact zR E
  .refine zZ ⟨(by simp),λm=>?_,λm=>?_⟩
   .have:=h.ph.lt;omega
   .have:=(h.ph.bX _ m).lt;omega
  .exact zZ ⟨by have:=(n q E).1;simp;omega,(h.ob q E).2⟩
 .rw [<- h.inv];rcases d.own.2 with ⟨F,rfl⟩|⟨g,o,p,F,K,C,u,z,M,x⟩
  .cases F;exact .all _ none 0 0 N cs us (zZ (zR rfl)) b (aG _) (zR rfl) (by omega) (λi j=>by omega) λi j=>by omega
  .cases F;refine .all _ (A (yh g)) k c N cs us (zZ (zR rfl)) b u (zZ ⟨g,0,rfl,zZ (zZ rfl)⟩) hk8 (λi j L y m=>?_) λi j=>(d.bk i j).wide f λ_ h=>h;cases m;have:=d.own.cellAt i (by omega);rw [cS,this,kn,List.getElem?_range j];rfl
def Bc (hO:∀ q,W.heap.size<=q->O q) {N1 N2:Nat} {cs1 cs2:Array zV} {ws1 ws2:List Wr} (b:cK W S1 e D (aU (ws1++ws2) σ) v1 v2 v3 v4 v5 te) (l:∀ q,S q->S1 q) (E:∀ q,S1 q->S q\/(O q/\∃ c t z,W.heap[q]?=A (zM c t z))) (i:cO e D W S1 N1 cs1 (dz ws1 σ)) (k:cO e D W S1 N2 cs2 (dz ws2 (aU ws1 σ))) (C:Ks (λq=>q=e\/D q) w W) :
  gA S O e D σ v1 v2 v3 v4 v5 te w (W.alloc (zM #[jt N1 cs1,jt N2 cs2] 151)) S1 (zS W.heap.size 2 2) 2 (ws1++ws2) (λj=>if j=0 then N1 else N2) (λj=>if j=0 then cs1 else cs2) (λj=>if j=0 then dz ws1 σ else dz ws2 (aU ws1 σ)):=by
 have d:zB W (W.alloc (zM #[jt N1 cs1,jt N2 cs2] 151)):=(aM _ _).alloc (aG _) _;refine ⟨l,λq a=>(E q a).imp id ?_,b.next d,?_,λq a=>?_,λq a=>?_,λj m=>?_,?_,C.t (Ks.of d)⟩
 .rintro ⟨g,c,t,z,f⟩;exact ⟨g,c,t,z,(d.block q (cz.1 f).1).t f⟩
 .have:=World.ownsRow_lit (base:=w.heap.size) (e:=151) (size:=1) W #[jt N1 cs1,jt N2 cs2] 2 C.size (by unfold maxLen;omega) rfl;exact this
 .simp [Value.ownBlock] at a;subst a;refine ⟨λh=>?_,λh=>?_,λh=>?_⟩
  .have:=b.still _ h;omega
  .have:=b.lt;omega
  .have:=(b.bX _ h).lt;omega
 .simp [Value.ownBlock] at a;subst a;exact hO _ (aG _)
 .rcases (show j=0\/j=1 by omega) with rfl|rfl
  .exact i.later b.still d
  .exact k.later b.still d
 .simp [wB,EI]
end
section
open Go.RowKit Go.Shelf
attribute [local go_sem] Oper.semAt_some
variable {S S1 O:Nat->Prop} {e:Nat} {D:Nat->Prop} {σ:bg} {v1 v2 v3 v4 v5:zV} {te:TypeId} {w W Z U:zW} {v v':zV} {k:Nat} {R:List Wr} {N:Nat->Nat} {cs:Nat->Array zV} {us:Nat->List Wr}
def gA.turn {Q4:Nat} {i:zW} {row:Option Nat} (h:gA S O e D σ v1 v2 v3 v4 v5 te w W S1 v k R N cs us) (b:W.grownBy i row) (L:∀ r,row=A r->Q4<=r/\∃ o:Obj,W.heap[r]?=A o/\o.isCells=false) (p:∀ q,S q->q<Q4) (Q0:w.heap.size<=Q4):gA S O e D σ v1 v2 v3 v4 v5 te w i S1 v k R N cs us:=by
 have d:∀ (q:Nat) (c:Array zV) (t:TypeId) (z:Nat × Nat),W.heap[q]?=A (Obj.cells c t z)->i.heap[q]?=W.heap[q]?:=λq c t z C=>b.block q (cz.1 C).1 λH=>(by obtain ⟨_,o,E,F⟩:=L q H.symm;rw [C] at E;cases E;simp [Obj.isCells] at F);have T:∀ q,q<Q4->q<W.heap.size->i.heap[q]?=W.heap[q]?:=λq C s=>b.block q s λH=>by
  have:=(L q H.symm).1;omega
 have f:∀ q,S1 q->i.heap[q]?=W.heap[q]?:=λq C=>by
  rcases h.s1 q C with E|⟨_,c,t,z,F⟩
  .exact T q (p q E) (h.ph.still q C)
  .exact d q c t z F
 refine ⟨h.s0,λq C=>(h.s1 q C).imp id ?_,h.ph.same ?_ b.size,?_,h.ob,h.oo,λj x=>(h.bk j x).next f,h.inv,?_⟩
 .rintro ⟨E,c,t,z,F⟩;exact ⟨E,c,t,z,(d q c t z F).t F⟩
 .rintro q (C|rfl|C)
  .exact f q C
  .obtain ⟨a,c,_,_,_,u⟩:=h.ph.row;exact d _ _ _ _ u
  .obtain ⟨a,l,c,r,_⟩:=(h.ph.bX q C).open;exact d _ _ _ _ r
 .refine iy h.own (P:=λq=>A q=row) ⟨b.os,b.tape,b.output,b.size,λq C m=>b.block q C m⟩ λq C H=>?_;rcases h.own.2 with ⟨K,_⟩|⟨g,y,n,K,_,V,_⟩
  .rw [K] at C;simp [Value.ownBlock] at C
  .rw [K] at C;simp [Value.ownBlock] at C;subst C;obtain ⟨_,o,M,Y⟩:=L g H.symm;rw [V] at M;cases M;simp [Obj.isCells] at Y
 .refine ⟨b.os.t h.ks.os,b.tape.t h.ks.tape,b.output.t h.ks.output,bf h.ks.size b.size,λq C m=>?_⟩;rw [T q (by omega) (bG C h.ks.size)];exact h.ks.block q C m
def gA.ahW (h:gA S O e D σ v1 v2 v3 v4 v5 te w W S1 v k R N cs us) {q j:Nat} {u:zV} (m:¬ S1 q) (o:v.ownBlock≠A q) (x:w.heap.size<=q) (g:q≠e) (r:¬ D q):gA S O e D σ v1 v2 v3 v4 v5 te w (W.setCell (X q j) u) S1 v k R N cs us:=by
 have C:∀ k,k≠q->(W.setCell (X q j) u).heap[k]?=W.heap[k]?:=λk a=>cY _ _ _ _ a;have b:∀ k,S1 k->(W.setCell (X q j) u).heap[k]?=W.heap[k]?:=λk a=>C k λd=>m (d▸a);have a:Ks (λk=>k=q) W (W.setCell (X q j) u):=(Ks.refl (λk=>k=q) W).set q j u rfl;refine ⟨h.s0,λk a=>(h.s1 k a).imp id ?_,h.ph.same ?_ (by simp),iy h.own a λk f d=>o (by rw [f,d]),h.ob,h.oo,λi s=>(h.bk i s).next b,h.inv,⟨h.ks.os,h.ks.tape,h.ks.output,by simpa using h.ks.size,λk a p=>(C k (by omega)).t (h.ks.block k a p)⟩⟩
 .rintro ⟨l,c,t,z,n⟩;exact ⟨l,c,t,z,(b k a).t n⟩
 .rintro k (a|rfl|a)
  .exact b k a
  .exact C _ (nM g)
  .exact C _ λd=>r (d▸a)
def qG.turn {us:List Wr} {r:Ending} {row:Option Nat} (h:qG S O e D σ us v1 v2 v3 v4 v5 te w r Z) (f:Z.grownBy U row) (L:∀ r,row=A r->w.heap.size<=r/\∃ o:Obj,Z.heap[r]?=A o/\o.isCells=false) (n:∀ q,S q->q<w.heap.size):qG S O e D σ us v1 v2 v3 v4 v5 te w r U:=by
 obtain ⟨v,i,K,E,H,m,j,P,g⟩:=h;have b:∀ (q:Nat) (c:Array zV) (t:TypeId) (z:Nat × Nat),Z.heap[q]?=A (Obj.cells c t z)->U.heap[q]?=Z.heap[q]?:=λq c t z C=>f.block q (cz.1 C).1 λF=>(by obtain ⟨_,o,E,H⟩:=L q F.symm;rw [C] at E;cases E;simp [Obj.isCells] at H);have M:∀ q,q<w.heap.size->U.heap[q]?=Z.heap[q]?:=λq C=>f.block q (bG C g.size) λF=>by
  have:=(L q F.symm).1;omega
 have d:∀ q,K q->U.heap[q]?=Z.heap[q]?:=λq C=>by
  rcases m q C with s|⟨_,c,t,z,x⟩
  .exact M q (n q s)
  .exact b q c t z x
 refine ⟨v,i,K,E,H,λq C=>(m q C).imp id ?_,j.same ?_ f.size,P.next d,⟨f.os.t g.os,f.tape.t g.tape,f.output.t g.output,bf g.size f.size,λq C u=>(M q C).t (g.block q C u)⟩⟩
 .rintro ⟨p,c,t,z,k⟩;exact ⟨p,c,t,z,(b q c t z k).t k⟩
 .rintro q (C|rfl|C)
  .exact d q C
  .obtain ⟨a,c,_,_,_,y⟩:=j.row;exact b _ _ _ _ y
  .obtain ⟨a,l,c,r,_⟩:=(j.bX q C).open;exact b _ _ _ _ r
def JQ (n:Nat):∀ k h,(tN n k h).map Subtype.val=((List.range n).reverse).take k
 | 0,_=>rfl
 | k+1,h=>by
  have a:k<(List.range n).reverse.length:=(by simp;omega);rw [tN,fK,JQ n k,<- List.take_append_getElem a];congr 1;simp [List.getElem_reverse];omega
def Tj (n:Nat) (us:Nat->List Wr):(tN n n (aG _)).flatMap (λx=>us x.1)=(List.range n).reverse.flatMap us:=by
 have:=JQ n n (aG _);rw [qy (by simp)] at this;rw [<- this,List.flatMap_map]
def lY {F:Fence} {n:Nat} {P:Program} (w:zW) {y:Array Oper} {o:Oper} {a:Act} {V:Act->zW->Prop} {Y:Exit->Act->zW->Prop} {E:Prop} (QV:o.guard=none) (s x:Operand) (t:TypeId)
  (f:o.op=.call { callee:=.builtin .append,args:=#[s,x],argTypes:=#[t,t] })
  (base:Nat) (e:TypeId) (i:TypeInfo) (z:zV) (size bytes:Nat) (ht:P.underlying t=A (.slice e)) (hi:P.info? e=A i) (Z:i.zero=A z)
  (p:i.size=size) (M:i.bytes=bytes) (L:z.cells.size=size) (Q4:0<size)
  (v:zV) (k:Nat) (K:List zV) (hs:a.eval s=v) (Q0:w.ownsRow base e size v k K)
  (D:zD) (m c:Nat) (news:List zV) (U:a.eval x=B (A D) m c) (R:G news=m*size) (q:∀ j u,news[j]?=A u->w.cell? (D.add j)=A u) (xs:∀ u∈news,u.oneCell'=true)
  (O:0<m) (C:k+m<=maxLen) (b:(k+m)*bytes<=140737488355328) (l:base<=w.heap.size) (H:Nat) (T:w.heap.size=H)
  (h:∀ g d w',w'.ownsRow base e size (zS g (k+m) d) (k+m) (K++news)->w.grownBy w' v.ownBlock->(v.ownBlock=A g\/g=H)->g<w'.heap.size->V (a.put o.dst (zS g (k+m) d)) w') :
  if Region.wanted o (yielded y a.tmps)=true then Oper.wpIn F n P o a w V Y else E:=by
 have W:Region.wanted o (yielded y a.tmps)=true:=by simp [Region.wanted,QV]
 rw [aB W];obtain ⟨g,d,w',Q5,r,QT,r3,S⟩:=run_append_lies (P:=P) w t o.type base e i z size bytes ht hi Z p M L Q4 v k K Q0 D m c news R q xs O C b l H T;unfold Oper.wpIn;refine ⟨?_,?_⟩
 .simp [Oper.about,f,resolve,Target.leads,Sem.run_pure]
 .rw [Oper.semAt_plain F _ _ (by rw [f];intro c N;cases N)];simp [execOp,f,resolve,invoke,builtin,hs,U,Q5,Result.andThen];exact h g d w' r QT r3 S
def ez (S:Nat->Prop) (e:Nat) (D:Nat->Prop) (σ:bg) (v1 v2 v3 v4 v5:zV) (te:TypeId) (us:Nat->List Wr) (n:Nat) (f:zV) (w:zW) (a:List { i:Nat // i<n }) (W:zW):Prop:=
 ∃ (S1:Nat->Prop) (v:zV) (d:Nat->Nat) (b:Nat->Array zV) (c:Nat->List Wr),gA S (λq=>w.heap.size<=q) e D σ v1 v2 v3 v4 v5 te w W S1 v (G a) (a.flatMap λx=>us x.1) d b c/\Boxed W w.heap.size 104 v/\¬ S1 w.heap.size/\Boxed W (w.heap.size+1) 104 f
def Tl {S:Nat->Prop} {n Q4:Nat} {s:zV} (k:∀ q,S q->q<Q4) (m:w.heap.size<=Q4):OwnFrom Q4 (ez S e D σ v1 v2 v3 v4 v5 te us n s w):=by
 rintro r W u C ⟨S1,v,p,b,c,l,i,t,j⟩ g d;refine ⟨S1,v,p,b,c,l.turn g d k m,i.kept g λf=>?_,t,j.kept g λf=>?_⟩
 rotate_left
 .obtain ⟨_,o,a,h⟩:=d _ f.symm;rw [show W.heap[w.heap.size+1]?=_ from j] at a;cases a;simp [Obj.isCells] at h
 obtain ⟨_,o,a,h⟩:=d _ f.symm;rw [show W.heap[w.heap.size]?=_ from i] at a;cases a;simp [Obj.isCells] at h
def GJ (h:cK w S e D σ v1 v2 v3 v4 v5 te) (g:Nat) (a:Option zD) (n c:Nat) (a4:S g) (Q6:w.heap[g]?=A (zM #[B a n c] 104 (0,0))) (ha:n=0\/∃ h o,a=A (X h o)/\S h) (hn:n<=maxLen) (a9:n*8<=140737488355328)
  (hc:∀ i,i<n->∀ h o,a=A (X h o)->w.cell? (X h (o+i))=A (.func (.func (N i)) #[] (cs i))) (ag:∀ i,i<n->∀ args w,(callFunc (N i) args).run prog w=.ok (.enter (N i) args) w)
  (Z:∀ i,i<n->∀ W S1 σ1,(∀ q,S q->S1 q/\W.heap[q]?=w.heap[q]?)->cK W S1 e D σ1 v1 v2 v3 v4 v5 te->zC prog (N i) (cs i) W (gX S1 e D σ1 (us i) v1 v2 v3 v4 v5 te W)) :
  zC prog 106 #[zJ g] w (gX S e D σ ((List.range n).reverse.flatMap us) v1 v2 v3 v4 v5 te w):=by
 have m0:w.cell? (yh g)=A (B a n c):=(bq w g 0 _ _ _ Q6).t rfl;have xE:=h.still g a4;have z:=I h;have HC:=I hc;have HE:=I ag;have ax:=I Z;have HA:=I ha;clear Q6 hc ag Z h ha;refine (wE (n:=3)).1 ?_;refine callsIn_of_wp_marks func106 rfl trivial ?_ rfl;simp only [ntmps106,wq,gS,nZ,Nat.reduceAdd,Nat.reduceSub,wb,wh,wu,wm,ko,gT]
 gi_wp2_with (first|(gi_at_call 107;refine (bp _ a n c _).m ?_;rintro e w' ⟨rfl,rfl⟩)|(refine ⟨trivial,?_⟩;gi_at_call 107;refine (bp _ a n c _).m ?_;rintro e w' ⟨rfl,rfl⟩))
 have ao:zB w ((w.alloc (zM #[zN] 104)).alloc (zM #[B a n c] 104)):=aY w _ _;have bO:=Boxed.new w 104 (zN);have bN:=Boxed.new (w.alloc (zM #[zN] 104)) 104 (B a n c);rw [World.size_alloc] at bN;have h1:∀ q,S q->q<w.heap.size:=z.o.still;refine wpIn_rangeFunc_ownG rfl (by omega) (gf:=143) (lb:=#[zK (A (yh (w.heap.size+1)))]) rfl trivial (oK func143 (by kernel_rfl) rfl)
  (AL _ (by omega) (w.heap.size+1) n c a (λi=>.func (.func (N i)) #[] (cs i)) (λq=>S q\/q=w.heap.size+1) hn (zZ rfl) _ (λq H=>by rcases H with H|H;have:=h1 q H;simp;omega;simp;omega) bN.cell (HA.o.imp id λ⟨h,o,C,M⟩=>⟨h,o,C,zR M⟩) (λi hi h o e'=>by
   rcases HA.o with h0|⟨h',o',C,M⟩
   .omega
   .rw [e'] at C;cases C;exact (ao.cell (p:=X h (o+i)) (h1 h M)).t (HC.o i hi h o e')))
  (λC M=>⟨bf C.1 M.1,λq H=>(M.2 q H).t (C.2 q H)⟩)
  (λW Q0 o o' hl ho _ _=>⟨(by simp),λq H=>World.putObj_heap_other (λe'=>by simp at hl;rcases H with H|H;have:=h1 q H;omega;omega)⟩)
  (aM _ _) (λ_=>rfl) (ez S e D σ v1 v2 v3 v4 v5 te us n (B a n c) w) (λ_ _ _=>False)
  (Tl (λq H=>by have:=h1 q H;simp;omega) (by simp;omega)) (λ_ _ _ _ _ hs _ _=>hs)
  ⟨S,zN,_,_,_,(gA.start z.o).next ao,bO.alloc _,λC=>by have:=h1 _ C;omega,bN⟩
  (λx=>{ tmps:=#[zJ g,.nilFunc,zJ w.heap.size,undef,.func (.func (N x.1)) #[] (cs x.1),B a n c,.func (.func 143) #[] #[zK (A (yh (w.heap.size+1)))],J (x.1:Int),.func (.func (N x.1)) #[] (cs x.1),undef,undef,undef,undef,undef,undef,undef],defers:=[] }) ?assign ?body ?done ?stop
 case assign=>
  intro Q0 x W K b
  gi_wp2
  exact b
 case body=>
  rintro Q0 k x W ⟨S1,v,N',ac,bj,E,Q4,au,w2⟩ ar;obtain ⟨i1,gi,qh,qi,pD⟩:=fe mV;obtain ⟨L,l,j,rfl⟩:=b7 E.own;have br:=Q4.cell;have a8:prog.follows .mixedOrders=true:=(by kernel_rfl);have bu:=HE.o x.1 x.2;have bX:=E.ks.size;have bS:w.heap.size<W.heap.size:=Q4.lt;have bv:G k<n:=ar;have r:=I E;have av:=I Q4;have cn:(B L l j).ownBlock≠A w.heap.size:=λC=>Q4.not_row (by decide) E.own C.symm;have Jt:=I (λW' (hW:zB W W')=>(ax.o x.1 x.2 W' S1 _ (λq H=>⟨r.o.s0 q H,(hW.block q (r.o.ph.still q (r.o.s0 q H))).t (r.o.ks.block q (h1 q H) (z.o.notP q H))⟩) (r.o.ph.next hW)).m (R':=λhu P=>∃ T V,hu=zP (.func (.func T) #[] V)/\Hid (∃ S2,(∀ q,S1 q->S2 q)/\(∀ q,S2 q->S1 q\/(W.heap.size<=q/\∃ c ad af,P.heap[q]?=A (zM c ad af)))/\cK P S2 e D (aU (us x.1) (aU (k.flatMap λx=>us x.1) σ)) v1 v2 v3 v4 v5 te/\cO e D P S2 T V (dz (us x.1) (aU (k.flatMap λx=>us x.1) σ))/\Ks (λq=>q=e\/D q) W P)/\Hid (P.ownsRow w.heap.size 151 1 (B L l j) (G k) ((List.range (G k)).map λln=>jt (N' ln) (ac ln)))/\W.heap.size<=P.heap.size/\Hid (Boxed P w.heap.size 104 (B L l j))) (by
   rintro hu P ⟨T,V,S2,rfl,q0,q1,q2,q3,q4⟩;have HP:Ks (λq=>q=e\/D q) W P:=(Ks.of hW).t q4;refine ⟨T,V,rfl,⟨S2,q0,λq H=>(q1 q H).imp id λh=>⟨bf hW.size h.1,h.2⟩,q2,q3,HP⟩,iy r.o.own HP λq H C=>?_,HP.size,HP.cells av.o λC=>?_⟩
   .obtain ⟨_,M,h3⟩:=r.o.ob q H;rcases C with C|C
    .exact M C
    .exact h3 C
   .have od:=z.o.lt;rcases C with C|C
    .omega
    .have:=(z.o.bX _ C).lt;omega))
  have U:=I (show ∀ (T:Nat) (V:Array zV) (P:zW) (F m:Nat) (Y:zW),(∃ S2,(∀ q,S1 q->S2 q)/\(∀ q,S2 q->S1 q\/(W.heap.size<=q/\∃ c ad af,P.heap[q]?=A (zM c ad af)))/\cK P S2 e D (aU (us x.1) (aU (k.flatMap λx=>us x.1) σ)) v1 v2 v3 v4 v5 te/\cO e D P S2 T V (dz (us x.1) (aU (k.flatMap λx=>us x.1) σ))/\Ks (λq=>q=e\/D q) W P)->W.heap.size<=P.heap.size ->
    Y.ownsRow w.heap.size 151 1 (zS F (G k+1) m) (G k+1) (((List.range (G k)).map λln=>jt (N' ln) (ac ln))++[.func (.func T) #[] V])->(P.alloc (zM #[.func (.func T) #[] V] 151)).grownBy Y (B L l j).ownBlock->((B L l j).ownBlock=A F\/F=P.heap.size+1)->Boxed Y w.heap.size 104 (B L l j) ->
    KeepsFrom ((w.alloc (zM #[zN] 104)).alloc (zM #[B a n c] 104)).heap.size W (Y.setCell (yh w.heap.size) (zS F (G k+1) m))/\OC (λq=>S q\/q=w.heap.size+1) W (Y.setCell (yh w.heap.size) (zS F (G k+1) m))/\ez S e D σ v1 v2 v3 v4 v5 te us n (B a n c) w (k++[x]) (Y.setCell (yh w.heap.size) (zS F (G k+1) m)) by
   rintro T V P F m Y ⟨S2,q0,q1,q2,q3,q4⟩ QT ba Q6 y a2;have od:=z.o.lt;have a3:=Q6.size;simp at a3;have bb:=r.o.step (hO:=λq H=>bf r.o.ks.size H) q0 q1 q2 q3 q4 Q6 ba (by
    rcases y with C|C
    .exact zR (by rw [C];rfl)
    .exact zZ ⟨F,rfl,by rw [C];exact Nat.le_succ _⟩)
   have ak:¬ S2 w.heap.size:=λC=>by
    rcases q1 _ C with M|M
    .exact au M
    .omega
   have Rv:F≠w.heap.size:=λC=>by
    rcases y with M|M
    .exact cn (by rw [M,C])
    .omega
   have aJ:∀ q,q≠w.heap.size->(Y.setCell (yh w.heap.size) (zS F (G k+1) m)).heap[q]?=Y.heap[q]?:=λq H=>cY _ _ _ _ H;have aa:∀ q,q<W.heap.size->q≠w.heap.size->¬ (q=e\/D q)->(B L l j).ownBlock≠A q->(Y.setCell (yh w.heap.size) (zS F (G k+1) m)).heap[q]?=W.heap[q]?:=λq H C M h3=>by
    rw [aJ q C,Q6.block q (by simp;omega) (λh=>h3 h.symm),cj _ _ _ (by omega)];exact q4.block q H M
   have Gg:(k++[x]).flatMap (λx=>us x.1)=(k.flatMap λx=>us x.1)++us x.1:=(by simp);have QV:=bb.ahW (q:=w.heap.size) (j:=0) (u:=zS F (G k+1) m) ak (by simpa [Value.ownBlock] using Rv) (aG _) (by omega) λC=>by have:=(z.o.bX _ C).lt;omega
   rw [<- Gg] at QV;have a5:(k++[x]).length=G k+1:=(by simp);have a0:(B L l j).ownBlock≠A (w.heap.size+1):=λC=>w2.not_row (by decide) r.o.own C.symm;have a1:=w2.lt;have al:(Y.setCell (yh w.heap.size) (zS F (G k+1) m)).heap[w.heap.size+1]?=W.heap[w.heap.size+1]?:=aa _ a1 (by omega) (λC=>by
     rcases C with C|C
     .omega
     .have:=(z.o.bX _ C).lt;omega) a0
   refine ⟨⟨by simp;omega,λq o hB H ho=>?_⟩,⟨by simp;omega,λq H=>?_⟩,S2,_,_,_,_,by rw [a5];exact QV,?_,ak,al.t w2⟩
   .simp at hB;refine (aa q (cz.1 H).1 (by omega) (λC=>?_) λC=>?_).t H
    .rcases C with C|C
     .omega
     .have:=(z.o.bX q C).lt;omega
    .rcases r.o.own.2 with ⟨h3,_⟩|⟨gg,bl,bn,h3,_,h4,_⟩
     .rw [h3] at C;simp [Value.ownBlock] at C
     .rw [h3] at C;simp [Value.ownBlock] at C;subst C;rw [h4] at H;cases H;simp [Obj.isCells] at ho
   .rcases H with H|rfl
    .have bw:=h1 q H;refine aa q (by omega) (by omega) (z.o.notP q H) λC=>?_;exact (r.o.ob q C).1 (r.o.s0 q H)
    .exact al
   .have:=a2.set (zS F (G k+1) m);simpa using this)
  clear E Q4 ar w2
  gi_wp2
  refine wpIn_region_any a8 ?_;change wpAnyIn _ _ _ _ _ _ _ _ _ (World.drew _);refine mJ (rs:=[0,1]) (by kernel_rfl) (by simp) ?_;refine kK rfl (λK b=>?_) (kK rfl (λK b=>?_) mH)
  .go_simp
   refine b _ _ ?_;clear b K;refine mJ (rs:=[1]) (by kernel_rfl) (by simp) (kK rfl (λK b=>?_) mH)
   go_simp
   refine b _ _ ?_;clear b K;refine mJ (rs:=[2]) (by kernel_rfl) (by simp) (kK rfl (λK b=>?_) mH)
   go_simp
   refine ⟨trivial,(CallsIn.inRound Q0 (wE.2 (Jt.o _ (aM _ _).drew))).m ?_⟩;rintro e2 P ⟨T,V,rfl,B2,BO,QT,BX⟩;refine b _ _ ?_;clear b K;have am:=BX.o.cell;refine mJ (rs:=[3]) (by kernel_rfl) (by simp) (kK rfl (λK b=>?_) mH)
   go_simp
   refine b _ _ ?_;clear b K;refine mJ (rs:=[4]) (by kernel_rfl) (by simp) (kK rfl (λK b=>?_) mH);refine lY _ (by rfl) (.tmp 9) (.tmp 12) 104 (by rfl) w.heap.size 151 i1 .nilFunc 1 8 underlying104 gi qh qi pD rfl (by decide) (B L l j) (G k) _ (by rfl) (BO.o.alloc _) (yh P.heap.size) 1 1 [.func (.func T) #[] V] (by rfl) rfl (λq u H=>bC P [.func (.func T) #[] V] 151 q u H) (λu t=>by simp at t;subst t;rfl) (by omega) (by omega) (by omega) (by simp;omega) (P.heap.size+1) (by simp) ?_;intro F m Y s d y vQ;refine b _ _ ?_;clear b K;have f:Boxed Y w.heap.size 104 (B L l j):=(d.block _ (by simp;omega) (λC=>cn C.symm)).t ((cj P _ _ (by omega)).t BX.o);have Rw:=f.cell;have Rx:=f.frozen;have O:=I s;have hq:=I d;have Q5:=I y;have R:=I f;clear s d y f;refine mJ (rs:=[5]) (by kernel_rfl) (by simp) (kK rfl (λK b=>?_) mH)
   go_simp
   refine b _ _ ?_;clear b K;refine wpAnyIn_done (by kernel_rfl) ?_ _
   gi_wp2
   exact U.o T V P F m Y B2.o QT O.o hq.o Q5.o R.o
  .go_simp
   refine b _ _ ?_;clear b K;refine mJ (rs:=[0,2]) (by kernel_rfl) (by simp) (kK rfl (λK b=>?_) (kK rfl (λK b=>?_) mH))
   .go_simp
    refine b _ _ ?_;clear b K;refine mJ (rs:=[2]) (by kernel_rfl) (by simp) (kK rfl (λK b=>?_) mH)
    go_simp
    refine ⟨trivial,(CallsIn.inRound Q0 (wE.2 (Jt.o _ (aM _ _).drew))).m ?_⟩;rintro e2 P ⟨T,V,rfl,B2,BO,QT,BX⟩;refine b _ _ ?_;clear b K;have am:=BX.o.cell;refine mJ (rs:=[3]) (by kernel_rfl) (by simp) (kK rfl (λK b=>?_) mH)
    go_simp
    refine b _ _ ?_;clear b K;refine mJ (rs:=[4]) (by kernel_rfl) (by simp) (kK rfl (λK b=>?_) mH);refine lY _ (by rfl) (.tmp 9) (.tmp 12) 104 (by rfl) w.heap.size 151 i1 .nilFunc 1 8 underlying104 gi qh qi pD rfl (by decide) (B L l j) (G k) _ (by rfl) (BO.o.alloc _) (yh P.heap.size) 1 1 [.func (.func T) #[] V] (by rfl) rfl (λq u H=>bC P [.func (.func T) #[] V] 151 q u H) (λu t=>by simp at t;subst t;rfl) (by omega) (by omega) (by omega) (by simp;omega) (P.heap.size+1) (by simp) ?_;intro F m Y s d y vQ;refine b _ _ ?_;clear b K;have f:Boxed Y w.heap.size 104 (B L l j):=(d.block _ (by simp;omega) (λC=>cn C.symm)).t ((cj P _ _ (by omega)).t BX.o);have Rw:=f.cell;have Rx:=f.frozen;have O:=I s;have hq:=I d;have Q5:=I y;have R:=I f;clear s d y f;refine mJ (rs:=[5]) (by kernel_rfl) (by simp) (kK rfl (λK b=>?_) mH)
    go_simp
    refine b _ _ ?_;clear b K;refine wpAnyIn_done (by kernel_rfl) ?_ _
    gi_wp2
    exact U.o T V P F m Y B2.o QT O.o hq.o Q5.o R.o
   .go_simp
    refine ⟨trivial,(CallsIn.inRound Q0 (wE.2 (Jt.o _ (aM _ _).drew))).m ?_⟩;rintro e2 P ⟨T,V,rfl,B2,BO,QT,BX⟩;refine b _ _ ?_;clear b K;have am:=BX.o.cell;refine mJ (rs:=[0,3]) (by kernel_rfl) (by simp) (kK rfl (λK b=>?_) (kK rfl (λK b=>?_) mH))
    .go_simp
     refine b _ _ ?_;clear b K;refine mJ (rs:=[3]) (by kernel_rfl) (by simp) (kK rfl (λK b=>?_) mH)
     go_simp
     refine b _ _ ?_;clear b K;refine mJ (rs:=[4]) (by kernel_rfl) (by simp) (kK rfl (λK b=>?_) mH);refine lY _ (by rfl) (.tmp 9) (.tmp 12) 104 (by rfl) w.heap.size 151 i1 .nilFunc 1 8 underlying104 gi qh qi pD rfl (by decide) (B L l j) (G k) _ (by rfl) (BO.o.alloc _) (yh P.heap.size) 1 1 [.func (.func T) #[] V] (by rfl) rfl (λq u H=>bC P [.func (.func T) #[] V] 151 q u H) (λu t=>by simp at t;subst t;rfl) (by omega) (by omega) (by omega) (by simp;omega) (P.heap.size+1) (by simp) ?_;intro F m Y s d y vQ;refine b _ _ ?_;clear b K;have f:Boxed Y w.heap.size 104 (B L l j):=(d.block _ (by simp;omega) (λC=>cn C.symm)).t ((cj P _ _ (by omega)).t BX.o);have Rw:=f.cell;have Rx:=f.frozen;have O:=I s;have hq:=I d;have Q5:=I y;have R:=I f;clear s d y f;refine mJ (rs:=[5]) (by kernel_rfl) (by simp) (kK rfl (λK b=>?_) mH)
     go_simp
     refine b _ _ ?_;clear b K;refine wpAnyIn_done (by kernel_rfl) ?_ _
     gi_wp2
     exact U.o T V P F m Y B2.o QT O.o hq.o Q5.o R.o
    .go_simp
     refine b _ _ ?_;clear b K;have bk:w.heap.size<P.heap.size:=(by omega);refine mJ (rs:=[0]) (by kernel_rfl) (by simp) (kK rfl (λK b=>?_) mH)
     go_simp
     refine b _ _ ?_;clear b K;refine mJ (rs:=[4]) (by kernel_rfl) (by simp) (kK rfl (λK b=>?_) mH);refine lY _ (by rfl) (.tmp 9) (.tmp 12) 104 (by rfl) w.heap.size 151 i1 .nilFunc 1 8 underlying104 gi qh qi pD rfl (by decide) (B L l j) (G k) _ (by rfl) (BO.o.alloc _) (yh P.heap.size) 1 1 [.func (.func T) #[] V] (by rfl) rfl (λq u H=>bC P [.func (.func T) #[] V] 151 q u H) (λu t=>by simp at t;subst t;rfl) (by omega) (by omega) (by omega) (by simp;omega) (P.heap.size+1) (by simp) ?_;intro F m Y s d y vQ;refine b _ _ ?_;clear b K;have f:Boxed Y w.heap.size 104 (B L l j):=(d.block _ (by simp;omega) (λC=>cn C.symm)).t ((cj P _ _ (by omega)).t BX.o);have Rw:=f.cell;have Rx:=f.frozen;have O:=I s;have hq:=I d;have Q5:=I y;have R:=I f;clear s d y f;refine mJ (rs:=[5]) (by kernel_rfl) (by simp) (kK rfl (λK b=>?_) mH)
     go_simp
     refine b _ _ ?_;clear b K;refine wpAnyIn_done (by kernel_rfl) ?_ _
     gi_wp2
     exact U.o T V P F m Y B2.o QT O.o hq.o Q5.o R.o
 case done=>
  rintro D' ys W hD rfl ⟨S1,v,N',ac,bj,E,Q4,au,w2⟩ b;have bs:=Q4.cell;obtain ⟨L,l,j,rfl⟩:=b7 E.own;have Tm:=I (E.all (hk8:=by rw [tO];exact a9) (hO:=λq H=>bf E.ks.size H));have r:=I E;have HK:=I b;clear E Q4 w2 b
  gi_wp2_with (first|(refine ⟨trivial,?_⟩;gi_at_call 72;refine (wE.2 Tm.o).m ?_;rintro hu w1 ⟨⟨T,V,S2,rfl,N1⟩,w3⟩;have HR:=I N1;have vA:=I w3;clear N1 w3)|(gi_at_call 72;refine (wE.2 Tm.o).m ?_;rintro hu w1 ⟨⟨T,V,S2,rfl,N1⟩,w3⟩;have HR:=I N1;have vA:=I w3;clear N1 w3))
  have an:=(vA.o.block D' (cz.1 HK.o).1).t HK.o;refine ⟨(by simp),.inl ⟨_,_,rfl,run_takeDeferred an,?_⟩⟩;have QV:gX S e D σ ((tN n n (aG _)).flatMap λx=>us x.1) v1 v2 v3 v4 v5 te w (zP (.func (.func T) #[] V)) w1:=⟨T,V,S2,rfl,HR.o⟩;rw [Tj] at QV;have ay:gX S e D σ ((List.range n).reverse.flatMap us) v1 v2 v3 v4 v5 te w (zP (.func (.func T) #[] V)) (w1.putObj D' (.deferred none)):=qG.turn QV (grownBy_putObj' _ D' (.deferred none)) (λhu e'=>by cases e';exact ⟨by simp at hD;omega,_,an,rfl⟩) h1;refine ⟨.func (.func T) #[] V,?_,ay⟩;simp [results,f106,go_sem]
 case stop=>
  rintro D' c k W _ _ h _;exact h.elim
end
section
variable {S S1 O:Nat->Prop} {e:Nat} {D:Nat->Prop} {σ:bg} {v1 v2 v3 v4 v5:zV} {te:TypeId} {w W Z R:zW} {v v':zV} {k:Nat} {U:List Wr} {N:Nat->Nat} {cs:Nat->Array zV} {us:Nat->List Wr}
def gB:bg->List Nat->List Wr
 | _,[]=>[]
 | σ,b::r=>.vl b (cD (mW σ.fs) (σ.mem b).p)::gB (kx σ (.vl b (cD (mW σ.fs) (σ.mem b).p))) r
def JR (l:List Nat) (b:Nat):∀ σ:bg,gB σ (l++[b])=gB σ l++[.vl b (cD (mW (aU (gB σ l) σ).fs) ((aU (gB σ l) σ).mem b).p)]:=by
 induction l with
 | nil=>intro σ;rfl
 | cons c r a=>intro σ;simp only [gT,gB,aU,a]
def GK (σ:bg) (b:Nat) (v:Vl):(kx σ (.vl b v)).ord=σ.ord:=rfl
def OG (l:List Nat):∀ σ:bg,(aU (gB σ l) σ).ord=σ.ord:=by
 induction l with
 | nil=>intro σ;rfl
 | cons c r a=>intro σ;simp only [gB,aU,a,GK]
def OH (σ:bg) (b:Nat) (v:Vl):(kx σ (.vl b v)).fs=qH σ.fs b v:=by
 unfold bg.fs qH;rw [fM];refine sB λq _=>?_;simp only [Function.comp];by_cases h:q=b
 .subst h;simp [kx,fN]
 .simp [kx,dM _ _ _ _ h,h]
def OI (σ:bg) (b:Nat) (a:b∈σ.ord):oh σ.fs b=(σ.mem b).p:=by
 unfold oh bg.fs;rw [oI];have:((λf:Nat × Fd=>f.1 == b) ∘ λb=>(b,σ.mem b))=λq=>q == b:=rfl;rw [this];cases h:σ.ord.find? (λq=>q == b) with
 | none=>
  rw [rp] at h;exact absurd (beq_self_eq_true b) (h b a)
 | some q=>
  have:=wA h;simp at this;subst this;rfl
def EK (l:List Nat):∀ σ:bg,(∀ b,b∈l->b∈σ.ord)->(aU (gB σ l) σ).fs=iR σ.fs l:=by
 induction l with
 | nil=>intro σ _;rfl
 | cons c r d=>
  intro σ h;simp only [gB,aU,iR];rw [d (kx σ (.vl c (cD (mW σ.fs) (σ.mem c).p))) λb a=>h b (by simp [a]),OH,OI σ c (h c (by simp))]
def gA.akP (h:gA S O e D σ v1 v2 v3 v4 v5 te w W S1 v k U N cs us) (d:Ks (λq=>q=e\/D q) W Z):Z.ownsRow w.heap.size 151 1 v k ((List.range k).map λj=>jt (N j) (cs j)):=
 iy h.own d λq b a=>by
  obtain ⟨_,c,f⟩:=h.ob q b;rcases a with a|a
  .exact c a
  .exact f a
def EL (ck:Nat) (ak:Option zD) (K:List Nat) (h:cK w S e D σ v1 v2 v3 v4 v5 te) (hl:σ.ord.length<=500) (Tn:G K<=500)
  (hk:∀ j (h:j<G K),D (K[j])/\∃ g o,ak=A (X g o)/\g<w.heap.size/\g≠e/\¬ D g/\w.cell? (X g (o+j))=A (zK (A (yh (K[j]))))) :
  zC prog 167 #[zJ e,B ak (G K) ck] w (gX S e D σ (gB σ K) v1 v2 v3 v4 v5 te w):=by
 have HS:=I h;have HK:=I hk;obtain ⟨i1,gi,qh,qi,pD⟩:=fe mV;clear h hk;go_in;go_wp2_with fail;go_loopg [5,7,10] (G K) (λgk s5 _ ag wr=>∃ (j:Nat) (S1:Nat->Prop) (N:Nat->Nat) (cs:Nat->Array zV) (us:Nat->List Wr),j<=G K/\G K<=j+gk/\ag=J j/\Hid (gA S (λq=>w.heap.size<=q) e D σ v1 v2 v3 v4 v5 te w wr S1 s5 j (gB σ (K.take j)) N cs us))
 case atStart=>exact ⟨0,_,_,_,_,bE _,by omega,rfl,gA.start HS.o⟩
 case round=>
  obtain ⟨j,S1,N,cs,us,hj,xA,rfl,n⟩:=hrel;have av:=n.o.ks.size;by_cases N1:j<G K
  .have aa:(j:Int)<(G K:Int):=(by omega);obtain ⟨u,g,o,rfl,hg,tA,af,hp⟩:=HK.o j N1;have ar:=(nu (a:=X g (o+j)) (n.o.ks.block g hg (by rintro (l|l);exact tA l;exact af l))).t hp;have cn:=I (JR (K.take j) K[j] σ);rw [show K.take j++[K[j]]=K.take (j+1) by rw [List.take_append_getElem N1]] at cn;have Q4:(aU (gB σ (K.take j)) σ).ord=σ.ord:=OG _ _;have Q6:=I (show (aU (gB σ (K.take j)) σ).fs.length<=500 by unfold bg.fs;rw [fy,Q4];exact hl);clear Q4;generalize K[j]=b at *;generalize H:aU (gB σ (K.take j)) σ=d at *;have i:cK wr S1 e D d v1 v2 v3 v4 v5 te:=by rw [<- H];exact n.o.ph
   have QT:=I i;have hF:=i.bX b u;have QV:=hF.lt;obtain ⟨_,yP,_,_,U,T,c2,y,Q5⟩:=hF;obtain ⟨⟨k0,k1,k2,k3,k4,k5,k6⟩,OJ,_⟩:=fP y;obtain ⟨hW,c,w2,_,_,ln⟩:=i.sh;have od:=i.lt;have ad:wr.cell? (yh e)=A (B hW d.fs.length c):=(bJ ln).1.1;have HC:=I (OL (zJ e) (mW d.fs) (d.mem b).p U T c2 wr.drew (Q5.next λ_ _=>rfl) i.still yP (λam W M=>Tp am e c hW d.fs W ((w2.next (aM _ _).drew).next M) ((M.cell (p:=yh e) od).t ad) (by have:=M.size;simp at this;omega) (by have:=Q6.o;omega)));obtain ⟨V,r,m,rfl⟩:=b7 n.o.own;generalize ax:cD (mW d.fs) (d.mem b).p=E at *;have BI:=I (show zC prog 197 #[zd #[J ((d.mem b).p.k:Int),.string ⟨(d.mem b).p.nm.toArray⟩,J ((d.mem b).p.n:Int),B U T c2],.func (.func 198) #[zJ e] #[]] wr.drew (dx E wr.drew) from HC.o);have hD:=I (λW (M:zB wr.drew W)=>(Rt ((QT.o.next (aM _ _).drew).next M) u E ((M.block b QV).t y) (Q5.next λq v=>M.block q (QT.o.still q v))).m (R':=λks L=>∃ P a,ks=zP (.func (.func P) #[] a)/\Hid (∃ S2,(∀ q,S1 q->S2 q)/\(∀ q,S2 q->S1 q\/(wr.heap.size<=q/\∃ c al an,L.heap[q]?=A (zM c al an)))/\cK L S2 e D (kx d (.vl b E)) v1 v2 v3 v4 v5 te/\cO e D L S2 P a [Te d (.vl b E)]/\Ks (λq=>q=e\/D q) wr L)/\Hid (L.ownsRow w.heap.size 151 1 (B V r m) j ((List.range j).map λj=>jt (N j) (cs j)))/\wr.heap.size<=L.heap.size/\Hid (L.heap[b]?=A (zM #[.string ⟨(d.mem b).nm.toArray⟩,J ((d.mem b).p.k:Int),.string ⟨(d.mem b).p.nm.toArray⟩,J ((d.mem b).p.n:Int),B U T c2,J E.1,J E.2] 223 (0,0)))) (by
    rintro ks L ⟨⟨P,a,S2,rfl,q0,q1,q2,t,Y⟩,n2⟩;have C:Ks (λq=>q=e\/D q) wr L:=(Ks.of ((aM _ _).drew.t M)).t Y;exact ⟨P,a,rfl,⟨S2,q0,λq v=>(q1 q v).imp id λh=>⟨bf M.size h.1,h.2⟩,q2,t,C⟩,n.o.akP C,C.size,n2⟩))
   have n1:=I (λW (M:zB wr.drew W)=>fP ((M.block b QV).t y));clear HC OJ y w2 ln i;have Q0:∀ q,(B V r m).ownBlock=A q->q≠b:=λq v e'=>(n.o.ob q v).2.2 (e'▸u);have Z:=I Q0;clear Q0;go_wp2_with fail
   go_region_held3 (λs=>s.cell? (X b 1)=A (J ((d.mem b).p.k:Int))/\s.cell? (X b 2)=A (.string ⟨(d.mem b).p.nm.toArray⟩)/\s.cell? (X b 3)=A (J ((d.mem b).p.n:Int))/\s.cell? (X b 4)=A (B U T c2)) (first|go_keep|(go_split_ands;exact ⟨x,z,n3,n4⟩)) (first|(go_at_call 197;refine BI.o.m ?_;rintro e w1 ⟨rfl,F⟩;obtain ⟨⟨n0,x,z,n3,n4,n5,n6⟩,_,_⟩:=n1.o _ F;have B1:=I F;clear F)|(go_at_call 196;refine (hD.o _ B1.o).m ?_;rintro e L ⟨P,a,rfl,B2,BO,au,B3⟩;obtain ⟨⟨n0,x,z,n3,n4,n5,n6⟩,_,_⟩:=fP B3.o)|(refine yw _ (by rfl) (.tmp 14) (.tmp 26) 104 (by rfl) w.heap.size 151 i1 .nilFunc 1 8 underlying104 gi qh qi pD rfl (by decide) (B V r m) j _ (by rfl) (BO.o.alloc _) (yh L.heap.size) 1 1 [.func (.func P) #[] a] (by rfl) rfl (λq w' v=>bC L [.func (.func P) #[] a] 151 q w' v) (λw' hu=>by simp at hu;subst hu;rfl) (by omega) (by unfold maxLen;omega) (by omega) (by simp;omega) (L.heap.size+1) (by simp) ?_;intro g' ao w3 k f R vQ;obtain ⟨⟨n0,x,z,n3,n4,n5,n6⟩,_,_⟩:=fP ((f.block b (by simp;omega) (λe=>Z.o b e.symm rfl)).t ((cj L _ _ (by omega)).t B3.o));have B4:=I k;have B5:=I f;have B6:=I R;clear k f R))
   all_goals go_wp2
   all_goals go_roundg (G K - (j+1))
   all_goals try (case measure=>omega)
   all_goals (
    obtain ⟨S2,q0,q1,q2,t,Y⟩:=B2.o;have O:=n.o.step (hO:=λq v=>bf n.o.ks.size v) (us1:=[.vl b E]) q0 q1 (by rw [H];exact q2) (by rw [H];exact t) Y B5.o B4.o (by
     rcases B6.o with l|l
     .exact zR (by rw [l];rfl)
     .exact zZ ⟨g',rfl,by rw [l];exact Nat.le_succ _⟩)
    rw [<- cn.o] at O;exact ⟨j+1,S2,_,_,_,by omega,by omega,by go_num,O⟩)
  .have aa:¬ (j:Int)<(G K:Int):=(by omega);obtain rfl:j=G K:=(by omega);have HA:=I (n.o.all (hk8:=by omega) (hO:=λq v=>bf n.o.ks.size v));rw [tq] at HA;obtain ⟨V,r,m,rfl⟩:=b7 n.o.own;go_wp2_with (go_at_call 72;refine HA.o.m ?_;rintro ks w1 ⟨⟨N',ac,S',rfl,h1⟩,_⟩;have HR:=I h1;clear h1);go_ret;exact ⟨N',ac,S',rfl,HR.o⟩
variable {w':zW} {S':Nat->Prop} {b:Nat}
def GL (h:cK w S e D σ v1 v2 v3 v4 v5 te) (f g:Nat) (l:List Nat) (a:Option zD) (c:Nat) (j:w.heap[f]?=A (zM #[zJ e] 253 (0,0))) (k:w.heap[g]?=A (zM #[B a (G l) c] 101 (0,0))) (q:∀ b,b∈l->D b) (m:jQ w S a l) (s:G l<=c) (o:a=none->c=0) :
  zC prog 192 #[zJ f,zJ g] w (gX S e D σ [.ord l] v1 v2 v3 v4 v5 te w):=by
 have t:=I (Hf h l a c q m s o);have v:w.cell? (yh f)=A (zJ e):=(bq w f 0 _ _ _ j).t rfl;have u:w.cell? (yh g)=A (B a (G l) c):=(bq w g 0 _ _ _ k).t rfl;clear j k m h;go_in;go_wp2_with (go_at_call 163;refine t.o.m ?_;rintro r C ⟨p,i,S',rfl,d⟩;have n:=I d;clear d);go_ret;exact ⟨p,i,S',rfl,n.o⟩
def GM (h:cK w S e D σ v1 v2 v3 v4 v5 te) (c d:Nat) (x:By) (g:w.heap[c]?=A (zM #[zJ b] 291 (0,0))) (i:w.heap[d]?=A (zM #[Q x] 9 (0,0))) (l:D b) :
  zC prog 221 #[zJ c,zJ d] w (gX S e D σ [.nm b x] v1 v2 v3 v4 v5 te w):=by
 have m:=I (iM h l x);have o:w.cell? (yh c)=A (zJ b):=(bq w c 0 _ _ _ g).t rfl;have n:w.cell? (yh d)=A (Q x):=(bq w d 0 _ _ _ i).t rfl;clear g i h;go_in;go_wp2_with (go_at_call 199;refine m.o.m ?_;rintro r C ⟨k,f,S',rfl,a⟩;have j:=I a;clear a);go_ret;exact ⟨k,f,S',rfl,j.o⟩
def GN (h:cK w S e D σ v1 v2 v3 v4 v5 te) (f n:Nat) (p:Pt) (a:Option zD) (l c:Nat) (m:w.heap[f]?=A (zM #[zK (A (X b 1))] 251 (0,0))) (o:w.heap[n]?=A (zM #[J p.k,Q p.nm,J p.n,B a l c] 89 (0,0))) (u:D b) (q:dR w S p a l c) (j:az p) (k:Good p) (g:(ai p).length<=100) :
  zC prog 191 #[zJ f,zJ n] w (gX S e D σ [.rl b p] v1 v2 v3 v4 v5 te w):=by
 have v:=I (iH h u p a l c q j k g);have C:w.cell? (yh f)=A (zK (A (X b 1))):=(bq w f 0 _ _ _ m).t rfl;obtain ⟨⟨y,x,E,z⟩,_,_⟩:=aX o;clear m o h q;go_in;go_wp2_with (go_at_call 162;refine v.o.m ?_;rintro r F ⟨t,i,S',rfl,d⟩;have s:=I d;clear d);go_ret;exact ⟨t,i,S',rfl,s.o⟩
def GO (h:cK w S e D σ v1 v2 v3 v4 v5 te) (d c:Nat) (v:Vl) (i:w.heap[d]?=A (zM #[zK (A (X b 5))] 287 (0,0))) (g:w.heap[c]?=A (zM #[J v.1,J v.2] 177 (0,0))) (l:D b) :
  zC prog 219 #[zJ d,zJ c] w (gX S e D σ [.vl b v] v1 v2 v3 v4 v5 te w):=by
 have m:=I (GG h l v);have p:w.cell? (yh d)=A (zK (A (X b 5))):=(bq w d 0 _ _ _ i).t rfl;have o:w.cell? (yh c)=A (J v.1):=(bq w c 0 _ _ _ g).t rfl;have n:w.cell? (X c 1)=A (J v.2):=(bq w c 1 _ _ _ g).t rfl;clear i g h;go_in;go_wp2_with (go_at_call 196;refine m.o.m ?_;rintro r C ⟨k,f,S',rfl,a⟩;have j:=I a;clear a);go_ret;exact ⟨k,f,S',rfl,j.o⟩
end
section
structure dP (w:zW) (S:Nat->Prop) (e:Nat) (D:Nat->Prop) (v:zV) (V:List (List Wr)) (N:Nat->Nat) (cs:Nat->Array zV):Prop where
 own:w.ownsRow 0 151 1 v (G V) ((List.range (G V)).map λj=>jt (N j) (cs j))
 bk:∀ j,j<G V->cO e D w S (N j) (cs j) (V.getD j [])
 ob:∀ q,v.ownBlock=A q->¬ S q/\q≠e/\¬ D q
variable {S S' S1 O:Nat->Prop} {e:Nat} {D Z:Nat->Prop} {σ σ0 σ1:bg} {v1 v2 v3 v4 v5 v v':zV} {te:TypeId} {w w' W w1 w2 w3:zW} {V:List (List Wr)} {N:Nat->Nat} {cs:Nat->Array zV}
def dP.nil (w:zW) (S:Nat->Prop) (e:Nat) (D:Nat->Prop):dP w S e D (zN) [] (λ_=>0) (λ_=>#[]):=
 ⟨eW _ _ _ _,λj C=>(by simp at C),λq E=>by simp [Value.ownBlock] at E⟩
def dP.keep {P:Nat->Prop} (h:dP w S e D v V N cs) (c:Ks P w w') (b:∀ q,S q->w'.heap[q]?=w.heap[q]?) (a:∀ q,v.ownBlock=A q->¬ P q):dP w' S e D v V N cs:=
 ⟨iy h.own c a,λj d=>(h.bk j d).next b,h.ob⟩
def dP.wide (h:dP w S e D v V N cs) (c:∀ q,S q->S' q) (d:∀ q,D q->Z q) (b:∀ q,v.ownBlock=A q->¬ S' q/\¬ Z q):dP w S' e Z v V N cs:=
 ⟨h.own,λj f=>(h.bk j f).wide c d,λq a=>⟨(b q a).1,(h.ob q a).2.1,(b q a).2⟩⟩
def dP.lt (h:dP w S e D v V N cs):∀ q,v.ownBlock=A q->q<w.heap.size:=λq a=>(h.own.lt q a).2
def dP.snoc (h:dP w1 S e D v V N cs) {us:List Wr} {N1:Nat} {cs1:Array zV} (l:cO e D w1 S N1 cs1 us) (i:∀ q,S q->q<w1.heap.size) (s:e<w1.heap.size) (m:∀ q,D q->q<w1.heap.size) {o:Obj} (r:(w1.alloc o).grownBy w2 v.ownBlock) (n:w2.ownsRow 0 151 1 v' (G V+1) (((List.range (G V)).map λj=>jt (N j) (cs j))++[jt N1 cs1])) (p:v.ownBlock=v'.ownBlock\/∃ g,v'.ownBlock=A g/\w1.heap.size<=g) :
  dP w2 S e D v' (V++[us]) (λj=>if j=(G V) then N1 else N j) (λj=>if j=(G V) then cs1 else cs j):=by
 have a:∀ q,S q->w2.heap[q]?=w1.heap[q]?:=λq b=>by
  rw [r.block q (by have:=i q b;simp;omega) (λd=>(h.ob q d.symm).1 b),cj _ _ _ (i q b)]
 refine ⟨?_,λj C=>?_,λq b=>?_⟩
 .have:((List.range (V++[us]).length).map λj=>jt (if j=(G V) then N1 else N j) (if j=(G V) then cs1 else cs j))=((List.range (G V)).map λj=>jt (N j) (cs j))++[jt N1 cs1]:=by
   rw [b6,sA,wB,fK];congr 1
   .refine sB λj C=>?_;have:j≠G V:=(by have:=List.mem_range.1 C;omega);simp [this]
   .simp
  rw [this,b6,sA];exact n
 .by_cases d:j=G V
  .subst d;simp only [jq];rw [lC,qx (aG _)];simp only [nK,List.getElem?_cons_zero,Option.getD_some];exact l.next a
  .have c:j<G V:=(by simp at C;omega);simp only [d,k8];rw [lC,sy c,<- lC];exact (h.bk j c).next a
 .rcases p with k|⟨g,k,t⟩
  .rw [<- k] at b;exact h.ob q b
  .rw [k] at b;cases b;refine ⟨λf=>?_,λf=>?_,λf=>?_⟩
   .have:=i _ f;omega
   .omega
   .have:=m _ f;omega
def dP.erase (h:dP w1 S e D v V N cs) {i:Nat} (c:i<G V) (b:∀ q,S q->w2.heap[q]?=w1.heap[q]?) (m:w2.ownsRow 0 151 1 v' (G V - 1) (((List.range (G V)).map λj=>jt (N j) (cs j)).eraseIdx i)) (f:v'.ownBlock=v.ownBlock) :
  dP w2 S e D v' (V.eraseIdx i) (λj=>if j<i then N j else N (j+1)) (λj=>if j<i then cs j else cs (j+1)):=by
 have d:(V.eraseIdx i).length=G V - 1:=by rw [List.length_eraseIdx,aB c]
 refine ⟨?_,λj g=>?_,λq l=>h.ob q (f▸l)⟩
 .have:((List.range (V.eraseIdx i).length).map λj=>jt (if j<i then N j else N (j+1)) (if j<i then cs j else cs (j+1)))=(((List.range (G V)).map λj=>jt (N j) (cs j)).eraseIdx i):=by
   apply rC
   .simp [List.length_eraseIdx,c]
   .intro k a n;rw [List.getElem_eraseIdx];simp only [kJ,List.getElem_range];split<;>simp_all
  rw [this,d];exact m
 .rw [d] at g;by_cases a:j<i
  .simp only [a,jq];rw [lC,List.getElem?_eraseIdx,aB a,<- lC];exact (h.bk j (by omega)).next b
  .simp only [a,k8];rw [lC,List.getElem?_eraseIdx,aA a,<- lC];exact (h.bk (j+1) (by omega)).next b
end
section
variable {S S' S1 O:Nat->Prop} {e:Nat} {D Z:Nat->Prop} {σ σ0 σ1:bg} {v0 v1 v2 v3 v4 v5 v v':zV} {te:TypeId} {w w' W w1 w2 w3:zW} {V:List (List Wr)} {N:Nat->Nat} {cs:Nat->Array zV}
def kD (M:Nat) (a:List (List Wr)) (us:List Wr):List (List Wr):=if M<G a+1 then (a++[us]).eraseIdx 0 else a++[us]
def Ij (S:Nat->Prop) (e:Nat) (D:Nat->Prop) (M:Nat) (v0 c v4 v5:zV) (te:TypeId) (V:List (List Wr)) (w:zW) (r:Ending) (w':zW):Prop:=
 ∃ (a:zV) (d:Nat->Nat) (b:Nat->Array zV),r=zP (zp #[])/\w'.heap[e]?=A (zM #[v0,J M,a,zN,v4,v5] te (0,0))/\dP w' S e D a V d b/\(c.ownBlock=a.ownBlock\/∃ g,a.ownBlock=A g/\w.heap.size<=g)/\Ks (λq=>q=e\/c.ownBlock=A q) w w'
def iS (M:Nat) (o:Option zD) (n m:Nat) (au:Option zD) (lu cu:Nat) (N1:Nat) (cs1:Array zV) (us:List Wr) (x:w.heap[e]?=A (zM #[v0,J M,B o n m,B au lu cu,v4,v5] te (0,0))) (U:dP w S e D (B o n m) V N cs) (Q6:cO e D w S N1 cs1 us) (hS:∀ q,S q->q<w.heap.size/\q≠e) (hD:∀ q,D q->q<w.heap.size) (hM:M<=6) (T:G V<=M) :
  zC prog 100 #[zK (A (X e 1)),.func (.func N1) #[] cs1] w (Ij S e D M v0 (B o n m) v4 v5 te (kD M V us) w):=by
 obtain ⟨⟨e0,e1,e2,e3,e4,e5⟩,⟨z0,z1,z2,z3,z4,z5⟩,od⟩:=bJ x;obtain ⟨i1,gi,qh,qi,pD⟩:=fe mV;have u:(B o n m).ownBlock≠A e:=λK=>(U.ob e K).2.1 rfl;have r:=I (w9 (j:=3) (u:=zN) U.own u);have p:=I x;have E:=I U;have f:=I hS;have he:=I hD;have H:=I Q6;have ak:G V<=6:=(by omega);clear U x hS hD Q6;go_in;go_wp2_with (at_builtin;refine rq _ rfl (.tmp 11) (.tmp 13) 104 rfl 0 151 i1 .nilFunc 1 8 underlying104 gi qh qi pD rfl (by decide) (B o n m) (G V) _ rfl (r.o.alloc _) (yh w.heap.size) 1 1 [.func (.func N1) #[] cs1] rfl rfl (λq HO c=>by have:=bC (w.setCell (X e 3) (zN)) [.func (.func N1) #[] cs1] 151 q HO c;simpa using this) (λHO hu=>by simp at hu;subst hu;rfl) (by omega) (by unfold maxLen;omega) (by omega) (by omega) (w.heap.size+1) (by simp) ?_;intro g a w2 Q4 b z ag;apply Hid.o);have y:g≠e:=by
  rcases z with h|h
  .intro e';rw [e'] at h;exact u h
  .omega
 have ac:e≠g:=λh=>y h.symm;have l:w2.heap[e]?=A (zM #[v0,J M,B o n m,zN,v4,v5] te (0,0)):=by
  rw [b.block e (by simp;omega) (λh=>u h.symm),cj _ _ _ (by simpa using od),aj p.o];rfl
 obtain ⟨⟨k0,k1,k2,C,k4,k5⟩,⟨y0,y1,y2,y3,y4,y5⟩,Z⟩:=bJ l;have tA:=b.size;simp at tA;have kA:Ks (λq=>q=e\/(B o n m).ownBlock=A q) w (((w.setCell (X e 3) (zN)).alloc (zM #[.func (.func N1) #[] cs1] 151))):=((Ks.refl _ w).set e 3 _ (zR rfl)).alloc _;have kB:Ks (λq=>q=e\/(B o n m).ownBlock=A q) ((w.setCell (X e 3) (zN)).alloc (zM #[.func (.func N1) #[] cs1] 151)) w2:=⟨b.os,b.tape,b.output,b.size,λk Y T=>b.block k Y (λh=>T (zZ h.symm))⟩;have L:=kA.t kB;have O:∀ q,S q->w2.heap[q]?=w.heap[q]?:=λq c=>L.block q (f.o q c).1 (by
  rintro (K|K)
  .exact (f.o q c).2 K
  .exact (E.o.ob q K).1 c)
 have Q5:dP w2 S e D (zS g (G V+1) a) (V++[us]) (λj=>if j=(G V) then N1 else N j) (λj=>if j=(G V) then cs1 else cs j):=by
  have af:dP (w.setCell (X e 3) (zN)) S e D (B o n m) V N cs:=E.o.keep (P:=λq=>q=e) ((Ks.refl (λq=>q=e) w).set e 3 _ rfl) (λq c=>cY _ _ _ _ (f.o q c).2) λq c=>(E.o.ob q c).2.1;refine af.snoc (H.o.next λq c=>cY _ _ _ _ (f.o q c).2) (λq c=>by simpa using (f.o q c).1) (by simpa using od) (λq c=>by simpa using he.o q c) b Q4 ?_;rcases z with h|h
  .exact zR h
  .exact zZ ⟨g,rfl,by simp;omega⟩
 have h1:(B o n m).ownBlock=A g\/w.heap.size<=g:=z.imp id λh=>(by omega);have s:=I Q5;have hd:=I L;have hk:=I l;have F:=I h1;clear Q4 b z l Q5 L kA kB O h1;apply I;by_cases HE:M<G V+1
 .have ad:(M:Int)<(G V:Int)+1:=(by omega);have QT:=I (zf 0 g a 0 (G V) _ (w2.setCell (X e 2) (zS g (G V+1) a)).drew (by
   have:=w9 (j:=2) (u:=zS g (G V+1) a) (q:=e) s.o.own (by simp [Value.ownBlock];exact y);rw [b6,sA] at this;exact aZ this (aM _ _).drew) (bE _) (by omega) (λv hv=>by
   obtain ⟨j,_,rfl⟩:=bU.1 hv;rfl))
  have HD:=I (show ∀ w3,Ks (λq=>q=g) (w2.setCell (X e 2) (zS g (G V+1) a)).drew w3->w3.ownsRow 0 151 1 (zS g (G V) a) (G V) (((List.range (G V+1)).map λj=>jt (if j=(G V) then N1 else N j) (if j=(G V) then cs1 else cs j)).eraseIdx 0)->w3.heap[e]?=A (zM #[v0,J M,zS g (G V+1) a,zN,v4,v5] te (0,0))/\Ij S e D M v0 (B o n m) v4 v5 te (kD M V us) w (zP (zp #[])) (w3.setCell (X e 2) (zS g (G V) a)) from λw3 d R=>by
   have t:w3.heap[e]?=A (zM #[v0,J M,zS g (G V+1) a,zN,v4,v5] te (0,0)):=by
    rw [d.block e (by simpa using Z) (λh=>ac h)];show (w2.setCell (X e 2) (zS g (G V+1) a)).heap[e]?=_;rw [aj hk.o];rfl
   have aa:∀ q,S q->(w3.setCell (X e 2) (zS g (G V) a)).heap[q]?=w2.heap[q]?:=λq c=>by
    have W:=(f.o q c).2;rw [cY _ _ _ _ W,d.block q (by have:=(f.o q c).1;simp;omega) (λh=>(s.o.ob g rfl).1 (h▸c))];show (w2.setCell (X e 2) (zS g (G V+1) a)).heap[q]?=_;exact cY _ _ _ _ W
   have Q0:(V++[us]).length=G V+1:=(by simp);have QV:=s.o.erase (w2:=w3.setCell (X e 2) (zS g (G V) a)) (v':=zS g (G V) a) (i:=0) (by rw [Q0];omega) aa (by
    rw [Q0,Nat.add_sub_cancel];exact w9 R (by simp [Value.ownBlock];exact y)) rfl
   refine ⟨t,zS g (G V) a,_,_,rfl,(aj t _ _).t rfl,by unfold kD;rw [aB HE];exact QV,?_,?_⟩
   .rcases F.o with h|h
    .exact zR h
    .exact zZ ⟨g,rfl,h⟩
   .have C:Ks (λq=>q=e\/(B o n m).ownBlock=A q) w (w2.setCell (X e 2) (zS g (G V+1) a)).drew:=(hd.o.set e 2 _ (zR rfl)).t (Ks.of (aM _ _).drew);have k5:Ks (λq=>q=e\/(B o n m).ownBlock=A q) w w3:=by
     refine ⟨d.os.t C.os,d.tape.t C.tape,d.output.t C.output,bf C.size d.size,λk Y T=>?_⟩;rw [d.block k (bG Y C.size) (λh=>?_)]
     .exact C.block k Y T
     .rcases F.o with h'|h'
      .exact T (zZ (by rw [h',h]))
      .omega
    exact k5.set e 2 _ (zR rfl))
  clear r p E H;go_wp2_with fail
  go_region
  all_goals go_wp2_with (go_at_call 136;refine mo QT.o ?_;rintro al w3 ⟨rfl,d,R⟩)
  all_goals obtain ⟨t,uh⟩:=HD.o w3 d (by simpa using R)
  all_goals obtain ⟨⟨p0,p1,p2,p3,p4,p5⟩,⟨x0,x1,x2,x3,x4,x5⟩,EM⟩:=bJ t
  all_goals have HP:=I uh
  all_goals clear d R t uh
  all_goals apply I
  all_goals go_wp2
  all_goals refine aK (v:=zp #[]) (by simp [results,results100,go_sem]) rfl ?_
  all_goals exact HP.o
 .have ad:¬ (M:Int)<(G V:Int)+1:=(by omega);have HD:=I (show Ij S e D M v0 (B o n m) v4 v5 te (kD M V us) w (zP (zp #[])) (w2.setCell (X e 2) (zS g (G V+1) a)).drew by
   have QV:=s.o.keep (P:=λq=>q=e) (w':=(w2.setCell (X e 2) (zS g (G V+1) a)).drew) (((Ks.refl (λq=>q=e) w2).set e 2 _ rfl).t (Ks.of (aM _ _).drew)) (λq c=>cY _ _ _ _ (f.o q c).2) λq c=>(s.o.ob q c).2.1;refine ⟨zS g (G V+1) a,_,_,rfl,(aj hk.o _ _).t rfl,by unfold kD;rw [aA HE];exact QV,?_,(hd.o.set e 2 _ (zR rfl)).t (Ks.of (aM _ _).drew)⟩
   .rcases F.o with h|h
    .exact zR h
    .exact zZ ⟨g,rfl,h⟩)
  clear r p E H;go_wp2_with fail
  go_region
  all_goals go_wp2
  all_goals refine aK (v:=zp #[]) (by simp [results,results100,go_sem]) rfl ?_
  all_goals exact HD.o
end
section
structure fx (w:zW) (e:Nat) (S D:Nat->Prop) (σ:bg) (M:Nat) (U R Z:zV) (dn ud gr:List (List Wr)) (op:Bool):Prop where
 ph:cK w S e D σ (J M) U R (zF op) Z 108
 rd:∃ N cs,dP w S e D U dn N cs
 ru:∃ N cs,dP w S e D R ud N cs
 rg:∃ N cs,dP w S e D Z gr N cs
 du:∀ q,U.ownBlock=A q->R.ownBlock≠A q
 dg:∀ q,U.ownBlock=A q->Z.ownBlock≠A q
 ug:∀ q,R.ownBlock=A q->Z.ownBlock≠A q
 hM:M<=6
 len:G dn+G ud<=M
variable {S S' S1 O:Nat->Prop} {e:Nat} {D Q6:Nat->Prop} {σ σ0 σ1:bg} {v0 v1 v2 v3 v4 v5 v v':zV} {te:TypeId} {w w' W w1 w2 w3:zW} {V:List (List Wr)} {N:Nat->Nat} {cs:Nat->Array zV} {M:Nat} {U R Z:zV} {dn ud gr:List (List Wr)} {op:Bool}
def jd (e:Nat) (D:Nat->Prop) (U R Z:zV) (q:Nat):Prop:=q=e\/D q\/U.ownBlock=A q\/R.ownBlock=A q\/Z.ownBlock=A q
def fx.agW (h:fx w e S D σ M U R Z dn ud gr op):∀ q,S q->¬ jd e D U R Z q:=by
 rintro q b (a|a|a|a|a)
 .exact h.ph.eS (a▸b)
 .exact (h.ph.bX q a).1 b
 .obtain ⟨N,cs,c⟩:=h.rd;exact (c.ob q a).1 b
 .obtain ⟨N,cs,c⟩:=h.ru;exact (c.ob q a).1 b
 .obtain ⟨N,cs,c⟩:=h.rg;exact (c.ob q a).1 b
def fx.ltW (h:fx w e S D σ M U R Z dn ud gr op):∀ q,jd e D U R Z q->q<w.heap.size:=by
 rintro q (a|a|a|a|a)
 .rw [a];exact h.ph.lt
 .exact (h.ph.bX q a).lt
 .obtain ⟨N,cs,b⟩:=h.rd;exact b.lt q a
 .obtain ⟨N,cs,b⟩:=h.ru;exact b.lt q a
 .obtain ⟨N,cs,b⟩:=h.rg;exact b.lt q a
def fx.keep {P:Nat->Prop} (h:fx w e S D σ M U R Z dn ud gr op) (b:Ks P w w') (f:∀ q,S q->¬ P q) (c:∀ q,jd e D U R Z q->¬ P q):fx w' e S D σ M U R Z dn ud gr op:=by
 have C:∀ q,S q->w'.heap[q]?=w.heap[q]?:=λq a=>b.block q (h.ph.still q a) (f q a);refine ⟨h.ph.same ?_ b.size,?_,?_,?_,h.du,h.dg,h.ug,h.hM,h.len⟩
 .rintro q (a|a|a)
  .exact C q a
  .exact b.block q (h.ltW q (zR a)) (c q (zR a))
  .exact b.block q (h.ltW q (zZ (zR a))) (c q (zZ (zR a)))
 .obtain ⟨N,cs,d⟩:=h.rd;exact ⟨N,cs,d.keep b C λq a=>c q (zZ (zZ (zR a)))⟩
 .obtain ⟨N,cs,d⟩:=h.ru;exact ⟨N,cs,d.keep b C λq a=>c q (zZ (zZ (zZ (zR a))))⟩
 .obtain ⟨N,cs,d⟩:=h.rg;exact ⟨N,cs,d.keep b C λq a=>c q (zZ (zZ (zZ (zZ a))))⟩
def fx.next (h:fx w e S D σ M U R Z dn ud gr op) (a:zB w w'):fx w' e S D σ M U R Z dn ud gr op:=
 h.keep (P:=λ_=>False) (Ks.of a) (λ_ _ h=>h) λ_ _ h=>h
def dP.tF (h:dP w S e D v V N cs) (b:∀ q,S q->q≠e) (j:Nat) (u:zV):dP (w.setCell (X e j) u) S e D v V N cs:=
 h.keep (P:=λq=>q=e) ((Ks.refl (λq=>q=e) w).set e j u rfl) (λq a=>cY _ _ _ _ (b q a)) λq a=>(h.ob q a).2.1
def cK.beside (h:cK w S e D σ v1 v2 v3 v4 v5 te) {u1 u2 u3 u4 u5:zV} (f:Ks (λq=>q=e) w w') (g:∀ a c,w.heap[e]?=A (zM #[B a σ.ord.length c,v1,v2,v3,v4,v5] te (0,0))->w'.heap[e]?=A (zM #[B a σ.ord.length c,u1,u2,u3,u4,u5] te (0,0))):cK w' S e D σ u1 u2 u3 u4 u5 te:=by
 obtain ⟨a,c,l,j,k,i⟩:=h.row;have C:∀ q,S q->w'.heap[q]?=w.heap[q]?:=λq b=>f.block q (h.still q b) (λd=>h.eS (d▸b));exact ⟨λq b=>bG (h.still q b) f.size,h.eS,h.eD,λq b=>(h.bX q b).stays (f.block q (h.bX q b).lt λd=>h.eD (d▸b)) C,h.sub,a,c,l.next C,j,k,g a c i⟩
def xb (e:Nat) (w:zW) (op:Bool) (r:Ending) (w':zW):Prop:=if op=true then r=zP (J 9)/\w'=w else r=zP (J 0)/\w'=w.setCell (X e 4) (zF true)
def GP (a:w.heap[e]?=A (zM #[v0,v1,v2,v3,zF op,v5] te (0,0))):zC prog 66 #[zK (A (X e 1))] w (xb e w op):=by
 obtain ⟨⟨d,e1,c,j,k,f⟩,⟨z0,m,i,g,h,l⟩,b⟩:=bJ a;clear a;unfold xb;cases op with
 | true=>
  go_in;go_wp2;go_ret;simp
 | false=>
  go_in;go_wp2;go_ret;simp
def fx.begin (h:fx w e S D σ M U R Z dn ud gr false):fx (w.setCell (X e 4) (zF true)) e S D σ M U R Z dn ud gr true:=by
 have E:∀ q,S q->q≠e:=λq f d=>h.ph.eS (d▸f);refine ⟨h.ph.beside ((Ks.refl (λq=>q=e) w).set e 4 _ rfl) λa c b=>(aj b 4 _).t rfl,?_,?_,?_,h.du,h.dg,h.ug,h.hM,h.len⟩
 .obtain ⟨N,cs,C⟩:=h.rd;exact ⟨N,cs,C.tF E 4 _⟩
 .obtain ⟨N,cs,C⟩:=h.ru;exact ⟨N,cs,C.tF E 4 _⟩
 .obtain ⟨N,cs,C⟩:=h.rg;exact ⟨N,cs,C.tF E 4 _⟩
def qU (e:Nat) (Z:zV) (w:zW) (op:Bool) (r:Ending) (w':zW):Prop:=if op=true then r=zP (zp #[Z,J 0])/\w'=(w.setCell (X e 4) (zF false)).setCell (X e 5) (zN) else r=zP (zp #[zN,J 10])/\w'=w
def RV (ag:Option zD) (a b:Nat) (c:w.heap[e]?=A (zM #[v0,v1,v2,v3,zF op,B ag a b] te (0,0))):zC prog 71 #[zK (A (X e 1))] w (qU e (B ag a b) w op):=by
 obtain ⟨⟨g,e1,f,l,m,h⟩,⟨z0,o,k,i,j,n⟩,d⟩:=bJ c;clear c;unfold qU;cases op with
 | false=>
  go_in;go_wp2;refine aK (v:=zp #[zN,J 10]) (by simp [results,results71,go_sem]) (by simp [go_sem]) ?_;simp
 | true=>
  go_in;go_wp2;refine aK (v:=zp #[B ag a b,J 0]) (by simp [results,results71,go_sem]) (by simp [go_sem]) ?_;simp
def fx.ended (h:fx w e S D σ M U R Z dn ud gr true):fx ((w.setCell (X e 4) (zF false)).setCell (X e 5) (zN)) e S D σ M U R (zN) dn ud [] false/\∃ N cs,dP ((w.setCell (X e 4) (zF false)).setCell (X e 5) (zN)) S e D Z gr N cs:=by
 have C:∀ q,S q->q≠e:=λq d b=>h.ph.eS (b▸d);refine ⟨⟨h.ph.beside (((Ks.refl (λq=>q=e) w).set e 4 _ rfl).set e 5 _ rfl) λa c E=>(aj (aj E 4 _) 5 _).t rfl,?_,?_,⟨_,_,dP.nil _ _ _ _⟩,h.du,λq _ E=>by simp [Value.ownBlock] at E,λq _ E=>by simp [Value.ownBlock] at E,h.hM,h.len⟩,?_⟩
 .obtain ⟨N,cs,F⟩:=h.rd;exact ⟨N,cs,(F.tF C 4 _).tF C 5 _⟩
 .obtain ⟨N,cs,F⟩:=h.ru;exact ⟨N,cs,(F.tF C 4 _).tF C 5 _⟩
 .obtain ⟨N,cs,F⟩:=h.rg;exact ⟨N,cs,(F.tF C 4 _).tF C 5 _⟩
end
section
open Go.RowKit Go.Shelf
attribute [local go_sem] Oper.semAt_some
def iZ (w:zW) (n:Nat) (b:Nat->zV) (a:List { i:Nat // i<n }) (W:zW):Prop:=
 ∃ v,Boxed W w.heap.size 101 v/\W.ownsRow w.heap.size 220 1 v (G a) (a.map λx=>b x.1)/\zB w W
def U0 {w:zW} {n Q4:Nat} {h:Nat->zV} (k:w.heap.size<=Q4):OwnFrom Q4 (iZ w n h):=by
 rintro f W j M ⟨v,b,c,C⟩ a K;refine ⟨v,b.kept a λE=>?_,?_,⟨a.os.t C.os,a.tape.t C.tape,a.output.t C.output,bf C.size a.size,λq D=>?_⟩⟩
 .obtain ⟨_,o,F,H⟩:=K _ E.symm;rw [show W.heap[w.heap.size]?=_ from b] at F;cases F;simp [Obj.isCells] at H
 .refine iy c (P:=λq=>A q=M) ⟨a.os,a.tape,a.output,a.size,λq D e=>a.block q D e⟩ λq D E=>?_;rcases c.2 with ⟨C,_⟩|⟨g,i,d,C,_,F,_⟩
  .rw [C] at D;simp [Value.ownBlock] at D
  .rw [C] at D;simp [Value.ownBlock] at D;subst D;obtain ⟨_,o,H,L⟩:=K g E.symm;rw [F] at H;cases H;simp [Obj.isCells] at L
 .rw [a.block q (bG D C.size) λE=>by have:=(K q E.symm).1;omega];exact C.block q D
def GQ (n:Nat) (f:Nat->zV):(IE n n (aG _)).map (λx=>f x.1)=(List.range n).map f:=by
 have:∀ k h,(IE n k h).map (λx=>f x.1)=(List.range k).map f:=by
  intro k
  induction k with
  | zero=>intro _;rfl
  | succ k a=>intro h;rw [IE,fK,a,wB,fK];rfl
 exact this n _
def bA (L n c:Nat) (a:Option zD) (H:Nat->Nat) (w:zW) (hn:n<=1000) (h1:L<w.heap.size) (h4:w.cell? (yh L)=A (B a n c)) (ha:n=0\/∃ h o,a=A (X h o)/\h<w.heap.size) (hc:∀ j,j<n->∀ h o,a=A (X h o)->w.cell? (X h (o+j))=A (zK (A (yh (H j))))) :
  zC prog 201 #[zN,.func (.func 171) #[] #[zJ L]] w λac w'=>∃ C U S,ac=zP (B C U S)/\w'.ownsRow w.heap.size 220 1 (B C U S) n ((List.range n).map λj=>zK (A (yh (H j))))/\zB w w':=by
 have JA:n<=maxLen:=(by unfold maxLen;omega);have HC:=I hc;have HA:=I ha;clear hc ha;refine (wE (n:=3)).1 ?_;refine callsIn_of_wp_marks func201 rfl trivial ?_ rfl;simp only [ntmps201,wq,gS,nZ,Nat.reduceAdd,Nat.reduceSub,wb,wh,wu,wm,ko,gT]
 gi_wp2
 have u:zB w (w.alloc (zM #[zN] 101)):=(aM _ _).alloc (aG _) _;have bO:=Boxed.new w 101 (zN);refine wpIn_rangeFunc_ownG rfl (by omega) (gf:=171) (lb:=#[zJ L]) rfl trivial (oK func171 (by kernel_rfl) rfl)
  (Ep _ (by omega) L n c a (λi=>zK (A (yh (H i)))) (λq=>q<w.heap.size) JA h1 _ (λq K=>by simp;omega) ((u.cell (p:=yh L) h1).t h4) HA.o (λi hi h o D=>by
   rcases HA.o with h0|⟨h',o',M,l⟩
   .omega
   .rw [D] at M;cases M;exact (u.cell (p:=X h (o+i)) l).t (HC.o i hi h o D)))
  (λM l=>⟨bf M.1 l.1,λq K=>(l.2 q K).t (M.2 q K)⟩)
  (λW cn o o' hl Y _ _=>⟨(by simp),λq K=>World.putObj_heap_other (λD=>by simp at hl;omega)⟩)
  (aM _ _) (λ_=>rfl) (iZ w n (λi=>zK (A (yh (H i))))) (λ_ _ _=>False)
  (U0 (by simp)) (λ_ _ _ _ _ hs _ _=>hs)
  ⟨zN,bO,eW _ _ _ _,u⟩
  (λx=>{ tmps:=#[zN,.func (.func 171) #[] #[zJ L],zJ w.heap.size,undef,zN,zK (A (yh (H x.1))),.func (.func 171) #[] #[zJ L],zK (A (yh (H x.1))),undef,undef,undef,undef,undef],defers:=[] }) ?assign ?body ?done ?stop
 case assign=>
  intro cn x W QT Z
  gi_wp2
  exact Z
 case body=>
  rintro cn F x W ⟨ad,b,d,e⟩ Q4;obtain ⟨i1,gi,qh,qi,pD⟩:=fe oX;obtain ⟨C,U,S,rfl⟩:=b7 d;have al:=b.cell;have ar:=e.size;have an:G F<n:=Q4;have aa:(B C U S).ownBlock≠A w.heap.size:=λM=>b.not_row (by decide) d M.symm;have ao:w.heap.size<W.heap.size:=b.lt;have h3:=I b;have O:=I d;have E:=I e;clear b d e Q4
  gi_wp2_with (first|(gi_at_builtin;refine wpListIn_append_own _ rfl _ _ 101 rfl w.heap.size 220 i1 (zK none) 1 8 underlying101 gi qh qi pD rfl (by decide) _ _ _ rfl (O.o.alloc _) (yh W.heap.size) 1 1 [zK (A (yh (H x.1)))] rfl rfl (λq ln K=>bC W [zK (A (yh (H x.1)))] 220 q ln K) (λln hu=>by simp at hu;subst hu;rfl) (by omega) (by omega) (by simp;omega) ?_;intro v' r f m ho;have k:Boxed r w.heap.size 101 (B C U S):=(m.block _ (by simp;omega) (λM=>aa M.symm)).t ((cj W _ _ (by omega)).t h3.o);have Rw:=k.cell;have Rx:=k.frozen;obtain ⟨z,g,y,rfl⟩:=b7 f;have H1:=I f;have H2:=I m;have H3:=I k;clear f m ho k;go_frame)|gi_in)
  have s:=H2.o;have m:=s.size;simp at m;have Q6:∀ q,q≠w.heap.size->(r.setCell (yh w.heap.size) (B z g y)).heap[q]?=r.heap[q]?:=λq K=>cY _ _ _ _ K;have hq:∀ q,q<W.heap.size->q≠w.heap.size->(B C U S).ownBlock≠A q->(r.setCell (yh w.heap.size) (B z g y)).heap[q]?=W.heap[q]?:=λq K M V=>by
   rw [Q6 q M,s.block q (by simp;omega) (λh=>V h.symm),cj _ _ _ (by omega)]
  have QV:∀ q,q<w.heap.size->(B C U S).ownBlock≠A q:=λq K M=>by
   have:=(O.o.lt q M).1;omega
  have h2:(B z g y).ownBlock≠A w.heap.size:=λM=>H3.o.not_row (by decide) H1.o M.symm;have Q0:=H3.o.set (B z g y);have w3:(F++[x]).length=G F+1:=(by simp);refine ⟨⟨by simp;omega,λq o hB K Y=>?_⟩,⟨by simp;omega,λq K=>hq q (by omega) (by omega) (QV q K)⟩,B z g y,Q0,?_,⟨?_,?_,?_,by simp;omega,λq K=>(hq q (by omega) (by omega) (QV q K)).t (E.o.block q K)⟩⟩
  .refine (hq q (cz.1 K).1 (by omega) λM=>?_).t K;rcases O.o.2 with ⟨V,_⟩|⟨gg,HK,Q5,V,_,v,_⟩
   .rw [V] at M;simp [Value.ownBlock] at M
   .rw [V] at M;simp [Value.ownBlock] at M;subst M;rw [v] at K;cases K;simp [Obj.isCells] at Y
  .rw [w3,fK];exact iy H1.o (P:=λq=>q=w.heap.size) ((Ks.refl _ _).set w.heap.size 0 _ rfl) λq K D=>h2 (by rw [K,D])
  .exact s.os.t E.o.os
  .exact s.tape.t E.o.tape
  .exact s.output.t E.o.output
 case done=>
  rintro T ys W hD rfl ⟨ad,b,d,e⟩ Z;have am:=b.cell;obtain ⟨C,U,S,rfl⟩:=b7 d;have HB:=I b;have HO:=I d;have R:=I e;have t:=I Z;clear b d e Z
  gi_wp2
  refine ⟨(by simp),.inl ⟨_,_,rfl,run_takeDeferred t.o,?_⟩⟩;have N:=grownBy_putObj' W T (.deferred none);have ag:T<W.heap.size:=(cz.1 t.o).1;have ak:w.heap.size<T:=by simp at hD;omega
  refine ⟨B C U S,by simp [results,f201,go_sem],C,U,S,rfl,?_,⟨N.os.t R.o.os,N.tape.t R.o.tape,N.output.t R.o.output,bf R.o.size N.size,λq K=>(N.block q (bG K R.o.size) λD=>by cases D;omega).t (R.o.block q K)⟩⟩;have Y:=HO.o;rw [uw,GQ n (λi=>zK (A (yh (H i))))] at Y;refine iy Y (P:=λq=>A q=A T) ⟨N.os,N.tape,N.output,N.size,λq K hn=>N.block q K hn⟩ λq K D=>?_;cases D;rcases Y.2 with ⟨V,_⟩|⟨af,HK,Q5,V,_,v,_⟩
  .rw [V] at K;simp [Value.ownBlock] at K
  .rw [V] at K;simp [Value.ownBlock] at K;subst K;have:=t.o;rw [v] at this;cases this
 case stop=>
  rintro T c F W _ _ h _;exact h.elim
def ca (f n c:Nat) (a:Option zD) (i:Nat->Nat) (w:zW) (m:n<=1000) (d:f<w.heap.size) (b:w.cell? (yh f)=A (B a n c)) (q:n=0\/∃ h o,a=A (X h o)/\h<w.heap.size) (p:∀ j,j<n->∀ h o,a=A (X h o)->w.cell? (X h (o+j))=A (zK (A (yh (i j))))) :
  zC prog 169 #[.func (.func 171) #[] #[zJ f]] w λr E=>∃ g D C,r=zP (B g D C)/\E.ownsRow w.heap.size 220 1 (B g D C) n ((List.range n).map λj=>zK (A (yh (i j))))/\zB w E:=by
 have H:=I (bA f n c a i w m d b q p);clear m d b q p;go_in;go_wp2_with (go_at_call 201;refine H.o.m ?_;rintro e E ⟨g,D,C,rfl,k,l⟩;have t:=I k;have s:=I l;clear k l);go_ret;exact ⟨g,D,C,rfl,t.o,s.o⟩
end
section
open Go.RowKit Go.Shelf Go.Sort
def Sg (w:zW) (a:Option zD) (gs:List (Nat × Fd)):Prop:=∀ j (b:j<G gs),∃ g,a=A (yh g)/\w.cell? (X g j)=A (zK (A (yh (gs[j].1))))
def U3 {S:Nat->Prop} (t c:Nat) (a:Option zD) (fs:List (Nat × Fd)) (w:zW) (hs:Sh w S a fs) (p:t<w.heap.size) (n:w.cell? (yh t)=A (B a (G fs) c)) (q:G fs<=12) :
  zC prog 138 #[.func (.func 171) #[] #[zJ t],.func (.func 140) #[] #[]] w λr P=>∃ u y,r=zP (B u (G fs) y)/\Hid (Sg P u (kS fs))/\Hid (zB w P):=by
 have b:=ca t (G fs) c a (λj=>(fs.getD j (0,⟨[],.atom 0 [] 0,(0,0)⟩)).1) w (by omega) p n (by
  by_cases H:G fs=0
  .exact zR H
  .obtain ⟨g,o,d,l,_⟩:=hs.ptr 0 (by omega);exact zZ ⟨g,o,d,hs.still g l⟩) (λj x h o D=>by
  obtain ⟨g,M,d,l,V⟩:=hs.ptr j x;rw [D] at d;cases d;rw [V];simp [lC,x])
 have k:(List.range (G fs)).map (λj=>zK (A ⟨(fs.getD j (0,⟨[],.atom 0 [] 0,(0,0)⟩)).1,0,none⟩))=fs.map λf=>zK (A (yh f.1)):=by
  apply rC
  .simp
  .intro i d l;simp at d;simp [lC,d]
 rw [k] at b;have s:=I (b.m (R':=λr R=>∃ m O K,r=zP (B m O K)/\Hid (zB w R)/\Hid (zC prog 170 #[B m O K,.func (.func 140) #[] #[]] R λe P=>e=zP (zp #[])/\O=G fs/\Hid (Sg P m (kS fs))/\Hid (zB w P))) (by
  rintro r R ⟨m,O,K,rfl,d,l⟩;refine ⟨m,O,K,rfl,l,?_⟩;refine (GC (S:=S) fs R w.heap.size (B m O K) (λf z=>⟨(hs.next l).bX f z,(hs.bX f z).lt⟩) d l.size q).m ?_;rintro e P ⟨rfl,T,u,y,U,N,E⟩;cases U;exact ⟨rfl,rfl,E,l.t T⟩))
 clear b k hs p n q;go_in;go_wp2_with (go_at_call 169;refine mo s.o ?_;rintro e R ⟨m,O,K,rfl,L,W⟩);apply I;go_wp2_with (go_at_call 170;refine W.o.m ?_;rintro e Y ⟨rfl,v,C,F⟩;subst v);go_ret;exact ⟨m,K,rfl,C,F⟩
def GR (n j gk:Nat) (h:j<n) (a:n<=j+gk):n<=j+1+(n - (j+1))/\n - (j+1)<gk:=by omega
def GV {S:Nat->Prop} (e c:Nat) (a:Option zD) (fs:List (Nat × Fd)) (w:zW) (hs:Sh w S a fs) (hE:Env w) (hc:w.cell? (yh e)=A (B a (G fs) c)) (he:e<w.heap.size) (hl:G fs<=12) (z:∀ f,f∈fs->G f.2.nm<=100) :
  zC prog 104 #[zJ e] w λr w'=>r=zP (Q (sK fs))/\zB w w':=by
 have y:=I (λW=>Gy a (G fs) c W);have u:=I hs;have Q4:=I z;have L:=I (λ(W:zW) (K:Below (w.alloc (zM #[B a (G fs) c] 101)).heap.size (w.alloc (zM #[B a (G fs) c] 101)) W)=>U3 (S:=S) w.heap.size c a fs W ((hs.next (bZ _)).next K) (by have:=K.size;simp at this;omega) ((K.cell (p:=yh w.heap.size) (by simp)).t (bq _ _ 0 _ _ _ (bL w (zM #[B a (G fs) c] 101)))) hl);clear hs z;go_in;go_wp2_with (first|(go_at_call 139;refine (y.o _).m ?_;rintro r w1 ⟨rfl,rfl⟩)|(go_at_call 138;refine (L.o _ (aM _ _)).m ?_;rintro r D ⟨a',c',rfl,P1,T⟩));have h1:=I (GD D);have al:w.heap.size+1<=D.heap.size:=by have:=T.o.size;simpa using this
 have F:=I (show zB w D from (bZ _).t (T.o.m (by simp)));have k:=I (And.intro (nE fs).1.length_eq λf (o:f∈kS fs)=>(nE fs).1.mem_iff.1 o);have B1:=I (Eq.refl (sK fs));generalize E:kS fs=H at P1 k;have ad:Hid (sK fs=H.flatMap λf=>mN f.2):=by rw [<- E];exact I rfl
 clear B1 E L y T;generalize hn:G fs=n at *;clear hn;go_loopg [15] n (λgk ac wr=>∃ j:Nat,j<=n/\n<=j+gk/\ac=J j/\Hid (Bu D.heap.size ((H.take j).flatMap λf=>mN f.2) wr/\qs D.heap.size (D.alloc (zM #[zK none,zN] 170)) wr))
 case atStart=>exact ⟨0,bE _,by omega,rfl,I ⟨h1.o,qs.refl _ _⟩⟩
 case round=>
  obtain ⟨j,hj,C3,rfl,x⟩:=hrel;by_cases m:j<n
  .have t:j<G H:=by rw [k.o.1];exact m
   obtain ⟨g,HV,b⟩:=P1.o j t;subst HV;have o:H[j]∈fs:=k.o.2 _ (bt t);obtain ⟨_,yP,QT,l,a1,l1,c1,hb,hP⟩:=u.o.bX _ o;have af:=Q4.o _ o;have gs:=(u.o.bX _ o).lt;have OP:((H.take j).flatMap λf=>mN f.2).length<=2448:=by
    have M:=U4 (H.take j) λf o=>⟨Q4.o f (k.o.2 f (lS o)),by obtain ⟨_,_,_,M,_⟩:=u.o.bX f (k.o.2 f (lS o));exact M⟩;have h2:(H.take j).length<=12:=(by simp;omega);omega
   have s:zB D wr:=(bZ _).t x.o.2.bS;have h:zB w wr:=F.o.t (s.m (by omega));have tx:g<D.heap.size:=by
    obtain ⟨_,_,_,M,_⟩:=cells_of_cell? b;exact (cz.1 M).1
   have ag:wr.cell? (X g j)=A (zK (A (yh (H[j].1)))):=(s.cell (p:=X g j) tx).t b;have hW:=I (show (H.take (j+1)).flatMap (λf=>mN f.2)=(H.take j).flatMap (λf=>mN f.2)++mN H[j].2 by
    rw [vJ t,yo];simp)
   generalize Q5:H[j]=f at *;have i:=I ((h.block f.1 gs).t hb);obtain ⟨⟨k0,k1,k2,k3,k4,k5,k6⟩,OJ,aa⟩:=fP i.o;have w4:=I (λ(W:zW) (K:zB wr W)=>uy f.2.p a1 l1 c1 W ((hP.next λq O=>h.block q (u.o.still q O)).next λq O=>K.block q (bG (u.o.still q O) h.size)) (λq O=>bG (u.o.still q O) (bf h.size K.size)) ((hE.next h).next K) QT (by omega));have V:=I (λ(W:zW) (K:zB wr W)=>ix D.heap.size ((H.take j).flatMap λf=>mN f.2) (mN f.2) W (x.o.1.next K) (by have:=Fz f.2;omega));simp only [Q] at V;rw [Lg] at V;have N4:(j:Int)<(n:Int):=(by omega);have HR:wrap64 ((j:Int)+1)=((j+1:Nat):Int):=Lf n j (by unfold maxLen;omega) m;have QV:=I (show ∀ R N,zB wr R->Bu D.heap.size ((H.take j).flatMap (λf=>mN f.2)++mN f.2) N->qs D.heap.size R N->(Bu D.heap.size ((H.take (j+1)).flatMap λf=>mN f.2) N/\qs D.heap.size (D.alloc (zM #[zK none,zN] 170)) N) from λR N h3 h4 h5=>by
    rw [hW.o];exact ⟨h4,(x.o.2.next h3 (lF x.o.1.2)).t h5⟩)
   have b1:¬ 9223372036854775807<List.length f.2.nm+3:=(by omega);have b2:¬ 9223372036854775807<List.length f.2.nm+3+List.length (ai f.2.p):=(by omega);have b3:¬ 9223372036854775807<List.length f.2.nm+3+List.length (ai f.2.p)+1:=(by omega);clear hb hP yP QT l b s h Q5;have Y:=I (GR n j _ m C3)
   go_upto_block 1 with fail
   go_cut [15] (λHM wc=>HM=J j/\Hid (Bu D.heap.size ((H.take (j+1)).flatMap λf=>mN f.2) wc/\qs D.heap.size (D.alloc (zM #[zK none,zN] 170)) wc))
   case first=>
    go_wp2_with fail
    go_region_with (first|(go_at_call 44;refine (w4.o _ (aM _ _).drew).m ?_;rintro r R ⟨rfl,w2⟩;have U:=I ((aM wr.heap.size wr).drew.t w2);obtain ⟨⟨m0,m1,m2,m3,m4,m5,m6⟩,am,an⟩:=fP ((U.o.block f.1 aa).t i.o);clear w2)|(go_at_call 131;refine (V.o _ U.o).m ?_;rintro r N ⟨rfl,Q0,C⟩;have Z:=I (QV.o _ _ U.o Q0 C);clear Q0 C))
    all_goals (go_wp2_with fail;go_meet;exact ⟨rfl,Z⟩)
   case rest=>
    obtain ⟨rfl,Z⟩:=hcut;go_wp2;go_roundg (n - (j+1))
    case measure=>exact Y.o.2
    case rel=>exact ⟨j+1,m,Y.o.1,by rw [HR],Z⟩
  .obtain rfl:j=n:=(by omega);have d:Hid (Bu D.heap.size (sK fs) wr/\zB w wr):=by
    have M:=x.o.1;rw [qy (by rw [k.o.1];exact aG _),<- ad.o] at M;exact I ⟨M,F.o.t (((bZ _).t x.o.2.bS).m (by omega))⟩
   have ak:¬ (j:Int)<(j:Int):=(by omega);obtain ⟨P,l⟩:∃ P,sK fs=P:=⟨_,rfl⟩;rw [l] at d;have w3:=I l;clear l;go_wp2_with (go_at_call 96;refine (Builder_String_any_k D.heap.size D.heap.size P _ d.o.1.1 (by have:=d.o.1.2;omega)).m ?_;rintro r w5 ⟨rfl,Gd,Q6⟩);refine aK (v:=Q P) (by simp [results,results104,go_sem]) (by simp [go_sem]) ?_;rw [w3.o];exact ⟨rfl,d.o.2.t (Q6.1.m (by omega))⟩
end
end Go.Proofs.YtihgojcfpnhelaaGreatDoor
