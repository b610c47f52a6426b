import Derived.Test.YtihgojcfpnhelaaGreatDoorBh
import Derived.Test.YtihgojcfpnhelaaGreatDoorHh
import Derived.Test.YtihgojcfpnhelaaGreatDoorIi
set_option maxRecDepth 100000
set_option maxHeartbeats 4000000
set_option linter.all false
namespace Go.Proofs.YtihgojcfpnhelaaGreatDoor
open Go renaming World->zW,Value->zV,Calls->zC,Addr->zD
open Go.RowKit Go.Proofs.Tryz
open List renaming length→G
section
variable {S S1 O:Nat->Prop} {e:Nat} {D:Nat->Prop} {σ σ0:bg} {v1 v2 v3 v4 v5:zV} {te:TypeId} {w w' W Z U:zW} {ws0 us:List Wr} {b N:Nat} {cs:Array zV}
def CA:∀ (l m:List Nat),l.Nodup->(∀ x,x∈l->x∈m)->G l<=G m
 | [],_,_,_=>bE _
 | x::r,m,b,hs=>by
  rw [jB] at b;have c:x∈m:=hs x aq;have:=CA r (m.erase x) b.2 λy d=>by
   have a:y≠x:=λe=>b.1 (e▸d);exact (List.mem_erase_of_ne a).2 (hs y (by simp [d]))
  rw [List.length_erase_of_mem c] at this;have f:=List.length_pos_of_mem c;simp only [gS];omega
def qj {fs:List (Nat × Fd)} {x:By} (h:findF fs x=none):(fs.map Prod.snd).findIdx? (λf=>f.nm == x)=none:=by
 rw [Br];intro f a;obtain ⟨g,b,rfl⟩:=bU.1 a;have:=rp.1 h g b;simpa using this
def nk {fs:List (Nat × Fd)} {x:By} {f:Nat × Fd} (h:findF fs x=some f):∃ i,(fs.map Prod.snd).findIdx? (λf=>f.nm == x)=some i/\fs[i]?=some f:=by
 induction fs with
 | nil=>simp [findF] at h
 | cons g r b=>
  unfold findF at h;by_cases hg:g.2.nm=x
  ·rw [List.find?_cons_of_pos tH] at h;cases h;exact ⟨0,by simp [List.findIdx?_cons,hg],rfl⟩
  ·rw [List.find?_cons_of_neg tH] at h;obtain ⟨i,a,h2⟩:=b h;refine ⟨i+1,?_,tI⟩;rw [fL,List.findIdx?_cons];simp [hg,a]
def Be (σ:bg):σ.fs.map Prod.fst=σ.ord:=by simp [bg.fs,ry]
def OT {i:Nat} {f:Nat × Fd} (h:σ.fs[i]?=some f):σ.ord[i]?=some f.1/\f=(f.1,σ.mem f.1):=by
 unfold bg.fs at h;rw [kn] at h;obtain ⟨q,b,a⟩:=oF.1 h;subst a;exact ⟨b,rfl⟩
def aef (i:Nat) (c:σ.ord.Nodup) (l:σ.ord[i]?=some b) (f:Fd):(σ.put b f).fs.map Prod.snd=(σ.fs.map Prod.snd).set i f:=by
 obtain ⟨d,a⟩:=fI.1 l;apply rC
 ·simp [bg.fs,bg.put]
 ·intro j g m;have k:j<σ.ord.length:=by simpa [bg.fs,bg.put] using g
  have e1:((σ.put b f).fs.map Prod.snd)[j]=(σ.put b f).mem σ.ord[j]:=by simp [bg.fs,bg.put]
  rw [e1,tj];by_cases e:i=j
  ·subst e;rw [aB rfl,a,fN]
  ·rw [aA e,dM]
   ·simp [bg.fs]
   ·rw [<- a];intro h;have:=xK _ c i d;rw [<- h,xK _ c j k] at this;exact e this.symm
def uL {l:List (Nat × Fd)} {i:Nat} {f:Nat × Fd} (h:l[i]?=some f):l=l.take i++f::l.drop (i+1)/\(l.take i).length=i:=Xz
def Tu {fs gs:List (Nat × Fd)} {i:Nat} {f:Nat × Fd} (h:fs[i]?=some f) (b:dL fs i f=.ok gs):f∈gs:=by
 obtain ⟨c,d⟩:=uL h;rw [c] at b;have a:dL (fs.take i++f::fs.drop (i+1)) (fs.take i).length f=.ok gs:=by rw [d];exact b
 exact (wS _ _ gs f a).mem_iff.2 aq
def CB {fs b:List (Nat × Fd)} {i:Nat} {f:Nat × Fd} (k:(fs.map Prod.fst).Nodup) (h:fs[i]?=some f) (g:dL fs i f=.dZ b):(G b)<=(G fs):=by
 obtain ⟨e,j⟩:=uL h;obtain ⟨n,l⟩:=fI.1 h;have a:=(zY fs b i f n l g).1;have d:dL (fs.take i++f::fs.drop (i+1)) (fs.take i).length f=.dZ b:=by rw [j,<- e];exact g
 have c:=(Tv _ _ b f (by rw [<- e];exact k) d).2.1;have:=CA _ (fs.map Prod.fst) c λx m=>by
  obtain ⟨y,o,rfl⟩:=bU.1 m;exact iJ (a y o)
 simpa using this
structure Hh (S:Nat->Prop) (e:Nat) (D S' D':Nat->Prop) (nm:List By) (an:Option zD) (cn:Nat) (w w':zW):Prop where
 s0:∀ q,S q->S' q
 s1:∀ q,S' q->S q\/w.heap.size<=q
 d0:∀ q,D q->D' q
 d1:∀ q,D' q->D q\/w.heap.size<=q
 ks:Ks (λq=>q=e\/D q) w w'
 own:w'.ownsRow w.heap.size 9 1 (.slice an (G nm) cn) (G nm) (strs nm)
 ob:∀ q,(Value.slice an (G nm) cn).ownBlock=some q->¬ S' q
def eB (S:Nat->Prop) (e:Nat) (D:Nat->Prop) (σ:bg) (v1 v2 v3 v4 v5:zV) (te:TypeId) (h:AR) (w:zW) (r:Ending) (w':zW):Prop:=
 match h with
 | .ok fs nm=>∃ (b:Option zD) (cn:Nat) (S' d:Nat->Prop) (g:Nat) (a:Array zV) (σ1:bg) (f:List Wr),Hh S e D S' d nm b cn w w'/\r=.returned (.tuple #[.slice b (G nm) cn,.func (.func g) #[] a,zI 0])/\(∀ q,D q->σ1.mem q=σ.mem q)/\σ1.ord=σ.ord/\cK w' S' e d (aU f σ1) v1 v2 v3 v4 v5 te/\cO e d w' S' g a (dz f σ1)/\(aU f σ1).fs.map Prod.snd=fs
 | .err c nm=>∃ (b:Option zD) (cn:Nat) (S':Nat->Prop),Hh S e D S' D nm b cn w w'/\r=.returned (.tuple #[.slice b (G nm) cn,.nilFunc,zI c])/\cK w' S' e D σ v1 v2 v3 v4 v5 te
def kg (hs:List (Nat × Fd)):(cJ hs).length=(G hs):=G8
def CC (at_ k:Nat) (a:Array zV) (h:cK w S e D σ v1 v2 v3 v4 v5 te) (y:aU ws0 σ0=σ) (g:cO e D w S k a (dz ws0 σ0)) (x:σ.ord.length<=100) (f:σ.ord[at_]?=some b) (d:σ.ord.Nodup) :
  zC prog 161 #[zJ e,zJ b,.func (.func k) #[] a] w (eB S e D σ0 v1 v2 v3 v4 v5 te (fq (σ.fs.map Prod.snd) at_ (σ.mem b)) w):=by
 have c:σ.fs[at_]?=some (b,σ.mem b):=by simp [bg.fs,f]
 have i:(σ.fs.map Prod.fst).Nodup:=by rw [Be];exact d
 rw [JW σ.fs i at_ (b,σ.mem b) c];have A:σ.fs.length=σ.ord.length:=tL;cases j:dL σ.fs at_ (b,σ.mem b) with
 | ok gs=>
  refine (OO at_ k a gs h y g x f d j (Tu c j)).m ?_;rintro r w' ⟨t,cn,C,m,S',F,rfl,l,n,v,p,u,s,z,E⟩;refine ⟨t,cn,S',D,C,m,σ0,ws0++F,⟨v,λq o=>(p q o).imp id λh=>h.1,λ_ h=>h,λ_ h=>Or.inl h,z,?_,?_⟩,?_,λ_ _=>rfl,rfl,u,s,by rw [E]⟩
  ·rw [kg];exact l
  ·rw [kg];exact n
  ·rw [kg]
 | dZ B=>
  refine (Hg at_ k a B h y g x f d j (by have:=CB i c j;omega)).m ?_;rintro r w' ⟨t,cn,S',rfl,l,n,v,p,u,s⟩;refine ⟨t,cn,S',⟨v,λq o=>(p q o).imp id λh=>h.1,λ_ h=>h,λ_ h=>Or.inl h,s,?_,?_⟩,?_,u⟩
  ·rw [kg];exact l
  ·rw [kg];exact n
  ·rw [kg];rfl
variable {V:Nat->Prop} {Q:Nat->Prop} {σ1 U:bg} {w1 w2 w3:zW} {ws1:List Wr} {X:Nat} {R:Array zV} {H:AR} {r:Ending} {hs gs:List (Nat × Fd)}
def abg (F:Ks (λq=>q=e\/D q) w w3) (hu0:∀ q,S q->V q) (hu1:∀ q,V q->S q\/(w.heap.size<=q/\∃ c t z,w3.heap[q]?=some (.cells c t z))) (a:cK w3 V e D U v1 v2 v3 v4 v5 te) (C:aU ws1 σ0=U) (f:U.fs=gs) (P:cO e D w3 V X R (dz ws1 σ0)) (hl:(G hs)<=400) (xE:U.ord.length<=400) (i:∀ x,x∈hs->x∈gs) (hSw:∀ q,S q->q<w.heap.size) (v:zV) (b:Z.ownsRow w3.heap.size 220 1 v (G hs) (cA hs)) (o:zB w3 Z) :
  (∀ W (s:zB Z W),zC prog 142 #[v] W λr w'=>∃ g cn,r=.returned (.slice g (G hs) cn)/\w'.ownsRow W.heap.size 9 1 (.slice g (G hs) cn) (G hs) (strs (cJ hs))/\zB W w') /\
  (∀ (g:Option zD) (cn:Nat) W (s:zB Z W),W.ownsRow Z.heap.size 9 1 (.slice g (G hs) cn) (G hs) (strs (cJ hs))->zC prog 167 #[zJ e,v] W λr A=>∃ L l,r=.returned (.func (.func L) #[] l)/\Hid (zC prog 72 #[zS A.heap.size 2 2] (A.alloc (.cells #[.func (.func X) #[] R,.func (.func L) #[] l] 151)) λr w8=>∃ M m,r=.returned (.func (.func M) #[] m)/\Cw S e D σ0 ws1 v1 v2 v3 v4 v5 te hs gs w (.returned (.tuple #[.slice g (G hs) cn,.func (.func M) #[] m,zI 0])) w8)):=by
 obtain ⟨a3,c3,k,_,_,_⟩:=a.sh;rw [f] at k;obtain ⟨ak,ck,rfl⟩:=eM b;have N:∀ x,x∈gs->x.1<w3.heap.size:=λx Q=>(k.bX x Q).lt;refine ⟨λW s=>(uK _ _ _ W (((k.next o).OS i b N).next s) ae).m (by
  rintro r w' ⟨v,rfl,h1,h2⟩;obtain ⟨g,cn,rfl⟩:=eM h1;exact ⟨g,cn,rfl,h1,h2⟩),λg cn W s H=>?_⟩
 have d:zB w3 W:=o.t (s.m o.size);have hDk:∀ x,x∈hs->D x.1:=λx Q=>by
  have:=i x Q;rw [<- f] at this;obtain ⟨q,y,Y⟩:=bU.1 this;rw [<- Y];exact a.sub q y
 have B:=EL (w:=W) (S:=V) (e:=e) (D:=D) (σ:=U) (v1:=v1) (v2:=v2) (v3:=v3) (v4:=v4) (v5:=v5) (te:=te) ck ak (hs.map λx=>x.1) (a.next d) ae aN (λj hj=>by
  have hj':j<(G hs):=oT;obtain ⟨g5,abd,e5,hg5,u⟩:=b.form ae;cases e5;refine ⟨Z2,g5,0,rfl,bG u s.size,by have:=a.lt;omega,λhD=>?_,?_⟩
  ·have:=(a.bX g5 hD).lt;omega
  ·rw [s.cell (p:=⟨g5,0+j,none⟩) u,cS,b.cellAt j ae];unfold cA;rw [kn,cU hj'];simp)
 rw [fy] at B;refine B.m ?_;rintro r A ⟨L,l,S7,rfl,m0,m1,hp7,K,n⟩;refine ⟨L,l,rfl,?_⟩;have T:Ks (λq=>q=e\/D q) w A:=(F.t (Ks.of d)).t n;have sI:∀ q,(Value.slice g (G hs) cn).ownBlock=some q->Z.heap.size<=q/\q<W.heap.size:=λq hq=>H.lt q hq;have ak0:=o.size;have ak1:=s.size;have ak2:=n.size;have hw3:=F.size;have EM:=a.lt;have agy:A.ownsRow Z.heap.size 9 1 (.slice g (G hs) cn) (G hs) (strs (cJ hs)):=iy H n λq hq h1=>by
  have:=(sI q hq).1;rcases h1 with h1|h1
  ·omega
  ·have:=(a.bX q h1).lt;omega
 have E:aU (ws1++gB U (hs.map λx=>x.1)) σ0=aU (gB U (hs.map λx=>x.1)) U:=by rw [lH,C]
 have OQ:=Bc (S:=S) (O:=λq=>w.heap.size<=q/\(Value.slice g (G hs) cn).ownBlock≠some q) (w:=w) (W:=A) (N1:=X) (cs1:=R) (N2:=L) (cs2:=l) (λq hq=>⟨ae,λh1=>by have:=(sI q h1).2;omega⟩) (ws1:=ws1) (ws2:=gB U (hs.map λx=>x.1)) (σ:=σ0) (S1:=S7) (by rw [E];exact hp7) (λq hq=>m0 q (hu0 q hq)) (λq hq=>?_) ((P.next (λq hq=>(n.block q (bG (a.still q hq) d.size) (a.notP q hq)).t (d.block q (a.still q hq)))).wide m0 λ_ h=>h) (by rw [C];exact K) T
 ·refine (OQ.all ae (λq hq=>⟨by simp at hq;omega,λh1=>aaf⟩)).m ?_;rintro r w8 ⟨⟨M,m,S8,rfl,p0,p1,hp8,J,hk8⟩,hb8⟩;refine ⟨M,m,rfl,g,cn,M,m,S8,gB U (hs.map λx=>x.1),rfl,?_,λq hq hS8=>?_,p0,λq hq=>(p1 q hq).imp id λh=>⟨h.1.1,h.2⟩,hp8,J,hk8,?_⟩
  ·exact YV
  ·rcases p1 q hS8 with h1|h1
   ·have:=hSw q h1;have:=(sI q hq).1;omega
   ·exact h1.1.2 hq
  ·rw [E,EK,f];intro q hq;obtain ⟨x,Q,rfl⟩:=bU.1 hq;have:=i x Q;rw [<- f] at this;obtain ⟨q,y,Y⟩:=bU.1 this;rw [<- Y];exact y
 ·rcases m1 q hq with h1|⟨h1,c,t,z,h2⟩
  ·rcases hu1 q h1 with h3|⟨h3,c,t,z,h4⟩
   ·exact Or.inl h3
   ·refine Or.inr ⟨⟨h3,λh5=>?_⟩,c,t,z,n.cells ((d.block q (a.still q h1)).t h4) (a.notP q h1)⟩;have:=a.still q h1;have:=(sI q h5).1;omega
  ·refine Or.inr ⟨⟨ae,λh5=>?_⟩,c,t,z,h2⟩;have:=(sI q h5).2;omega
def abh (c:Nat) (a:Option zD) (fs:List (Nat × Fd)) (x:By) (hs:Sh w S a fs) (g:w.cell? ⟨e,0,none⟩=some (.slice a (G fs) c)) (h:(G fs)<=100) (b:findF fs x=none) :
  zC prog 134 #[zJ e,zG x] w λr w'=>r=.returned (.tuple #[zN,.nilFunc,zI 5])/\w=w':=by
 have f:=I (kQ x e c a fs w hs g ae);rw [iQ,b] at f;have d:=I (show zC prog 137 #[zJ e,zG x] w λr w'=>r=.returned (.pointer none)/\w=w' from f.o);clear hs g f;go_in;go_wp2_with (go_at_call 137;refine d.o.m ?_;rintro r w1 ⟨rfl,rfl⟩);refine aK (v:=.tuple #[zN,.nilFunc,zI 5]) (by simp [results,results134,go_sem]) gN ?_;exact ⟨rfl,rfl⟩
def abj (at_:Nat) (x:By) (h:cK w S e D σ v1 v2 v3 v4 v5 te) (Eb:σ.ord.Nodup) (hl:σ.ord.length<=100) (hat:σ.ord[at_]?=some b) (hf:findF σ.fs x=some (b,σ.mem b)) :
  zC prog 134 #[zJ e,zG x] w (Cw S e D σ [.ord (σ.ord.eraseIdx at_)] v1 v2 v3 v4 v5 te (aO [x] (σ.fs.eraseIdx at_)) (σ.fs.eraseIdx at_) w):=by
 obtain ⟨T,xF⟩:=fI.1 hat;have JS:σ.fs.length=σ.ord.length:=tL;obtain ⟨a,c,C,hcc,OP,f⟩:=h.sh;have od:e<w.heap.size:=h.lt;obtain ⟨⟨e0,e1,e2,e3,e4,e5⟩,⟨z0,z1,z2,z3,z4,z5⟩,_⟩:=bJ f;have HF:=I (kQ x e c a σ.fs w C e0 ae);rw [Aa hf] at HF;have HI:=I (qI a c b at_ σ.fs w C ae ae Ob (λi hi hlt=>by
  have:=sW.1 Eb i at_ ae T hlt;simpa [bg.fs,<- xF] using this))
 have ala:at_<σ.fs.length:=ae;obtain ⟨s,A,rfl,Gn,hq2⟩:=C.ptr at_ ala;have z6:(at_:Int)+1<=(σ.fs.length:Int):=ae;have z7:(σ.fs.length:Int)<=(c:Int):=ae;have z4':(at_:Int)+1<=(c:Int):=ae;have ars:(at_:Int)<=(σ.fs.length:Int):=ae;have hcz:(at_:Int)<=(c:Int):=ae;have hwr:IntKind.i64.wrap ((at_:Int)+1)=(at_:Int)+1:=GD;have z8:(at_:Int)<100:=ae;have z9:at_+1<=c:=ae;have z10:at_<c:=ae;have z11:at_<=c:=ae;have z14:at_+1<=σ.fs.length:=ae;have HS:=I C;have G:=I h;have Ty:=I (show σ.fs.length=σ.ord.length/\σ.fs.length<=100 from ⟨JS,ae⟩);clear Gn hq2 C f h Eb hat xF T JS hf OP hcc hl;go_in;go_wp2_with (first|(go_at_call 137;refine HF.o.m ?_;rintro r w1 ⟨rfl,rfl⟩)|(go_at_call 165;refine HI.o.m ?_;rintro r w1 ⟨rfl,rfl⟩));have k:b9 [σ.fs.take at_,σ.fs.drop (at_+1)]=σ.fs.eraseIdx at_:=by simp [b9,EB]
 have o:(⟨σ.ord.eraseIdx at_,σ.mem⟩:bg).fs=σ.fs.eraseIdx at_:=by
  unfold bg.fs;exact XE
 have M:(σ.fs.eraseIdx at_).length=(σ.ord.eraseIdx at_).length:=by rw [<- o];simp [bg.fs]
 have JX:(σ.fs.eraseIdx at_).length<=σ.fs.length:=List.length_eraseIdx_le _ _;have m:=I (show ∀ (c4:Nat) (J:zD),lI w (.slice (some J) (σ.fs.length - (at_+1)) c4) (σ.fs.drop (at_+1))->zC prog 164 #[zS w.heap.size 2 2] (w.alloc (.cells #[.slice (some ⟨s,A,none⟩) at_ c,.slice (some J) (σ.fs.length - (at_+1)) c4] 101)).drew λr w2=>∃ d ln cn,r=.returned (.slice d ln cn)/\Hid (zC prog 163 #[zJ e,.slice d ln cn] w2 λr w3=>∃ N1 cs1,r=.returned (.func (.func N1) #[] cs1)/\Hid (∃ p:Nat->Prop,(∀ q,S q->p q)/\(∀ q,p q->S q\/(w.heap.size<=q/\∃ c t z,w3.heap[q]?=some (.cells c t z)))/\cK w3 p e D ⟨σ.ord.eraseIdx at_,σ.mem⟩ v1 v2 v3 v4 v5 te/\cO e D w3 p N1 cs1 [.ord σ.ord]/\Ks (λq=>q=e\/D q) w w3)) from λc4 J h4=>by
  have H:zB w (w.alloc (.cells #[.slice (some ⟨s,A,none⟩) at_ c,.slice (some J) (σ.fs.length - (at_+1)) c4] 101)).drew:=(bZ _).drew;have f:(w.alloc (.cells #[.slice (some ⟨s,A,none⟩) at_ c,.slice (some J) (σ.fs.length - (at_+1)) c4] 101)).drew.heap[w.heap.size]?=some (.cells #[.slice (some ⟨s,A,none⟩) at_ c,.slice (some J) (σ.fs.length - (at_+1)) c4] 101 (0,0)):=bL w _;have JY:(w.alloc (.cells #[.slice (some ⟨s,A,none⟩) at_ c,.slice (some J) (σ.fs.length - (at_+1)) c4] 101)).drew.heap.size=w.heap.size+1:=aq;generalize (w.alloc (.cells #[.slice (some ⟨s,A,none⟩) at_ c,.slice (some J) (σ.fs.length - (at_+1)) c4] 101)).drew=W at *;have hsW:=HS.o.next H;have r0:W.cell? ⟨w.heap.size,0,none⟩=some (.slice (some ⟨s,A,none⟩) at_ c):=(bq _ _ 0 _ _ _ f).t rfl;have r1:W.cell? ⟨w.heap.size,1,none⟩=some (.slice (some J) (σ.fs.length - (at_+1)) c4):=(bq _ _ 1 _ _ _ f).t rfl;have p0:lI W (.slice (some ⟨s,A,none⟩) at_ c) (σ.fs.take at_):=by
   have:=hsW.part 0 at_ c ae;simpa using this
  have p1:=h4.next H;refine (rK [σ.fs.take at_,σ.fs.drop (at_+1)] [.slice (some ⟨s,A,none⟩) at_ c,.slice (some J) (σ.fs.length - (at_+1)) c4] w.heap.size 2 W rfl ae (λi hi=>?_) (by rw [k];have:=Ty.o.2;omega) aq).m ?_
  ·rcases (show i=0\/i=1 from zM) with rfl|rfl
   ·exact ⟨r0,p0⟩
   ·exact ⟨r1,p1⟩
  ·rintro r w2 ⟨v,rfl,R,hb2⟩;rw [k] at R;obtain ⟨d,cn,rfl⟩:=eM R;refine ⟨d,_,cn,rfl,?_⟩;have u:zB w w2:=H.t (hb2.m H.size);have hsz:=H.size;have N:∀ q,(Value.slice d (σ.fs.eraseIdx at_).length cn).ownBlock=some q->W.heap.size<=q/\q<w2.heap.size:=λq hq=>R.lt q hq;have hoc:∀ q,(Value.slice d (σ.fs.eraseIdx at_).length cn).ownBlock=some q->∃ c t z,w2.heap[q]?=some (.cells c t z):=λq hq=>by
    rcases R.2 with ⟨h3,_⟩|⟨g,cap,cur,h3,_,h4,_⟩
    ·exact BZ
    ·exact Ys
   have art:=G.o.lt;have yA:cK w2 (λq=>S q\/(Value.slice d (σ.fs.eraseIdx at_).length cn).ownBlock=some q) e D σ v1 v2 v3 v4 v5 te:=(G.o.next u).wide (λq hq=>Or.inl hq) λq hq=>hq.imp id λn=>⟨(N q n).2,by have:=(N q n).1;omega,λh2=>by have:=(G.o.bX q h2).lt;have:=(N q n).1;omega⟩;have hra:jQ w2 (λq=>S q\/(Value.slice d (σ.fs.eraseIdx at_).length cn).ownBlock=some q) d (σ.ord.eraseIdx at_):=λj hj=>by
    have hj':j<(σ.fs.eraseIdx at_).length:=ae;obtain ⟨g5,abd,e5,_,_⟩:=R.form ae;cases e5;refine ⟨g5,0,rfl,Or.inr rfl,?_⟩;rw [cS,R.cellAt j ae];unfold cA;rw [kn,cU hj'];have e6:((σ.fs.eraseIdx at_)[j]).1=(σ.ord.eraseIdx at_)[j]:=by
     have:(σ.fs.eraseIdx at_).map Prod.fst=σ.ord.eraseIdx at_:=by rw [<- o,Be]
     rw [<- kJ Prod.fst]
     ·simp only [this]
     ·simpa using hj'
    simp [e6]
   have O:=Hf yA (σ.ord.eraseIdx at_) d cn (λq hq=>G.o.sub q (List.mem_of_mem_eraseIdx hq)) hra (by
    rcases R.2 with ⟨h3,h4⟩|⟨g,cap,cur,h3,_,_,h4,_⟩
    ·omega
    ·cases h3;omega) (λn=>by
    rcases R.2 with ⟨h3,h4⟩|⟨g,cap,cur,h3,_⟩
    ·simp at h3;exact h3.2.2
    ·rw [n] at h3;cases h3)
   rw [<- M] at O;refine O.m ?_;rintro r w3 ⟨N1,cs1,p,rfl,q0,q1,q2,q3,q4⟩;refine ⟨N1,cs1,rfl,p,λq hq=>q0 q (Or.inl hq),λq hq=>?_,q2,q3,(Ks.of u).t q4⟩;rcases q1 q hq with (n|n)|n
   ·exact Or.inl n
   ·obtain ⟨cc,t,z,h2⟩:=hoc q n;exact Or.inr ⟨by have:=(N q n).1;omega,cc,t,z,q4.cells h2 (yA.notP q (Or.inr n))⟩
   ·exact Or.inr ⟨bf u.size n.1,n.2⟩)
 have l:=I (show ∀ (N1:Nat) (cs1:Array zV) (w3:zW),(∃ p:Nat->Prop,(∀ q,S q->p q)/\(∀ q,p q->S q\/(w.heap.size<=q/\∃ c t z,w3.heap[q]?=some (.cells c t z)))/\cK w3 p e D ⟨σ.ord.eraseIdx at_,σ.mem⟩ v1 v2 v3 v4 v5 te/\cO e D w3 p N1 cs1 [.ord σ.ord]/\Ks (λq=>q=e\/D q) w w3) ->
   zC prog 166 #[zJ e,zG x] w3 λr Z=>∃ X lh Y,r=.returned (.slice X lh Y)/\Hid (zC prog 142 #[.slice X lh Y] Z λr w6=>∃ d ln cn,r=.returned (.slice d ln cn)/\Hid (zC prog 167 #[zJ e,.slice X lh Y] w6 λr w7=>∃ N7 L,r=.returned (.func (.func N7) #[] L)/\Hid (zC prog 72 #[zS w7.heap.size 2 2] (w7.alloc (.cells #[.func (.func N1) #[] cs1,.func (.func N7) #[] L] 151)) λr w8=>∃ N8 K,r=.returned (.func (.func N8) #[] K)/\Cw S e D σ [.ord (σ.ord.eraseIdx at_)] v1 v2 v3 v4 v5 te (aO [x] (σ.fs.eraseIdx at_)) (σ.fs.eraseIdx at_) w (.returned (.tuple #[.slice d ln cn,.func (.func N8) #[] K,zI 0])) w8))) from by
  rintro N1 cs1 w3 ⟨p,q0,q1,q2,q3,q4⟩;obtain ⟨a3,c3,P,_,_,F⟩:=q2.sh;rw [o] at P F;have aru:=Ty.o.2;refine (zX x e c3 a3 (σ.fs.eraseIdx at_) w3 P (bJ F).1.1 q2.lt ae).m ?_;rintro r Z ⟨vh,rfl,Q,rG⟩;have Tn:=Cy [x] (σ.fs.eraseIdx at_);obtain ⟨t1,t2⟩:=abg (S:=S) (w:=w) (σ0:=σ) (ws1:=[.ord (σ.ord.eraseIdx at_)]) (hs:=aO [x] (σ.fs.eraseIdx at_)) (gs:=σ.fs.eraseIdx at_) q4 q0 q1 q2 rfl o q3 ae (by rw [<- M];omega) (λy hy=>mX _ _ y hy) G.o.still vh Q rG;obtain ⟨X,Y,rfl⟩:=eM Q;refine ⟨X,_,Y,rfl,(t1 Z (aM _ _)).m ?_⟩;rintro r w6 ⟨d,cn,rfl,hon,hb6⟩;exact ⟨d,_,cn,rfl,t2 d cn w6 hb6 hon⟩)
 have U:=HS.o;by_cases y3:c=at_+1
 ·have E:=I (m.o 0 ⟨s,A,none⟩ (by
   have e1:σ.fs.length - (at_+1)=0:=ae;rw [e1,nY ae];exact lI.empty _ _ _))
  subst y3;clear m U k o M JX HF HI;go_wp2_with fail
  go_region_with (first|(go_at_call 164;refine E.o.m ?_;rintro r w2 ⟨d,ln,cn,rfl,C2⟩)|(go_at_call 163;refine C2.o.m ?_;rintro r w3 ⟨N1,cs1,rfl,C3⟩))
  all_goals have C4:=I (l.o N1 cs1 w3 C3.o)
  all_goals clear C2 C3 E l
  all_goals go_wp2_with (first|(go_at_call 166;refine C4.o.m ?_;rintro r Z ⟨X,lh,Y,rfl,C5⟩)|(go_at_call 142;refine C5.o.m ?_;rintro r w6 ⟨am,lm,cm,rfl,C6⟩)|(go_at_call 167;refine C6.o.m ?_;rintro r w7 ⟨N7,L,rfl,C7⟩)|(go_at_call 72;refine C7.o.m ?_;rintro r w8 ⟨N8,K,rfl,B⟩;have V:=I B;clear B))
  all_goals go_ret3
  all_goals exact V.o
 ·have E:=I (m.o (c - (at_+1)) ⟨s,A+(at_+1),none⟩ (by
   have:=U.part (at_+1) (σ.fs.length - (at_+1)) (c - (at_+1)) ae;rw [qy aq] at this;exact this))
  clear m U k o M JX HF HI;go_wp2_with fail
  go_region_with (first|(go_at_call 164;refine E.o.m ?_;rintro r w2 ⟨d,ln,cn,rfl,C2⟩)|(go_at_call 163;refine C2.o.m ?_;rintro r w3 ⟨N1,cs1,rfl,C3⟩))
  all_goals have C4:=I (l.o N1 cs1 w3 C3.o)
  all_goals clear C2 C3 E l
  all_goals go_wp2_with (first|(go_at_call 166;refine C4.o.m ?_;rintro r Z ⟨X,lh,Y,rfl,C5⟩)|(go_at_call 142;refine C5.o.m ?_;rintro r w6 ⟨am,lm,cm,rfl,C6⟩)|(go_at_call 167;refine C6.o.m ?_;rintro r w7 ⟨N7,L,rfl,C7⟩)|(go_at_call 72;refine C7.o.m ?_;rintro r w8 ⟨N8,K,rfl,B⟩;have V:=I B;clear B))
  all_goals go_ret3
  all_goals exact V.o
variable {H:Nat->Prop} {U:Nat->Prop} {Q:bg} {V:zW} {Z:Array zV} {R:AR}
def Cw.aeh {fs:List Fd} {nm:List By} (h:Cw S e D σ0 ws0 v1 v2 v3 v4 v5 te hs gs w r w') (c:(iR gs (hs.map λx=>x.1)).map Prod.snd=fs) (g:cJ hs=nm):eB S e D σ0 v1 v2 v3 v4 v5 te (.ok fs nm) w r w':=by
 obtain ⟨o,cn,i,a,S',n,rfl,b,d,l,k,j,f,s,p⟩:=h;subst g;refine ⟨o,cn,S',D,i,a,σ0,ws0++n,⟨l,λq m=>(k q m).imp id λh=>h.1,λ_ h=>h,λ_ h=>Or.inl h,s,?_,?_⟩,?_,λ_ _=>rfl,rfl,j,f,by rw [p,c]⟩
 ·rw [kg];exact b
 ·rw [kg];exact d
 ·rw [kg]
def OU (gs:List (Nat × Fd)) (a:(gs.map Prod.fst).Nodup) (on:List By):(iR (aT (gs.map Prod.snd)) ((aO on (aT (gs.map Prod.snd))).map λx=>x.1)).map Prod.snd=(iR gs ((aO on gs).map λx=>x.1)).map Prod.snd/\cJ (aO on (aT (gs.map Prod.snd)))=cJ (aO on gs):=by
 rw [<- xL gs a,uM];have e:((aO on gs).map (cV λb=>(gs.map Prod.fst).idxOf b)).map (λx=>x.1)=((aO on gs).map λx=>x.1).map (λb=>(gs.map Prod.fst).idxOf b):=by
  rw [fM,fM];rfl
 rw [e,yS]
 ·refine ⟨?_,?_⟩
  ·simp [cV,ry]
  ·simp [cJ,cV,ry]
 ·intro k d g c h;obtain ⟨x,f,rfl⟩:=bU.1 d;exact CD gs _ _ (iJ c) (iJ (mX _ _ x f)) h
def CE {α β:Type} (f:α->β) (l:List α) (i:Nat):(l.eraseIdx i).map f=(l.map f).eraseIdx i:=XE
def alf (h:cK w S e D σ v1 v2 v3 v4 v5 te) (b:σ.ord.Nodup) (y:σ.ord.length<=10) (x:By) :
  zC prog 134 #[zJ e,zG x] w (eB S e D σ v1 v2 v3 v4 v5 te (mL (σ.fs.map Prod.snd) x) w):=by
 have p:σ.fs.length=σ.ord.length:=tL;unfold mL;cases d:findF σ.fs x with
 | none=>
  rw [qj d];obtain ⟨a,c,hs,v,u,g⟩:=h.sh;refine (abh c a σ.fs x hs (bJ g).1.1 ae d).m ?_;rintro r w' ⟨rfl,rfl⟩;exact ⟨none,0,S,⟨λ_ h=>h,λ_ h=>Or.inl h,λ_ h=>h,λ_ h=>Or.inl h,Ks.refl _ _,eW _ _ _ _,λq hq=>pK⟩,rfl,h⟩
 | some f=>
  obtain ⟨i,j,k⟩:=nk d;obtain ⟨m,l⟩:=OT k;rw [j];simp only;rw [l] at d;have s:((σ.fs.eraseIdx i).map Prod.fst).Nodup:=by
   rw [CE,Be];exact b.sublist (List.eraseIdx_sublist _ _)
  obtain ⟨n,o⟩:=OU (σ.fs.eraseIdx i) s [x];rw [CE] at n o;refine (abj i x h b ae m d).m λr w' t=>?_;exact t.aeh n.symm o.symm
def jE (x y:By) (σ:bg) (l:List Nat):List Wr:=l.flatMap λq=>if aC x (σ.mem q).p=true then [.rl q (aR x y (σ.mem q).p)] else []
def OV (x y:By) (σ:bg) (l:List Nat) (q:Nat):jE x y σ (l++[q])=jE x y σ l++(if aC x (σ.mem q).p=true then [.rl q (aR x y (σ.mem q).p)] else []):=by simp [jE]
def uN (x y:By) (σ:bg):∀ (l:List Nat) (τ:bg),l.Nodup->(∀ q,q∈l->(τ.mem q).p=(σ.mem q).p)->(aU (jE x y σ l) τ).ord=τ.ord/\∀ q,(aU (jE x y σ l) τ).mem q=if q∈l then ⟨(τ.mem q).nm,aR x y (σ.mem q).p,(τ.mem q).v⟩ else τ.mem q
 | [],τ,_,_=>⟨rfl,λq=>by simp [jE,aU]⟩
 | b::r,τ,d,g=>by
  rw [jB] at d;have e1:jE x y σ (b::r)=(if aC x (σ.mem b).p=true then [.rl b (aR x y (σ.mem b).p)] else [])++jE x y σ r:=by simp [jE]
  by_cases hm:aC x (σ.mem b).p=true
  ·rw [e1,aB hm,lH];obtain ⟨e,f⟩:=uN x y σ r (kx τ (.rl b (aR x y (σ.mem b).p))) d.2 λq c=>by
    have i:q≠b:=λa=>d.1 (a▸c);rw [show (kx τ (.rl b (aR x y (σ.mem b).p))).mem q=τ.mem q from dM _ _ _ _ i];exact g q (by simp [c])
   refine ⟨e,λq=>?_⟩;have k:=f q;rw [show aU [Wr.rl b (aR x y (σ.mem b).p)] τ=kx τ (.rl b (aR x y (σ.mem b).p)) from rfl,k];by_cases a:q=b
   ·subst a;rw [aA d.1,aB aq];exact fN _ _ _
   ·have j:(kx τ (.rl b (aR x y (σ.mem b).p))).mem q=τ.mem q:=dM _ _ _ _ a;rw [j];by_cases c:q∈r<;>simp [c,a]
  ·have h:aC x (σ.mem b).p=false:=Oy;rw [e1,aA hm,ko];obtain ⟨e,f⟩:=uN x y σ r τ d.2 λq c=>g q (by simp [c]);refine ⟨e,λq=>?_⟩;rw [f q];by_cases a:q=b
   ·subst a;rw [aA d.1,aB aq,ig x y _ h,<- g q aq]
   ·by_cases c:q∈r<;>simp [c,a]
def aei (x y:By) (i:σ.ord.Nodup) (a:(σ.fs.map λg=>g.2.nm).Nodup) (e:b∈σ.ord) (k:(σ.mem b).nm=x):(aU (.nm b y::jE x y σ σ.ord) σ).ord=σ.ord/\(aU (.nm b y::jE x y σ σ.ord) σ).fs.map Prod.snd=(σ.fs.map Prod.snd).map (dN x y)/\(aU (.nm b y::jE x y σ σ.ord) σ).mem b=dN x y (σ.mem b):=by
 obtain ⟨d,f⟩:=uN x y σ σ.ord (kx σ (.nm b y)) i λq c=>by
  by_cases e':q=b
  ·exact XU
  ·rw [show (kx σ (.nm b y)).mem q=σ.mem q from dM _ _ _ _ e']
 have l:∀ q,q∈σ.ord->(aU (.nm b y::jE x y σ σ.ord) σ).mem q=dN x y (σ.mem q):=λq c=>by
  show (aU (jE x y σ σ.ord) (kx σ (.nm b y))).mem q=_;rw [f q,aB c];unfold dN;by_cases e':q=b
  ·subst e';rw [show (kx σ (.nm q y)).mem q=⟨y,(σ.mem q).p,(σ.mem q).v⟩ from fN _ _ _,aB k]
  ·rw [show (kx σ (.nm b y)).mem q=σ.mem q from dM _ _ _ _ e'];have j:(σ.mem q).nm≠x:=λh=>e' (aej a c e (h.t k.symm));rw [aA j]
 refine ⟨d,?_,l b e⟩;unfold bg.fs;rw [show (aU (.nm b y::jE x y σ σ.ord) σ).ord=σ.ord from d];simp only [fM];exact sB λq c=>l q c
 where
 aej {σ:bg} (a:(σ.fs.map λg=>g.2.nm).Nodup) {q b:Nat} (c:q∈σ.ord) (e:b∈σ.ord) (h:(σ.mem q).nm=(σ.mem b).nm):q=b:=by
  have d:=uO a (g:=(q,σ.mem q)) (bU.2 ⟨q,c,rfl⟩);have f:=uO a (g:=(b,σ.mem b)) (bU.2 ⟨b,e,rfl⟩);simp only at d f;rw [h,f] at d;cases d;rfl
variable {X:Nat->Prop} {T:bg} {R Z:zW} {H:Nat} {V:Array zV} {Q:AR}
structure OW (S:Nat->Prop) (e:Nat) (D:Nat->Prop) (σ:bg) (ws:List Wr) (v1 v2 v3 v4 v5:zV) (te:TypeId) (w W:zW) (S1:Nat->Prop) (N:Nat) (cs:Array zV):Prop where
 s0:∀ q,S q->S1 q
 s1:∀ q,S1 q->S q\/w.heap.size<=q
 ph:cK W S1 e D (aU ws σ) v1 v2 v3 v4 v5 te
 bk:cO e D W S1 N cs (dz ws σ)
 ks:Ks (λq=>q=e\/D q) w W
def pM (x y:By) (p:Pt):Bool:=aC x p&&decide (100<(txt (aR x y p)).length)
def aek (S:Nat->Prop) (e:Nat) (D:Nat->Prop) (σ:bg) (b:Nat) (x y:By) (v1 v2 v3 v4 v5:zV) (te:TypeId) (w:zW) (r:Ending) (w':zW):Prop:=
 ((∃ q,q∈σ.ord/\pM x y (σ.mem q).p=true)/\r=.returned (.tuple #[.nilFunc,zI 7])/\∃ S1,(∀ q,S q->S1 q)/\(∀ q,S1 q->S q\/w.heap.size<=q)/\cK w' S1 e D σ v1 v2 v3 v4 v5 te/\Ks (λq=>q=e\/D q) w w') \/
 ((∀ q,q∈σ.ord->pM x y (σ.mem q).p=false)/\∃ N cs S1,r=.returned (.tuple #[.func (.func N) #[] cs,zI 0])/\OW S e D σ (.nm b y::jE x y σ σ.ord) v1 v2 v3 v4 v5 te w w' S1 N cs)
def OW.next {b:List Wr} (h:OW S e D σ b v1 v2 v3 v4 v5 te w W S1 N cs) (a:zB W R):OW S e D σ b v1 v2 v3 v4 v5 te w R S1 N cs:=
 ⟨h.s0,h.s1,h.ph.next a,h.bk.later h.ph.still a,h.ks.t (Ks.of a)⟩
def Hi (x y:By) (h:cK w S e D σ v1 v2 v3 v4 v5 te) (hE:∀ W,Ks (λq=>q=e\/D q) w W->Env W) (Eb:σ.ord.Nodup) (hl:σ.ord.length<=100) (hb:b∈σ.ord) (hx:(σ.mem b).nm=x) (hxn:x≠[]) (hy:(G y)<=100) :
  zC prog 168 #[zJ e,zJ b,zG y] w (aek S e D σ b x y v1 v2 v3 v4 v5 te w):=by
 have hDb:=h.sub b hb;have HPH:=I h;have HE:=I hE;have HND:=I Eb;obtain ⟨fa,fl,fc,Ts,_⟩:=(h.bX b hDb).open;obtain ⟨⟨j0,_⟩,_,_⟩:=fP Ts;rw [hx] at j0;have HPN:=I ((aa4 h hDb y).m (R':=λr w1=>∃ N cs,r=.returned (.func (.func N) #[] cs)/\Hid (∃ S1,OW S e D σ [.nm b y] v1 v2 v3 v4 v5 te w w1 S1 N cs)) (by
  rintro r w1 ⟨N,cs,S1,rfl,q0,q1,q2,q3,q4⟩;exact ⟨N,cs,rfl,S1,q0,λq hq=>(q1 q hq).imp id λh=>h.1,q2,q3,q4⟩))
 clear h hE Eb Ts;go_in;go_wp2_with (go_at_call 199;refine mo HPN.o ?_;rintro r w1 ⟨N,cs,rfl,C1⟩);obtain ⟨S1,hI⟩:=C1.o;obtain ⟨a,c,r1,r2,r3,r4⟩:=hI.ph.row;have r1':jQ w1 S1 a σ.ord:=r1;have r4':w1.heap[e]?=some (.cells #[.slice a σ.ord.length c,v1,v2,v3,v4,v5] te (0,0)):=r4;obtain ⟨⟨h0,C,Y,h3,h4,h5⟩,⟨y0,y1,y2,y3,y4,y5⟩,arv⟩:=bJ r4';have HI:=I hI;have HRA:=I r1';clear C1 hI r1 r2 r3 r4 r1' r4' HPN;apply I;go_wp2_with fail;go_loopg [9,11,12,13,28] σ.ord.length (λgk s9 _ _ _ s28 wr=>∃ (j:Nat) (S2:Nat->Prop) (N2:Nat) (cs2:Array zV),j<=σ.ord.length/\σ.ord.length<=j+gk/\s28=zI j/\s9=.func (.func N2) #[] cs2/\Hid (OW S e D σ (.nm b y::jE x y σ (σ.ord.take j)) v1 v2 v3 v4 v5 te w wr S2 N2 cs2)/\Hid (jQ wr S2 a σ.ord)/\Hid (∀ i (h:i<σ.ord.length),i<j->pM x y (σ.mem σ.ord[i]).p=false))
 case atStart=>exact ⟨0,S1,N,cs,bE _,ae,rfl,rfl,HI.o,HRA.o,λi hi h=>ae⟩
 case round=>
  obtain ⟨j,S2,N2,cs2,hj,xA,rfl,rfl,f,HR,HL⟩:=hrel;by_cases hlt:j<σ.ord.length
  ·have alj:(j:Int)<(σ.ord.length:Int):=ae;obtain ⟨g,o,rfl,hgS,hp⟩:=HR.o j hlt;have hqo:σ.ord[j]∈σ.ord:=bt hlt;have hDq:D σ.ord[j]:=HPH.o.sub _ hqo;have H:=(uN x y σ (σ.ord.take j) (kx σ (.nm b y)) (HND.o.sublist (List.take_sublist _ _)) (λq hq=>by
    by_cases e':q=b
    ·exact XU
    ·rw [show (kx σ (.nm b y)).mem q=σ.mem q from dM _ _ _ _ e'])).2 σ.ord[j]
   have nN:σ.ord[j]∉σ.ord.take j:=λhm=>by
    obtain ⟨i,hi,e'⟩:=e9 hm;have hi':i<j:=zM;rw [List.getElem_take] at e';exact sW.1 HND.o i j ae hlt hi' e'
   rw [aA nN] at H;have hpq:((aU (.nm b y::jE x y σ (σ.ord.take j)) σ).mem σ.ord[j]).p=(σ.mem σ.ord[j]).p:=by
    show ((aU (jE x y σ (σ.ord.take j)) (kx σ (.nm b y))).mem σ.ord[j]).p=_;rw [H];by_cases e':σ.ord[j]=b
    ·rw [e',show (kx σ (.nm b y)).mem b=⟨y,(σ.mem b).p,(σ.mem b).v⟩ from fN _ _ _]
    ·rw [show (kx σ (.nm b y)).mem σ.ord[j]=σ.mem σ.ord[j] from dM _ _ _ _ e']
   have hF:=f.o.ph.bX _ hDq;have hFl:=hF.lt;obtain ⟨_,yP,hgd,htx,a2,l2,c2,z,hP2⟩:=hF;rw [hpq] at yP hgd htx z hP2;obtain ⟨⟨k0,k1,k2,k3,k4,k5,k6⟩,OJ,_⟩:=fP z;have t:=I (OV x y σ (σ.ord.take j) σ.ord[j]);rw [show σ.ord.take j++[σ.ord[j]]=σ.ord.take (j+1) from aay] at t;have alp:=I hqo;have HLj:=I (show pM x y (σ.mem σ.ord[j]).p=false->∀ i (h:i<σ.ord.length),i<j+1->pM x y (σ.mem σ.ord[i]).p=false from λh0 i hi Zo=>by
    by_cases e':i=j
    ·subst e';exact h0
    ·exact HL.o i hi ae)
   clear H nN hpq hqo;generalize σ.ord[j]=q at *;generalize hpp:(σ.mem q).p=p at *;have E:=I (jh x p a2 l2 c2 wr hP2 f.o.ph.still);have K:=I (λW (u:zB wr W)=>Hj x y p a2 l2 c2 W (hP2.next λk d=>u.block k (f.o.ph.still k d)) (λk d=>bG (f.o.ph.still k d) u.size) yP (HE.o W (f.o.ks.t (Ks.of u))) (jR x y p hgd) (by have:=mY x y hxn p;have C:(txt p).length*(G y+1)<=100*101:=Nat.mul_le_mul htx ae;omega));have OX:=I z;by_cases hm:aC x p=true
   ·rw [hm] at E;by_cases l:100<(txt (aR x y p)).length
    ·have heg:=f.o.bk.enters;have alr:=I (λW (u:zB wr W)=>(K.o W u).m (R':=λr w4=>r=.returned (.tuple #[.agg #[zI 0,zG [],zI 0,zN],zI 7])/\zB W w4) (by
      rintro r w4 ⟨C,⟨_,rfl⟩|⟨Y,_⟩⟩
      ·exact ⟨rfl,C⟩
      ·exact absurd l Y))
     have als:=I (λW (u:zB wr W)=>Cz (v1:=v1) (v2:=v2) (v3:=v3) (v4:=v4) (v5:=v5) (te:=te) f.o.bk W S2 _ (λk d=>⟨d,u.block k (f.o.ph.still k d)⟩) (f.o.ph.next u));have X:=I (show pM x y p=true by simp [pM,hm,l]);clear z OJ K l;go_wp2_with (first|(go_at_call 195;refine E.o.m ?_;rintro r w3 ⟨rfl,m⟩;have n:=I m;obtain ⟨⟨k0,k1,k2,k3,k4,k5,k6⟩,_,_⟩:=fP ((m.block _ hFl).t OX.o);clear m)|(go_at_call 200;refine (alr.o _ n.o).m ?_;rintro r w4 ⟨rfl,B⟩;have J:=I (n.o.t (B.m n.o.size));clear B));refine (als.o _ (J.o.t ((bZ _).m J.o.size))).m ?_;rintro r Z ⟨V,s,U,rfl,L⟩;have HR5:=I L;clear L;go_wp2;refine aK (v:=.tuple #[.nilFunc,zI 7]) aam gN ?_;obtain ⟨p0,p1,JV,_,P⟩:=HR5.o;rw [lV] at JV;have hsz:=f.o.ks.size;have hs4:=J.o.size;refine Or.inl ⟨⟨q,alp.o,by rw [hpp];exact X.o⟩,rfl,U,λk d=>p0 k (f.o.s0 k d),λk d=>?_,JV,(f.o.ks.t (Ks.of (J.o.t ((bZ _).m J.o.size)))).t P⟩;rcases p1 k d with C|C
     ·exact f.o.s1 k C
     ·have:=C.1;simp at this;exact Or.inr ae
    ·have M:=I (show pM x y p=false by simp [pM,hm];omega);have R:=I (show ∀ W,zB wr W->zC prog 200 #[.agg #[zI p.k,zG p.nm,zI p.n,.slice a2 l2 c2],zG x,zG y] W λr w4=>∃ k' T n' a4 l4 c4,r=.returned (.tuple #[.agg #[zI k',.string T,zI n',.slice a4 l4 c4],zI 0])/\Hid (∀ W4,zB w4 W4->zC prog 162 #[.pointer (some ⟨q,1,none⟩),.agg #[zI k',.string T,zI n',.slice a4 l4 c4]] W4 λr Z=>∃ V s,r=.returned (.func (.func V) #[] s)/\Hid (zC prog 72 #[zS Z.heap.size 2 2] (Z.alloc (.cells #[.func (.func N2) #[] cs2,.func (.func V) #[] s] 151)) λr w6=>∃ N6 A,r=.returned (.func (.func N6) #[] A)/\Hid (∃ S6,OW S e D σ (.nm b y::jE x y σ (σ.ord.take (j+1))) v1 v2 v3 v4 v5 te w w6 S6 N6 A/\jQ w6 S6 (some ⟨g,o,none⟩) σ.ord))) from λW u=>by
      refine (K.o W u).m ?_;rintro r w4 ⟨B,⟨C,_⟩|⟨_,a4,l4,c4,rfl,hP4⟩⟩
      ·exact absurd C l
      ·refine ⟨_,_,_,a4,l4,c4,rfl,λW4 lX=>?_⟩;have F:zB wr W4:=(u.t (B.m u.size)).t (lX.m (bf u.size B.size));have agT:=f.o.ks.size;have JY:=u.size;have arw:=B.size;have aoy:=lX.size;have od:=f.o.ph.lt;have hp4:cK W4 (λk=>S2 k\/(W.heap.size<=k/\k<w4.heap.size)) e D (aU (.nm b y::jE x y σ (σ.ord.take j)) σ) v1 v2 v3 v4 v5 te:=(f.o.ph.next F).wide (λk d=>Or.inl d) λk d=>d.imp id λh=>⟨ae,ae,λhD=>by have:=(f.o.ph.bX k hD).lt;omega⟩;refine (aa2 hp4 hDq (aR x y p) a4 l4 c4 ((hP4.next λk d=>lX.block k d.2).wide λk d=>Or.inr d) (iN x y p yP) (jR x y p hgd) ae).m ?_;rintro r Z ⟨V,s,U,rfl,q0,q1,q2,q3,q4⟩;refine ⟨V,s,rfl,?_⟩;have P:Ks (λk=>k=e\/D k) w Z:=(f.o.ks.t (Ks.of F)).t q4;have OQ:=Bc (S:=U) (O:=λk=>Z.heap.size<=k) (w:=Z) (W:=Z) (N1:=N2) (cs1:=cs2) (N2:=V) (cs2:=s) (λk d=>d) (ws1:=.nm b y::jE x y σ (σ.ord.take j)) (ws2:=[.rl q (aR x y p)]) (σ:=σ) (S1:=U) (by rw [lH];exact q2) (λk d=>d) (λk d=>Or.inl d) (((f.o.bk.next (λk d=>(q4.block k (bG (f.o.ph.still k d) F.size) (f.o.ph.notP k d)).t (F.block k (f.o.ph.still k d)))).wide (λk d=>q0 k (Or.inl d)) λ_ h=>h)) q3 (Ks.refl _ _);refine (OQ.all ae (λk d=>by simp at d;show Z.heap.size<=k;omega)).m ?_;rintro r w6 ⟨⟨N6,A,S6,rfl,p0,p1,hp6,Q,hk6⟩,hb6⟩;have hws:(.nm b y::jE x y σ (σ.ord.take j))++[.rl q (aR x y p)]=.nm b y::jE x y σ (σ.ord.take (j+1)):=by
        rw [t.o,aB hm,gT]
       rw [hws] at hp6 Q;refine ⟨N6,A,rfl,S6,⟨λk d=>p0 k (q0 k (Or.inl (f.o.s0 k d))),λk d=>?_,hp6,Q,P.t hk6⟩,?_⟩
       ·rcases p1 k d with C|C
        ·rcases q1 k C with (Y|Y)|Y
         ·exact f.o.s1 k Y
         ·exact Or.inr ae
         ·exact Or.inr (by have:=Y.1;omega)
        ·have h3:=C.1;have:=P.size;exact Or.inr (bf this h3)
       ·have hr5:jQ Z U (some ⟨g,o,none⟩) σ.ord:=(HR.o.next λk d=>(q4.block k (bG (f.o.ph.still k d) F.size) (f.o.ph.notP k d)).t (F.block k (f.o.ph.still k d))).wide λk d=>q0 k (Or.inl d);exact (hr5.next λk d=>hk6.block k (q2.still k d) (q2.notP k d)).wide p0)
     clear z OJ K l;go_wp2_with (first|(go_at_call 195;refine E.o.m ?_;rintro r w3 ⟨rfl,m⟩;have n:=I m;obtain ⟨⟨k0,k1,k2,k3,k4,k5,k6⟩,_,_⟩:=fP ((m.block _ hFl).t OX.o);clear m)|(go_at_call 200;refine (R.o _ n.o).m ?_;rintro r w4 ⟨k',T,n',a4,l4,c4,rfl,C4⟩));clear R E
     go_region_with (first|(go_at_call 162;refine (C4.o _ (bZ _).drew).m ?_;rintro r Z ⟨V,s,rfl,C5⟩)|(go_at_call 72;refine C5.o.m ?_;rintro r w6 ⟨N6,A,rfl,C6⟩))
     all_goals go_wp2
     all_goals go_roundg (σ.ord.length - (j+1))
     all_goals try (case measure=>omega)
     all_goals (
      obtain ⟨S6,h6,h7⟩:=C6.o;exact ⟨j+1,S6,N6,A,ae,ae,ez,rfl,h6,h7,HLj.o M.o⟩)
   ·have hm':aC x p=false:=Oy;rw [hm'] at E;clear z OJ K;go_wp2_with (go_at_call 195;refine E.o.m ?_;rintro r w3 ⟨rfl,m⟩;have n:=I m;clear m);go_roundg (σ.ord.length - (j+1))
    case measure=>omega
    case rel=>
     refine ⟨j+1,S2,N2,cs2,ae,ae,ez,rfl,?_,HR.o.next λk d=>n.o.block k (f.o.ph.still k d),HLj.o (by simp [pM,hm'])⟩;rw [t.o,aA hm,iq];exact f.o.next n.o
  ·have alj:¬ (j:Int)<(σ.ord.length:Int):=ae;obtain rfl:j=σ.ord.length:=ae;go_wp2;refine aK (v:=.tuple #[.func (.func N2) #[] cs2,zI 0]) aam gN ?_;refine Or.inr ⟨λq hq=>?_,N2,cs2,S2,rfl,?_⟩
   ·obtain ⟨i,hi,rfl⟩:=e9 hq;exact HL.o i hi hi
   ·have:=f.o;rw [tq] at this;exact this
end
def GF (fs:List Fd):Prop:=GS (aT fs)
def xQ (fs:List Fd):((aT fs).map Prod.fst).Nodup:=by
 have:(aT fs).map Prod.fst=List.range (G fs):=by
  unfold aT;rw [fM];apply rC
  ·simp
  ·intro i b a;simp
 rw [this];exact List.nodup_range
def RZ {gs:List (Nat × Fd)} (d:(gs.map Prod.fst).Nodup):GS gs↔GF (gs.map Prod.snd):=by
 unfold GF;rw [<- xL gs d];have b:∀ φ:Nat->Nat,(gs.map (cV φ)).map (λg=>g.2.nm)=gs.map λg=>g.2.nm:=λφ=>by simp [cV,ry]
 constructor
 ·intro h;refine ⟨by rw [xL gs d];exact xQ _,by rw [b];exact h.nn,⟨?_,?_⟩,?_,?_⟩
  ·exact jz.2 (h.vT.1.imp λh=>h)
  ·intro g a;obtain ⟨x,c,rfl⟩:=bU.1 a;exact h.vT.2 x c
  ·intro g a;obtain ⟨x,c,rfl⟩:=bU.1 a;exact h.shp x c
  ·intro g a;obtain ⟨x,c,rfl⟩:=bU.1 a;rw [Ii];exact h.val x c
 ·intro h;refine ⟨d,by rw [<- b];exact h.nn,⟨?_,λg a=>h.vT.2 (cV _ g) (iJ a)⟩,λg a=>h.shp (cV _ g) (iJ a),λg a=>?_⟩
  ·exact (jz.1 h.vT.1).imp λh=>h
  ·have:=h.val (cV _ g) (iJ a);rw [Ii] at this;exact this
def vV (gs:List (Nat × Fd)) (V:Nat->Vl):((eR gs V).map Prod.snd).map (λf=>(f.nm,f.p))=(gs.map Prod.snd).map λf=>(f.nm,f.p):=by
 simp [eR,ry]
def qp (A B:List Fd) (f:Fd) (l:List Fd) (u:List By) (D:((A++f::B).map λg=>g.nm).Nodup) (C:(aT (A++f::B)).Pairwise (λg h=>g.1=G A\/h.1=G A\/NM g h)) (hs:∀ g,g∈A++B->aC g.nm g.p=false) (w:∀ g,g∈A++f::B->Shape g.p)
  (E:∀ g,g∈A++B->aC f.nm g.p=false->g.v=cD (mW (aT (A++f::B))) g.p) (h:fq (A++f::B) (G A) f=.ok l u) :
  GF l/\(G l)=(A++f::B).length/\(l.map λg=>(g.nm,g.p)).Perm ((A++f::B).map λg=>(g.nm,g.p)):=by
 unfold fq at h;cases p:dL (aT (A++f::B)) (G A) (G A,f) with
 | dZ H=>rw [p] at h;cases h
 | ok gs=>
  rw [p] at h;simp only [AR.ok.injEq] at h;obtain ⟨z,F⟩:=h;have y:(aT (A++f::B))[G A]?=some (G A,f):=by
   rw [qE _ _ aq];simp
  obtain ⟨c,o⟩:=uL y;have j:∀ g,g∈(aT (A++f::B)).take (G A)++(aT (A++f::B)).drop (G A+1)->g.2∈A++B/\g.1≠(G A)/\g∈aT (A++f::B):=λg d=>by
   rcases cG.1 d with d|d
   ·obtain ⟨i,hi,e⟩:=e9 d;have t:i<(G A):=zM;have N4:i<(A++f::B).length:=aN;rw [List.getElem_take] at e;have k:=qE (A++f::B) i N4;rw [cU aaT,e] at k;simp only [rB] at k;subst k;refine ⟨?_,Cp,lS d⟩;rw [yj t];simp
   ·obtain ⟨i,hi,e⟩:=e9 d;have N4:(G A)+1+i<(A++f::B).length:=by simp [eA] at hi ⊢;omega
    rw [List.getElem_drop] at e;have k:=qE (A++f::B) (G A+1+i) N4;rw [cU aaT,e] at k;simp only [rB] at k;subst k;refine ⟨?_,Cp,lD d⟩;rw [Bt ae];have:(G A)+1+i - G A=i+1:=ae;simp [this]
  have r:dL ((aT (A++f::B)).take (G A)++(G A,f)::(aT (A++f::B)).drop (G A+1)) ((aT (A++f::B)).take (G A)).length (G A,f)=.ok gs:=by rw [o,<- c];exact p
  have v:(((aT (A++f::B)).take (G A)++(G A,f)::(aT (A++f::B)).drop (G A+1)).map λg=>g.2.nm).Nodup:=by
   rw [<- c];have:(aT (A++f::B)).map (λg=>g.2.nm)=((aT (A++f::B)).map Prod.snd).map λg=>g.nm:=aq;rw [this,cW];exact D
  obtain ⟨V,e1,k,x⟩:=KW ((aT (A++f::B)).take (G A)) ((aT (A++f::B)).drop (G A+1)) gs (G A,f) (by rw [<- c];exact xQ _) v (by
   have m:List.Sublist ((aT (A++f::B)).take (G A)++(aT (A++f::B)).drop (G A+1)) (aT (A++f::B)):=by
    conv=>rhs;rw [c]
    exact List.Sublist.append (yr _) (List.sublist_cons_self _ _)
   refine (C.sublist m).imp_of_mem λ{a b} ha hb hab=>?_;rcases hab with n|n|n
   ·exact absurd n (j a ha).2.1
   ·exact absurd n (j b hb).2.1
   ·exact n) (λg d=>hs g.2 (j g d).1) (λg d=>by
   rw [<- c] at d;refine w g.2 ?_;have:=iJ (f:=Prod.snd) d;rw [cW] at this;exact this) (λg d q=>by
   rw [<- c];exact E g.2 (j g d).1 q) r
  rw [e1] at z;subst z;rw [<- c] at x;have s:((eR gs V).map Prod.fst).Nodup:=k.nb;refine ⟨(RZ s).1 k,?_,?_⟩
  ·simp only [fy,eR];rw [x.length_eq,eA]
  ·rw [vV];have:=(x.map Prod.snd).map λf=>(f.nm,f.p);rw [cW] at this;exact this
structure Ab where
 M:Nat
 fs:List Fd
 past:List (List Fd)
 jr:List (List Fd)
 dV:Option (List Fd)
def mr (D:Nat->Prop) (σ τ:bg):Prop:=σ.ord=τ.ord/\∀ q,D q->σ.mem q=τ.mem q
def mM (D:Nat->Prop):Wr->Prop
 | .ord l=>∀ b,b∈l->D b
 | .nm b _=>D b
 | .rl b _=>D b
 | .vl b _=>D b
def cO.Fm {e:Nat} {D:Nat->Prop} {w:zW} {S:Nat->Prop} {N:Nat} {cs:Array zV} {us:List Wr} (h:cO e D w S N cs us):∀ u,u∈us->mM D u:=by
 induction h with
 | ord s q a c l j k o m f y B t=>intro u d;rw [iB.1 d];exact t
 | nm s q b x j k o m f=>intro u d;rw [iB.1 d];exact f
 | rl s q b p a l c j k o m f y B t z=>intro u d;rw [iB.1 d];exact z
 | vl s q b v j k o m f=>intro u d;rw [iB.1 d];exact f
 | all g a n c N cs us j k o m f y _ A=>
  intro u d;obtain ⟨i,C,r⟩:=List.mem_flatMap.1 d;exact A i (List.mem_range.1 (wy.1 C)) u r
def mM.wide {D c:Nat->Prop} (a:∀ q,D q->c q):∀ {u:Wr},mM D u->mM c u
 | .ord _,h=>λb d=>a b (h b d)
 | .nm _ _,h=>a _ h
 | .rl _ _,h=>a _ h
 | .vl _ _,h=>a _ h
def mr.refl (D:Nat->Prop) (σ:bg):mr D σ σ:=⟨rfl,λ_ _=>rfl⟩
def xd {D:Nat->Prop} {σ τ:bg} (h:mr D σ τ) (b:Nat) (f g:Fd) (a:f=g):mr D (σ.put b f) (τ.put b g):=by
 subst a;refine ⟨h.1,λq c=>?_⟩;by_cases e:q=b
 ·subst e;rw [fN,fN]
 ·rw [dM _ _ _ _ e,dM _ _ _ _ e];exact h.2 q c
def PY {D:Nat->Prop} {σ τ:bg} (h:mr D σ τ) (u:Wr) (hu:mM D u):mr D (kx σ u) (kx τ u):=by
 cases u with
 | ord l=>exact ⟨rfl,h.2⟩
 | nm b x=>exact xd h b _ _ Ou
 | rl b x=>exact xd h b _ _ Ou
 | vl b x=>exact xd h b _ _ Ou
def uj {D:Nat->Prop}:∀ (us:List Wr) {σ τ:bg},mr D σ τ->(∀ u,u∈us->mM D u)->mr D (aU us σ) (aU us τ)
 | [],_,_,h,_=>h
 | u::r,_,_,h,a=>uj r (PY h u (a u aq)) λv b=>a v (by simp [b])
def mr.fs {D:Nat->Prop} {σ τ:bg} (h:mr D σ τ) (hs:∀ b,b∈σ.ord->D b):σ.fs=τ.fs:=by
 unfold bg.fs;rw [<- h.1];exact sB λq a=>by rw [h.2 q (hs q a)]
structure xe (D:Nat->Prop) (σ:bg):Prop where
 nd:σ.ord.Nodup
 sub:∀ b,b∈σ.ord->D b
 gf:GF (σ.fs.map Prod.snd)
 len:σ.ord.length<=10
 xX:∀ f,f∈σ.fs.map Prod.snd->f.nm≠[]/\(G f.nm)<=6
def xe.agree {D c:Nat->Prop} {σ τ:bg} (h:xe D σ) (a:mr D σ τ) (f:∀ q,D q->c q):xe c τ:=by
 have d:=a.fs h.sub;exact ⟨a.1▸h.nd,λb e=>f b (h.sub b (a.1.symm▸e)),d▸h.gf,a.1▸h.len,d▸h.xX⟩
def vF (D:Nat->Prop):bg->List (List Wr)->List (List Fd)->Prop
 | _,[],[]=>True
 | σ,us::r,o::p=>(∀ u,u∈us->mM D u)/\(aU us σ).fs.map Prod.snd=o/\xe D (aU us σ)/\vF D (aU us σ) r p
 | _,_,_=>False
def vF.agree {D d:Nat->Prop} (b:∀ q,D q->d q):∀ {l:List (List Wr)} {p:List (List Fd)} {σ τ:bg},vF D σ l p->mr D σ τ->vF d τ l p
 | [],[],_,_,_,_=>trivial
 | us::r,o::p,σ,τ,h,j=>by
  obtain ⟨c,f,e,i⟩:=h;have a:=uj us j c;exact ⟨λu g=>(c u g).wide b,by rw [<- a.fs e.sub];exact f,e.agree a b,i.agree b a⟩
 | [],_::_,_,_,h,_=>h.elim
 | _::_,[],_,_,h,_=>h.elim
def vF.take {D:Nat->Prop}:∀ (n:Nat) {l:List (List Wr)} {p:List (List Fd)} {σ:bg},vF D σ l p->vF D σ (l.take n) (p.take n)
 | 0,_,_,_,_=>trivial
 | n+1,[],[],_,_=>trivial
 | n+1,us::r,o::p,σ,h=>⟨h.1,h.2.1,h.2.2.1,h.2.2.2.take n⟩
 | _+1,[],_::_,_,h=>h.elim
 | _+1,_::_,[],_,h=>h.elim
structure mE (a:Ab) (D:Nat->Prop) (σ:bg) (dn ud gr:List (List Wr)):Prop where
 gs:xe D σ
 fs:a.fs=σ.fs.map Prod.snd
 gw:∀ u,u∈fY gr->mM D u
 ok:match a.dV with
  | none=>gr=[]/\vF D σ dn.reverse a.past/\vF D σ ud.reverse a.jr
  | some g=>xe D (aU (fY gr) σ)/\g=(aU (fY gr) σ).fs.map Prod.snd/\vF D (aU (fY gr) σ) dn.reverse a.past/\vF D (aU (fY gr) σ) ud.reverse a.jr
def Dd (M:Nat) (a:List (List Wr)) (us:List Wr) (h:(G a)<=M):(kD M a us).reverse=(us::a.reverse).take M:=by
 unfold kD;split
 ·rename_i c;have b:(G a)=M:=ae;cases a with
  | nil=>
   simp at b;subst b;rfl
  | cons d r=>
   simp only [gT,List.eraseIdx_cons_zero,rj,List.reverse_cons,List.reverse_nil,ko];rw [<- b];simp
 ·rename_i c;rw [qy aN];simp
def mE.ae8 {a:Ab} {D i:Nat->Prop} {σ σ1:bg} {j p d:List (List Wr)} {b:List Wr} (h:mE a D σ j p d) (f:∀ q,D q->i q) (l:mr D σ σ1) (t:xe i (aU b σ1)) (r:∀ u,u∈dz b σ1->mM i u) (x:(G j)<=a.M) :
  (a.dV=none->mE ⟨a.M,(aU b σ1).fs.map Prod.snd,(a.fs::a.past).take a.M,[],none⟩ i (aU b σ1) (kD a.M j (dz b σ1)) [] d)/\(∀ g,a.dV=some g->mE ⟨a.M,(aU b σ1).fs.map Prod.snd,a.past,a.jr,some g⟩ i (aU b σ1) j p (d++[dz b σ1])):=by
 have c:=h.ok;have z:=l.fs h.gs.sub;have n:xe i σ1:=h.gs.agree l f;refine ⟨λw=>?_,λg hs=>?_⟩
 ·rw [w] at c;obtain ⟨h1,m,v⟩:=c;refine ⟨t,rfl,N5,h1,?_,trivial⟩;rw [Dd a.M j _ x];refine vF.take a.M ⟨r,?_,?_,?_⟩
  ·rw [lV,<- z,h.fs]
  ·rw [lV];exact n
  ·rw [lV];exact m.agree f l
 ·rw [hs] at c;obtain ⟨h1,m,v,y⟩:=c;have e1:fY (d++[dz b σ1])=dz b σ1++fY d:=by simp [fY]
  have k:aU (fY (d++[dz b σ1])) (aU b σ1)=aU (fY d) σ1:=by rw [e1,lH,lV]
  have e:mr D (aU (fY d) σ) (aU (fY d) σ1):=uj _ l h.gw;refine ⟨t,rfl,λu s=>?_,?_,?_,?_,?_⟩
  ·rw [e1] at s;rcases cG.1 s with o|o
   ·exact r u o
   ·exact (h.gw u o).wide f
  ·rw [k];exact h1.agree e f
  ·rw [k,<- e.fs h1.sub];exact m
  ·rw [k];exact v.agree f e
  ·rw [k];exact y.agree f e
def mb (a:Ab):Nat × Ab:=match a.dV with
 | some _=>(9,a)
 | none=>match a.past with
  | []=>(11,a)
  | o::p=>(0,⟨a.M,o,p,a.fs::a.jr,none⟩)
def mf (a:Ab):Nat × Ab:=match a.dV with
 | some _=>(9,a)
 | none=>match a.jr with
  | []=>(11,a)
  | o::p=>(0,⟨a.M,o,a.fs::a.past,p,none⟩)
def BV {D:Nat->Prop}:∀ (us:List Wr) (σ:bg),(∀ u,u∈us->mM D u)->(∀ b,b∈σ.ord->D b)->∀ u,u∈dz us σ->mM D u
 | [],_,_,_,u,c=>by simp [dz] at c
 | v::r,σ,d,hs,u,c=>by
  simp only [dz] at c;have a:=d v aq;rcases cG.1 c with h|h
  ·refine BV r (kx σ v) (λx hx=>d x iE) ?_ u h;cases v with
   | ord l=>exact a
   | nm b x=>exact hs
   | rl b x=>exact hs
   | vl b x=>exact hs
  ·rw [iB.1 h];cases v with
   | ord l=>exact hs
   | nm b x=>exact a
   | rl b x=>exact a
   | vl b x=>exact a
def mE.pS {a:Ab} {D:Nat->Prop} {σ:bg} {b c e:List (List Wr)} (h:mE a D σ b c e):(kE ⟨σ,b,c,e,a.dV.isSome⟩).1=(mb a).1/\(mb a).2.M=a.M/\(mb a).2.dV=a.dV/\(kE ⟨σ,b,c,e,a.dV.isSome⟩).2.op=(mb a).2.dV.isSome/\mE (mb a).2 D (kE ⟨σ,b,c,e,a.dV.isSome⟩).2.σ (kE ⟨σ,b,c,e,a.dV.isSome⟩).2.dn (kE ⟨σ,b,c,e,a.dV.isSome⟩).2.ud (kE ⟨σ,b,c,e,a.dV.isSome⟩).2.gr:=by
 unfold kE mb;cases j:a.dV with
 | some g=>simp [j];exact h
 | none=>
  have f:=h.ok;rw [j] at f;obtain ⟨h1,d,h3⟩:=f;simp only [Option.isSome_none,sY,k8];cases k:b.getLast? with
  | none=>
   have r:b=[]:=List.getLast?_eq_none_iff.1 k;subst r;cases i:a.past with
   | nil=>simp [j];exact h
   | cons o p=>rw [i] at d;exact d.elim
  | some us=>
   obtain ⟨l,rfl⟩:=List.getLast?_eq_some_iff.1 k;rw [rj] at d;cases i:a.past with
   | nil=>rw [i] at d;exact d.elim
   | cons o p=>
    rw [i] at d;obtain ⟨k1,m,q,n⟩:=d;refine ⟨rfl,rfl,rfl,rfl,q,m.symm,N5,h1,?_,?_⟩
    ·simp only [Bz];exact n
    ·exact WR
def mE.pT {a:Ab} {D:Nat->Prop} {σ:bg} {c b e:List (List Wr)} (h:mE a D σ c b e):(kF ⟨σ,c,b,e,a.dV.isSome⟩).1=(mf a).1/\(mf a).2.M=a.M/\(mf a).2.dV=a.dV/\(kF ⟨σ,c,b,e,a.dV.isSome⟩).2.op=(mf a).2.dV.isSome/\mE (mf a).2 D (kF ⟨σ,c,b,e,a.dV.isSome⟩).2.σ (kF ⟨σ,c,b,e,a.dV.isSome⟩).2.dn (kF ⟨σ,c,b,e,a.dV.isSome⟩).2.ud (kF ⟨σ,c,b,e,a.dV.isSome⟩).2.gr:=by
 unfold kF mf;cases j:a.dV with
 | some g=>simp [j];exact h
 | none=>
  have f:=h.ok;rw [j] at f;obtain ⟨h1,h3,d⟩:=f;simp only [Option.isSome_none,sY,k8];cases k:b.getLast? with
  | none=>
   have r:b=[]:=List.getLast?_eq_none_iff.1 k;subst r;cases i:a.jr with
   | nil=>simp [j];exact h
   | cons o p=>rw [i] at d;exact d.elim
  | some us=>
   obtain ⟨l,rfl⟩:=List.getLast?_eq_some_iff.1 k;rw [rj] at d;cases i:a.jr with
   | nil=>rw [i] at d;exact d.elim
   | cons o p=>
    rw [i] at d;obtain ⟨k1,m,q,n⟩:=d;refine ⟨rfl,rfl,rfl,rfl,q,m.symm,N5,h1,?_,?_⟩
    ·exact WR
    ·simp only [Bz];exact n
def mE.begin {a:Ab} {D:Nat->Prop} {σ:bg} {d c e:List (List Wr)} (h:mE a D σ d c e) (g:a.dV=none):mE ⟨a.M,a.fs,a.past,a.jr,some a.fs⟩ D σ d c e:=by
 have b:=h.ok;rw [g] at b;obtain ⟨f,i,j⟩:=b;subst f;exact ⟨h.gs,h.fs,h.gw,h.gs,h.fs,i,j⟩
def mE.kW {a:Ab} {D:Nat->Prop} {σ:bg} {c e d:List (List Wr)} {g:List Fd} (h:mE a D σ c e d) (i:a.dV=some g) (j:(G c)<=a.M):mE ⟨a.M,a.fs,(g::a.past).take a.M,[],none⟩ D σ (kD a.M c (fY d)) [] []:=by
 have b:=h.ok;rw [i] at b;obtain ⟨f,k,l,m⟩:=b;refine ⟨h.gs,h.fs,by simp [fY],rfl,?_,trivial⟩;rw [Dd a.M c _ j];exact vF.take a.M ⟨h.gw,k.symm,f,l⟩
def mE.cancel {a:Ab} {D:Nat->Prop} {σ:bg} {d c e:List (List Wr)} {g:List Fd} (h:mE a D σ d c e) (i:a.dV=some g):mE ⟨a.M,g,a.past,a.jr,none⟩ D (aU (fY e) σ) d c []:=by
 have b:=h.ok;rw [i] at b;obtain ⟨f,k,l,j⟩:=b;exact ⟨f,k,by simp [fY],rfl,l,j⟩
section
def zj {D:Nat->Prop}:∀ (us:List Wr) {σ:bg},(∀ b,b∈σ.ord->D b)->(∀ u,u∈us->mM D u)->∀ b,b∈(aU us σ).ord->D b
 | [],_,h,_=>h
 | u::r,σ,h,a=>zj r (σ:=kx σ u) (by
   have c:=a u aq;cases u with
   | ord l=>exact c
   | nm b x=>exact h
   | rl b x=>exact h
   | vl b x=>exact h) λv d=>a v (by simp [d])
def xe.other {D Z:Nat->Prop} {σ:bg} (h:xe D σ) (hs:∀ b,b∈σ.ord->Z b):xe Z σ:=⟨h.nd,hs,h.gf,h.len,h.xX⟩
def vF.other {D Z:Nat->Prop}:∀ {l:List (List Wr)} {p:List (List Fd)} {σ:bg},vF D σ l p->(∀ b,b∈σ.ord->Z b)->(∀ us,us∈l->∀ u,u∈us->mM Z u)->vF Z σ l p
 | [],[],_,_,_,_=>trivial
 | us::r,o::p,σ,h,hs,c=>by
  obtain ⟨j,d,i,g⟩:=h;have a:=zj us hs (c us aq);exact ⟨c us aq,d,i.other a,g.other a λf e=>c f (by simp [e])⟩
 | [],_::_,_,h,_,_=>h.elim
 | _::_,[],_,h,_,_=>h.elim
def UB {a:List (List Wr)} {u:Wr} (h:u∈fY a):∃ us,us∈a/\u∈us:=by
 unfold fY at h;obtain ⟨us,c,b⟩:=List.mem_flatten.1 h;exact ⟨us,wy.1 c,b⟩
def mE.other {a:Ab} {D Z:Nat->Prop} {σ:bg} {m l i:List (List Wr)} (h:mE a D σ m l i) (hs:∀ b,b∈σ.ord->Z b) (o:∀ us,us∈m->∀ u,u∈us->mM Z u) (n:∀ us,us∈l->∀ u,u∈us->mM Z u) (q:∀ us,us∈i->∀ u,u∈us->mM Z u):mE a Z σ m l i:=by
 have j:∀ u,u∈fY i->mM Z u:=λu e=>by
  obtain ⟨us,f,k⟩:=UB e;exact q us f u k
 refine ⟨h.gs.other hs,h.fs,j,?_⟩;have c:=h.ok;cases p:a.dV with
 | none=>
  rw [p] at c;obtain ⟨e,f,k⟩:=c;exact ⟨e,f.other hs λus h=>o us (wy.1 h),k.other hs λus h=>n us (wy.1 h)⟩
 | some g=>
  rw [p] at c;obtain ⟨e,f,k,r⟩:=c;have d:=zj (fY i) hs j;exact ⟨e.other d,f,k.other d λus h=>o us (wy.1 h),r.other d λus h=>n us (wy.1 h)⟩
variable {S S' S1 O:Nat->Prop} {e k:Nat} {D Z F F' P R T:Nat->Prop} {σ σ0 σ1:bg} {v0 v1 v2 v3 v4 v5 v v':zV} {te:TypeId} {w w' W w1 w2 w3:zW} {V:List (List Wr)} {N:Nat->Nat} {cs:Nat->Array zV} {M:Nat} {U Q X:zV} {dn ud gr:List (List Wr)} {op:Bool} {N1:Nat} {cs1:Array zV} {us:List Wr} {a:Ab}
def dP.Fm (h:dP w S e D v V N cs):∀ us,us∈V->∀ u,u∈us->mM D u:=λus a u c=>by
 obtain ⟨i,b,rfl⟩:=e9 a;have:=(h.bk i b).Fm u;rw [lC,cU b] at this;exact this c
def fx.rep (h:fx w e S D σ M U Q X dn ud gr op) (d:mE a Z σ dn ud gr):mE a D σ dn ud gr:=by
 obtain ⟨_,_,c⟩:=h.rd;obtain ⟨_,_,b⟩:=h.ru;obtain ⟨_,_,f⟩:=h.rg;exact d.other h.ph.sub c.Fm b.Fm f.Fm
def eG (w:zW) (e:Nat) (F:Nat->Prop) (k:Nat) (a:Ab):Prop:=
 ∃ S D σ U Q X dn ud gr,fx w e S D σ a.M U Q X dn ud gr a.dV.isSome/\mE a D σ dn ud gr/\(G gr)<=k/\(∀ q,Ft S e D U Q X q->F q)/\∀ q,F q->q<w.heap.size
def eG.keep (h:eG w e F k a) (f:Ks P w w') (d:∀ q,F q->¬ P q):eG w' e F k a:=by
 obtain ⟨S,D,σ,U,Q,X,dn,ud,gr,g,i,l,c,j⟩:=h;exact ⟨S,D,σ,U,Q,X,dn,ud,gr,g.keep f (λq b=>d q (c q (Or.inl b))) λq b=>d q (c q (Or.inr b)),i,l,c,λq b=>bG (j q b) f.size⟩
def eG.next (h:eG w e F k a) (b:zB w w'):eG w' e F k a:=h.keep (P:=λ_=>False) (Ks.of b) λ_ _ h=>h
def eG.lt (h:eG w e F k a):∀ q,F q->q<w.heap.size:=by obtain ⟨S,D,σ,U,Q,X,dn,ud,gr,c,f,g,d,b⟩:=h;exact b
def eG.more {b:Nat} (h:eG w e F k a) (i:k<=b):eG w e F b a:=by
 obtain ⟨S,D,σ,U,Q,X,dn,ud,gr,c,f,j,d,g⟩:=h;exact ⟨S,D,σ,U,Q,X,dn,ud,gr,c,f,ae,d,g⟩
def gm.at {p o:Nat->Prop} {d c b:List (List Wr)} {i:Bool} {n:bg} (h:gm e p o n a.M d c b i w w') (m:i=a.dV.isSome) (s:mE a D n d c b) (t:(G b)<=k):Ks o w w'/\∃ F',eG w' e F' k a/\∀ q,F' q->p q\/w.heap.size<=q:=by
 obtain ⟨S',Z,f,j,g,l,r,u⟩:=h;subst m;exact ⟨u,Ft S' e Z f j g,⟨S',Z,n,f,j,g,d,c,b,l,l.rep s,t,λ_ h=>h,l.agX⟩,r⟩
def jI (F T:Nat->Prop) (e k:Nat) (a:Ab) (nm:List By) (w:zW) (bn:Option zD) (ln cn:Nat) (w':zW):Prop:=
 ln=G nm/\Ks F w w'/\w'.ownsRow w.heap.size 9 1 (.slice bn ln cn) ln (strs nm)/\∃ F',eG w' e F' k a/\(∀ q,F' q->F q\/w.heap.size<=q)/\(∀ q,(Value.slice bn ln cn).ownBlock=some q->¬ F' q/\¬ T q)/\∀ q,T q->¬ F' q
variable {nm:List By} {bn:Option zD} {ln cn:Nat}
def jI.set (h:jI F T e k a nm w bn ln cn w') {t:Nat} (i:T t) (s:w.heap.size<=t) (j:Nat) (u:zV):jI F T e k a nm w bn ln cn (w'.setCell ⟨t,j,none⟩ u):=by
 obtain ⟨m,c,r,F',o,p,l,g⟩:=h;have b:Ks (λq=>q=t) w' (w'.setCell ⟨t,j,none⟩ u):=(Ks.refl _ _).set t j u rfl;refine ⟨m,⟨b.os.t c.os,b.tape.t c.tape,b.output.t c.output,bf c.size b.size,λq d n=>(b.block q (by have:=c.size;omega) ae).t (c.block q d n)⟩,iy r b λq d f=>(l q d).2 (f▸i),F',o.keep b λq d f=>g t i (f▸d),p,l,g⟩
def jI.less {d:Nat->Prop} (h:jI F T e k a nm w bn ln cn w') (f:∀ q,d q->T q):jI F d e k a nm w bn ln cn w':=by
 obtain ⟨g,l,o,F',j,m,c,n⟩:=h;exact ⟨g,l,o,F',j,m,λq b=>⟨(c q b).1,λi=>(c q b).2 (f q i)⟩,λq b=>n q (f q b)⟩
def jI.base (h:jI P T e k a nm w bn ln cn w') {g:zW} (b:zB g w) (hF:∀ q,P q->F q\/g.heap.size<=q):jI F T e k a nm g bn ln cn w':=by
 obtain ⟨i,d,r,F',j,m,l,o⟩:=h;refine ⟨i,⟨d.os.t b.os,d.tape.t b.tape,d.output.t b.output,bf b.size d.size,λq f p=>(d.block q (by have:=b.size;omega) λn=>?_).t (b.block q f)⟩,dS r b.size,F',j,λq f=>?_,l,o⟩
 ·rcases hF q n with c|c
  ·exact p c
  ·omega
 ·rcases m q f with c|c
  ·exact hF q c
  ·exact Or.inr (bf b.size c)
def ma (a:Ab):Ab:=match a.dV with
 | none=>a
 | some g=>⟨a.M,g,a.past,a.jr,none⟩
def wM (a:Ab) (fs:List Fd):Ab:=match a.dV with
 | none=>⟨a.M,fs,(a.fs::a.past).take a.M,[],none⟩
 | some g=>⟨a.M,fs,a.past,a.jr,some g⟩
def PZ (a:Ab):AR->Ab
 | .ok fs _=>wM a fs
 | .err _ _=>ma a
def AR.code:AR->Nat
 | .ok _ _=>0
 | .err c _=>c
def AR.names:AR->List By
 | .ok _ n=>n
 | .err _ n=>n
def JB (a:Ab):AR->Ab
 | .ok fs _=>wM a fs
 | .err _ _=>a
def eG.cancel (h:eG w e F k a) (l:k<1000000000000):zC prog 49 #[.pointer (some ⟨e,1,none⟩)] w λr w'=>(∃ x,r=.returned (zI x))/\Ks F w w'/\∃ F',eG w' e F' k (ma a)/\∀ q,F' q->F q\/w.heap.size<=q:=by
 obtain ⟨S,D,σ,U,Q,X,dn,ud,gr,b,f,i,h4,j⟩:=h;unfold ma;cases c:a.dV with
 | none=>
  rw [c] at b;refine (Ao b).m ?_;rintro r w' ⟨rfl,d⟩;obtain ⟨h7,F',h8,h9⟩:=d.at (k:=k) (by rw [c];rfl) f i;exact XV
 | some g=>
  rw [c] at b;refine (Am b ae).m ?_;rintro r w' ⟨rfl,d⟩;obtain ⟨h7,F',h8,h9⟩:=gm.at (a:=⟨a.M,g,a.past,a.jr,none⟩) (k:=k) d rfl (f.cancel c) aq;exact XV
def jI.cancel {p:zW} (h:jI F T e k a nm p bn ln cn w) (B:k<1000000000000) (n:∀ q,T q->q<w.heap.size):zC prog 49 #[.pointer (some ⟨e,1,none⟩)] w λr w'=>(∃ x,r=.returned (zI x))/\(∀ q,T q->w'.heap[q]?=w.heap[q]?)/\jI F T e k (ma a) nm p bn ln cn w':=by
 obtain ⟨t,g,s,F',A,o,i,l⟩:=h;refine (A.cancel B).m ?_;rintro r w' ⟨z,d,y,j,f⟩;have u:=g.size;refine ⟨z,λq c=>d.block q (n q c) (l q c),t,⟨d.os.t g.os,d.tape.t g.tape,d.output.t g.output,bf g.size d.size,λq c m=>(d.block q ae λv=>?_).t (g.block q c m)⟩,iy s d λq c=>(i q c).1,y,j,λq c=>?_,λq c=>⟨λh=>?_,(i q c).2⟩,λq c h=>?_⟩
 ·rcases o q v with b|b
  ·exact m b
  ·omega
 ·rcases f q c with b|b
  ·exact o q b
  ·exact Or.inr ae
 ·rcases f q h with b|b
  ·exact (i q c).1 b
  ·have:=(s.lt q c).2;omega
 ·rcases f q h with b|b
  ·exact l q c b
  ·have:=n q c;omega
end
section
def pk (f:Int) (N:Nat):Prop:=∀ (e:Nat) (d:Option zD) (ln cn:Nat) (k:Int) (nm:By) (n:Int) (a:Option zD) (b c:Nat) (w:zW) (Q:Int->zW->Prop) (_:∀ er w1 j u,Q er w1->Q er (w1.setCell ⟨w.heap.size+1,j,none⟩ u))
  (_:∀ W,zB w W->w.heap.size+1<W.heap.size->W.heap[w.heap.size+1]?=some bM->zC prog N #[.pointer (some ⟨e,1,none⟩)] W λr w'=>∃ er:Int,r=.returned (zI er)/\w'.heap[w.heap.size+1]?=some bM/\Q er w'),
  zC prog 47 #[zJ e,.agg #[zI f,.slice d ln cn,zI k,zG nm,zI n,.slice a b c]] w λr w'=>∃ er:Int,r=.returned (.agg #[zI er,zI 0,zG [],zN,zI 0,zI 0])/\Q er w'
def Ip:pk 4 66:=BH
def Em:pk 5 67:=BH
def Eo:pk 6 49:=BH
def K1:pk 7 68:=BH
def K2:pk 8 69:=BH
variable {S S' S1 O:Nat->Prop} {e k:Nat} {D V F Z P R T:Nat->Prop} {σ σ0 σ1:bg} {w w' W w1 w2 w3 U:zW} {a:Ab} {nm:List By} {bn:Option zD} {ln cn:Nat}
def oq (a:Ab):Nat × Ab:=match a.dV with
 | some _=>(9,a)
 | none=>(0,⟨a.M,a.fs,a.past,a.jr,some a.fs⟩)
def mh (a:Ab):Nat × Ab:=match a.dV with
 | some g=>(0,⟨a.M,a.fs,(g::a.past).take a.M,[],none⟩)
 | none=>(10,a)
def mg (a:Ab):Nat × Ab:=match a.dV with
 | some g=>(0,⟨a.M,g,a.past,a.jr,none⟩)
 | none=>(10,a)
def uk (e k:Nat) (F:Nat->Prop) (x:Nat × Ab) (w:zW) (r:Ending) (w':zW):Prop:=r=.returned (zI (x.1:Int))/\Ks F w w'/\∃ Z,eG w' e Z k x.2/\∀ q,Z q->F q\/w.heap.size<=q
def gm.uh {S:Nat->Prop} {g j f:zV} {d b a:List (List Wr)} {m:bg} {M:Nat} {x:Nat × Ab} {r:Ending} (i:gm e (Ft S e D g j f) (jd e D g j f) m M d b a x.2.dV.isSome w w') (o:x.2.M=M) (s:r=.returned (zI (x.1:Int))) (c:mE x.2 D m d b a) (t:(G a)<=k) (l:∀ q,Ft S e D g j f q->F q):uk e k F x w r w':=by
 subst o;obtain ⟨p,Z,u,n⟩:=i.at rfl c t;exact ⟨s,p.wide λq h=>l q (Or.inr h),Z,u,λq h=>(n q h).imp_left (l q)⟩
def eG.pS (h:eG w e F k a):zC prog 68 #[.pointer (some ⟨e,1,none⟩)] w (uk e k F (mb a) w):=by
 obtain ⟨S,D,σ,u,y,t,j,f,p,g,m,d,s,x⟩:=h;refine (ai1 g).m ?_;rintro r w' ⟨n,b⟩;obtain ⟨i,l,v,q,o⟩:=m.pS;rw [q] at b;have c:(kE ⟨σ,j,f,p,a.dV.isSome⟩).2.gr.length<=k:=by
  unfold kE;split
  ·exact d
  ·split
   ·exact d
   ·exact d
 exact b.uh l (by rw [n,i]) o c s
def eG.pT (h:eG w e F k a):zC prog 69 #[.pointer (some ⟨e,1,none⟩)] w (uk e k F (mf a) w):=by
 obtain ⟨S,D,σ,u,y,t,j,f,p,g,m,d,s,x⟩:=h;refine (ai2 g).m ?_;rintro r w' ⟨n,b⟩;obtain ⟨i,l,v,q,o⟩:=m.pT;rw [q] at b;have c:(kF ⟨σ,j,f,p,a.dV.isSome⟩).2.gr.length<=k:=by
  unfold kF;split
  ·exact d
  ·split
   ·exact d
   ·exact d
 exact b.uh l (by rw [n,i]) o c s
def eG.ach (h:eG w e F k a) (s:k<1000000000000):zC prog 49 #[.pointer (some ⟨e,1,none⟩)] w (uk e k F (mg a) w):=by
 obtain ⟨S,D,σ,o,t,n,m,l,p,b,f,j,i,q⟩:=h;unfold mg;cases c:a.dV with
 | none=>
  rw [c] at b;refine (Ao b).m ?_;rintro r w' ⟨rfl,d⟩;exact gm.uh (x:=(10,a)) (by rw [c];exact d) rfl rfl f j i
 | some g=>
  rw [c] at b;refine (Am b ae).m ?_;rintro r w' ⟨rfl,d⟩;exact gm.uh (x:=(0,⟨a.M,g,a.past,a.jr,none⟩)) d rfl rfl (f.cancel c) aq i
def eG.aci (h:eG w e F k a) (B:k<1000000000000):zC prog 67 #[.pointer (some ⟨e,1,none⟩)] w (uk e k F (mh a) w):=by
 have h0:=h;obtain ⟨S,D,σ,y,E,u,t,p,z,b,l,C,m,A⟩:=h;unfold mh;cases d:a.dV with
 | none=>
  rw [d] at b;obtain ⟨G,s,_,_,_,f⟩:=b.ph.row;obtain ⟨v,j,c⟩:=b.rg;obtain ⟨ag,i,o,rfl⟩:=b7 c.own;refine (KS f ag i o rfl).m ?_;rintro r w' ⟨rfl,rfl⟩;exact Zj
 | some g=>
  rw [d] at b;refine (KQ b ae).m ?_;rintro r w' ⟨rfl,n⟩;exact gm.uh (x:=(0,⟨a.M,a.fs,(g::a.past).take a.M,[],none⟩)) n rfl rfl (l.kW d (by have:=b.len;omega)) aq m
def eG.afc (h:eG w e F k a):zC prog 66 #[.pointer (some ⟨e,1,none⟩)] w (uk e k F (oq a) w):=by
 have h0:=h;obtain ⟨S,D,σ,o,u,n,l,j,p,c,m,t,f,s⟩:=h;obtain ⟨x,v,_,_,_,i⟩:=c.ph.row;refine (ae6 i).m ?_;intro r w' b;unfold xb at b;unfold oq;cases d:a.dV with
 | some g=>
  rw [d] at b;obtain ⟨rfl,rfl⟩:=b;exact Zj
 | none=>
  rw [d] at b c;obtain ⟨rfl,rfl⟩:=b;exact ⟨rfl,(Ks.refl _ _).set e 4 _ (f e (Or.inr (Or.inl rfl))),F,⟨S,D,σ,o,u,n,l,j,p,c.begin,m.begin d,t,f,λq hq=>by simpa using s q hq⟩,λq hq=>Or.inl hq⟩
def eG.afd (h:eG w e F k a) (s:By) (f:Int) (t:rT f=false) (N:Nat) (i:pk f N) (x:Nat × Ab) (L:∀ W,eG W e F k a->zC prog N #[.pointer (some ⟨e,1,none⟩)] W (uk e k F x W))
  (z:zC prog 46 #[zG s] (w.alloc bM) λr w1=>Below (w.heap.size+1) (w.alloc bM) w1/\∃ g ln cn,r=.returned (.tuple #[j7 f g ln cn 0 [] 0 none 0 0,zI 0,zI 0])) :
  zC prog 20 #[zJ e,zG s] w λr w'=>r=.returned (Ik (x.1:Int) 0 [] none 0 0 0 0)/\jI F (λ_=>False) e k x.2 [] w none 0 0 w':=by
 have hF:=h.lt;refine (PV e s w (λer at_ tx bn ln cn kd nn w'=>er=(x.1:Int)/\at_=0/\tx=[]/\kd=0/\nn=0/\(bn=none/\ln=0/\cn=0)/\jI F (λq=>q=w.heap.size) e k x.2 [] w none 0 0 w') (z.m ?_)).m ?_
 rotate_left
 ·rintro r w' ⟨er,at_,tx,bn,ln,cn,kd,nn,rfl,rfl,rfl,rfl,rfl,rfl,⟨rfl,rfl,rfl⟩,p⟩;exact ⟨rfl,p.less λ_ h=>h.elim⟩
 rintro r w1 ⟨hb1,g,b,c,rfl⟩;refine ⟨hb1,f,g,b,c,0,[],0,none,0,0,rfl,?_⟩;have H:w.heap.size+1<=w1.heap.size:=Rq;have l:zB w w1:=((aM _ _).alloc (aG _) bM).t (hb1.m ae);generalize hw2:(w1.alloc (jx f g b c 0 [] 0 none 0 0)).alloc bM=w2;have v:w2.heap.size=w1.heap.size+2:=Oj;have Jz:zB w1 w2:=NK;have z0:w2.heap[w.heap.size]?=some bM:=Yz;have M:w2.heap[w1.heap.size+1]?=some bM:=Nn;have E:w2.heap[w1.heap.size]?=some (jx f g b c 0 [] 0 none 0 0):=Nq;have Rc:zB w w2:=l.t (Jz.m ae);refine (i e g b c 0 [] 0 none 0 0 w2 (λer w'=>er=(x.1:Int)/\jI F (λq=>q=w.heap.size\/q=w1.heap.size\/q=w1.heap.size+1\/q=w2.heap.size+1) e k x.2 [] w2 none 0 0 w') ?_ ?_).m ?_
 ·rintro er w' j u ⟨m,h2⟩;exact ⟨m,h2.set aq ae j u⟩
 ·intro W o n G;have B:=o.size;refine (L W (h.next (Rc.t (o.m ae)))).m ?_;rintro r w3 ⟨rfl,m,A,h2,h3⟩;refine ⟨(x.1:Int),rfl,(m.block _ n λhp=>Ci).t G,rfl,rfl,?_,eW _ _ _ _,A,h2,λq hq=>(h3 q hq).imp_right λh=>ae,λq hq=>pK,λq hq K=>?_⟩
  ·exact (Ks.of o).t m
  ·rcases h3 q K with h4|h4
   ·have:=hF q h4;omega
   ·omega
 ·rintro r w3 ⟨er,rfl,rfl,h2⟩;have d:=h2.2.1;refine ⟨_,0,[],none,0,0,0,0,λW=>jI F (λq=>q=w.heap.size\/q=w1.heap.size+1) e k x.2 [] w none 0 0 W,rfl,?_,?_,?_,⟨?_,?_⟩,?_,?_,?_⟩
  ·exact (d.block _ ae λhp=>Ci).t z0
  ·exact (d.block _ ae λhp=>Ci).t M
  ·exact (d.block _ ae λhp=>Ci).t E
  ·exact Gu
  ·exact Gu
  ·exact YS
  ·rintro W j u ⟨h3,h4,D,J,p,C,y⟩;exact ⟨h3,h4,D,J,p,C,y.set rfl (aG _) j u⟩
  ·rw [aA (by rintro ⟨_,h3⟩;rw [t] at h3;cases h3)];intro W h4;exact ⟨rfl,rfl,rfl,rfl,rfl,⟨rfl,rfl,rfl⟩,h4.less λq hq=>Or.inl hq⟩
end
section
variable {S S1 O:Nat->Prop} {e:Nat} {D Z:Nat->Prop} {σ σ0 σ1:bg} {v1 v2 v3 v4 v5:zV} {te:TypeId} {w w' W w1 w2:zW} {ws0 us:List Wr} {b N:Nat} {cs:Array zV} {U:AR} {r:Ending}
def cK.less (h:cK w S e Z σ1 v1 v2 v3 v4 v5 te) (f:∀ q,D q->Z q) (l:∀ q,D q->σ1.mem q=σ.mem q) (n:σ1.ord=σ.ord) (hs:∀ b,b∈σ.ord->D b):cK w S e D σ v1 v2 v3 v4 v5 te:=by
 obtain ⟨a,c,d,j,m,i⟩:=h.row;rw [n] at d j i;exact ⟨h.still,h.eS,λk=>h.eD (f e k),λq g=>by rw [<- l q g];exact h.bX q (f q g),hs,a,c,d,j,m,i⟩
def eB.lift (u:∀ q,S q->S1 q) (v:∀ q,S1 q->S q\/w.heap.size<=q) (g:∀ q,D q->Z q) (l:∀ q,Z q->D q\/w.heap.size<=q) (f:Ks (λq=>q=e\/D q) w w1) (y:∀ q,D q->σ1.mem q=σ.mem q) (z:σ1.ord=σ.ord) (m:∀ b,b∈σ.ord->D b)
  (h:eB S1 e Z σ1 v1 v2 v3 v4 v5 te U w1 r w'):eB S e D σ v1 v2 v3 v4 v5 te U w r w':=by
 have o:∀ {S' n:Nat->Prop} {nm:List By} {i:Option zD} {cn:Nat},Hh S1 e Z S' n nm i cn w1 w'->Hh S e D S' n nm i cn w w':=λ{S' n nm i cn} hc=>by
  refine ⟨λq d=>hc.s0 q (u q d),λq d=>?_,λq d=>hc.d0 q (g q d),λq d=>?_,⟨hc.ks.os.t f.os,hc.ks.tape.t f.tape,hc.ks.output.t f.output,bf f.size hc.ks.size,λk p t=>?_⟩,dS hc.own f.size,hc.ob⟩
  ·rcases hc.s1 q d with a|a
   ·exact v q a
   ·exact Or.inr (bf f.size a)
  ·rcases hc.d1 q d with a|a
   ·exact l q a
   ·exact Or.inr (bf f.size a)
  ·refine (hc.ks.block k (bG p f.size) ?_).t (f.block k p t);rintro (a|a)
   ·exact t (Or.inl a)
   ·rcases l k a with j|j
    ·exact t (Or.inr j)
    ·omega
 cases U with
 | ok fs nm=>
  obtain ⟨i,cn,S',n,B,s,H,C,a,j,x,E,G,F,A⟩:=h;exact ⟨i,cn,S',n,B,s,H,C,o a,j,λq d=>(x q (g q d)).t (y q d),E.t z,G,F,A⟩
 | err c nm=>
  obtain ⟨i,cn,S',a,j,x⟩:=h;refine ⟨i,cn,S',?_,j,x.less g y z m⟩;have:=o a;exact ⟨this.s0,this.s1,λ_ h=>h,λ_ h=>Or.inl h,this.ks,this.own,this.ob⟩
def eB.shape (h:eB S e D σ v1 v2 v3 v4 v5 te U w r w'):∃ (a:Option zD) (ln cn:Nat) (bk:zV) (er:Int),r=.returned (.tuple #[.slice a ln cn,bk,zI er])/\eB S e D σ v1 v2 v3 v4 v5 te U w (.returned (.tuple #[.slice a ln cn,bk,zI er])) w':=by
 cases U with
 | ok fs nm=>
  obtain ⟨a,cn,S',i,g,d,k,j,b,rfl,f⟩:=h;exact ⟨a,_,cn,_,_,rfl,a,cn,S',i,g,d,k,j,b,rfl,f⟩
 | err c nm=>
  obtain ⟨a,cn,S',b,rfl,f⟩:=h;exact ⟨a,_,cn,_,_,rfl,a,cn,S',b,rfl,f⟩
def abf (e c:Nat) (a:Option zD) (fs:List (Nat × Fd)) (x:By) (p:Pt) (al:Option zD) (i l:Nat) (w:zW) (hs:Sh w S a fs) (d:w.cell? ⟨e,0,none⟩=some (.slice a (G fs) c)) (f:e<w.heap.size) (j:(G fs)=10) (b:findF fs x=none) :
  zC prog 133 #[zJ e,zG x,.agg #[zI p.k,zG p.nm,zI p.n,.slice al i l]] w λr w'=>r=.returned (.tuple #[zN,.nilFunc,zI 7])/\zB w w':=by
 have h:=I (show ∀ W,zB w W->zC prog 137 #[zJ e,zG x] W λr w'=>r=.returned (.pointer none)/\W=w' from λW g=>by
  have:=kQ x e c a fs W (hs.next g) ((g.cell (p:=⟨e,0,none⟩) f).t d) ae;rw [iQ,b] at this;exact this)
 rw [j] at d;have k:w.cell? ⟨e,0,none⟩=some (.slice a 10 c):=d;clear hs d;go_in;go_wp2_with (go_at_call 137;refine (h.o _ agC).m ?_;rintro r w1 ⟨rfl,rfl⟩);refine aK (v:=.tuple #[zN,.nilFunc,zI 7]) ND gN ?_;exact ⟨rfl,by first|exact (aM _ _).alloc (aG _) _|exact aY _ _ _|exact aM _ _⟩
def ak6 (h:cK w S e D σ v1 v2 v3 v4 v5 te) (M:σ.ord.Nodup) (hl:σ.ord.length<=10) (x:By) (p:Pt) (al:Option zD) (Q U:Nat) (hP:dR w S p al Q U) (yP:Shape p) (hgd:Good p) (X:(txt p).length<=100) :
  zC prog 133 #[zJ e,zG x,.agg #[zI p.k,zG p.nm,zI p.n,.slice al Q U]] w (eB S e D σ v1 v2 v3 v4 v5 te (mK (σ.fs.map Prod.snd) x p) w):=by
 have od:=h.lt;have E:σ.fs.length=σ.ord.length:=tL;obtain ⟨a,c,hs,hcc,OP,d⟩:=h.sh;unfold mK;cases T:findF σ.fs x with
 | some f=>
  obtain ⟨i,Tw,Y⟩:=nk T;obtain ⟨P,ho2⟩:=OT Y;have hfm:=(fE T).1;have s:D f.1:=h.sub f.1 (oG P);have e1:(σ.fs.map Prod.snd)[i]?=some f.2:=by rw [kn,Y];rfl
  rw [Tw];simp only [e1];refine (aeg e c a σ.fs f x p al Q U w (λan ln cn bk er w'=>eB S e D σ v1 v2 v3 v4 v5 te (fq ((σ.fs.map Prod.snd).set i ⟨f.2.nm,p,f.2.v⟩) i ⟨f.2.nm,p,f.2.v⟩) w (.returned (.tuple #[.slice an ln cn,bk,zI er])) w') hs (bJ d).1.1 od ae T (λl=>h.eD (l▸s)) ?_).m (by
   rintro r w' ⟨an,ln,cn,bk,er,rfl,hq⟩;exact hq)
  intro v u w1 B O yR;obtain ⟨fa,fl,fc,G,hg1,hg2,_,N,n⟩:=yR;have L:f.2=σ.mem f.1:=by rw [ho2]
  obtain ⟨q1,q2,q3,q4,fa',fl',fc',r1,r2⟩:=h.bX f.1 s;rw [L] at B G n;have hfa:(fa,fl,fc)=(fa',fl',fc'):=by
   rw [r1] at G;simp at G;obtain ⟨e1,e2,e3⟩:=G;rw [e1,e2,e3]
  cases hfa;have blk:∀ q,S q->w1.heap[q]?=w.heap[q]?:=λq hq=>O.block q (h.still q hq) (λl=>q1 (l▸hq));have hfb:=(h.bX f.1 s).lt;have JT:cK w1 (S2 S v u) e D (σ.put f.1 ⟨(σ.mem f.1).nm,p,(σ.mem f.1).v⟩) v1 v2 v3 v4 v5 te:=h.Bb s _ ⟨by
   rintro (h1|h1|h1)
   ·exact q1 h1
   ·omega
   ·omega,yP,hgd,X,al,Q,U,B,(hP.next blk).wide gY⟩ O gY (Cu hg1 hg2 N n)
  have hb1:cO e D w1 (S2 S v u) 191 #[zJ v,zJ u] (dz [.rl f.1 p] σ):=.rl v u f.1 _ fa fl fc (Or.inr (Or.inl rfl)) (Or.inr (Or.inr rfl)) N n ((r2.next blk).wide gY) q2 q3 q4 s;have C:=CC (σ:=σ.put f.1 ⟨(σ.mem f.1).nm,p,(σ.mem f.1).v⟩) (b:=f.1) (σ0:=σ) (ws0:=[.rl f.1 p]) i _ _ JT rfl hb1 (by show σ.ord.length<=100;omega) P M;rw [aef i M P,fN] at C;refine C.m λr w' R=>?_;rw [L];exact (R.lift gY (λq hq=>(uJ hg1 hg2 N n q hq).imp id λh=>h.1) (λ_ h=>h) (λ_ h=>Or.inl h) (O.wide λq hq=>Or.inr (by rw [show q=f.1 from hq];exact s)) (λ_ _=>rfl) rfl h.sub).shape
 | none=>
  rw [qj T];simp only [fy];by_cases y:σ.fs.length=10
  ·rw [aB y];refine (abf e c a σ.fs x p al Q U w hs (bJ d).1.1 od y T).m ?_;rintro r w' ⟨rfl,hb⟩;exact ⟨none,0,S,⟨λ_ h=>h,λ_ h=>Or.inl h,λ_ h=>h,λ_ h=>Or.inl h,Ks.of hb,eW _ _ _ _,λq hq=>pK⟩,rfl,h.next hb⟩
  ·rw [aA y];refine (Tx e c a σ.fs x p al Q U v1 v2 v3 v4 v5 te w (λan ln cn bk er w'=>eB S e D σ v1 v2 v3 v4 v5 te (fq (σ.fs.map Prod.snd++[⟨x,p,(0,0)⟩]) σ.fs.length ⟨x,p,(0,0)⟩) w (.returned (.tuple #[.slice an ln cn,bk,zI er])) w') hs d ae (λf hf' l=>?_) h.eS OP hP yP hgd X T ?_).m (by
    rintro r w' ⟨an,ln,cn,bk,er,rfl,hq⟩;exact hq)
   ·obtain ⟨q,hq,rfl⟩:=bU.1 hf';exact h.eD (l▸h.sub q hq)
   ·intro b g cap v u w3 m;have hbD:∀ q,D q->q≠b:=λq hq l=>by have:=(h.bX q hq).lt;have:=m.hb;omega
    have H:=m.ks;have blk:∀ q,S q->w3.heap[q]?=w.heap[q]?:=λq hq=>H.block q (h.still q hq) (λl=>h.eS (l▸hq));have hgc:∃ cc t z,w3.heap[g]?=some (.cells cc t z):=by
     obtain ⟨g',o,l,_,K⟩:=m.sh.ptr 0 aq;cases l;unfold World.cell? at K;cases hh:w3.heap[g]? with
     | none=>rw [hh] at K;simp at K
     | some ob=>
      rw [hh] at K;cases ob<;>simp at K;exact ⟨_,_,_,rfl⟩
    have F:∀ q,(S2 S v u q\/q=g)->S q\/(w.heap.size<=q/\∃ c t z,w3.heap[q]?=some (.cells c t z)):=by
     rintro q (hq|rfl)
     ·exact uJ m.hg1 m.hg2 m.hc1 m.hc2 q hq
     ·exact Or.inr ⟨m.hg,hgc⟩
    have hlt:∀ q,(S2 S v u q\/q=g)->q<w3.heap.size:=λq hq=>by
     rcases F q hq with h1|⟨_,_,_,_,h1⟩
     ·exact bG (h.still q h1) H.size
     ·exact Gs
    have J:=m.sh.bX (b,⟨x,p,(0,0)⟩) aq;obtain ⟨fa,fl,fc,hbr,_⟩:=J.open;have Z:∀ q c t,w3.heap[q]?=some (.cells c t (0,0))->t≠223->q≠b:=λq c t hq ht l=>by
     rw [l,hbr] at hq;simp at hq;exact ht hq.2.symm
    have hSb:¬ (S2 S v u b\/b=g):=by
     rintro ((h1|h1|h1)|h1)
     ·exact J.1 (Or.inl h1)
     ·exact Z v _ _ m.hc1 ai h1.symm
     ·exact Z u _ _ m.hc2 ai h1.symm
     ·exact J.1 (Or.inr h1)
    have wJ:cK w3 (λq=>S2 S v u q\/q=g) e (λq=>D q\/q=b) ⟨σ.ord++[b],(σ.put b ⟨x,p,(0,0)⟩).mem⟩ v1 v2 v3 v4 v5 te:=by
     refine ⟨hlt,λhq=>?_,λhq=>?_,λq hq=>?_,λq hq=>?_,some ⟨g,0,none⟩,cap,λj hj=>?_,by simpa [E] using m.cp,λh=>ir,?_⟩
     ·rcases F e hq with h1|h1
      ·exact h.eS h1
      ·omega
     ·rcases hq with h1|h1
      ·exact h.eD h1
      ·have:=m.hb;omega
     ·by_cases l:q=b
      ·subst l;rw [show (⟨σ.ord++[q],(σ.put q ⟨x,p,(0,0)⟩).mem⟩:bg).mem q=(σ.put q ⟨x,p,(0,0)⟩).mem q from rfl,fN];refine J.more ?_ hSb;rintro k (h1|h1)
       ·exact Or.inl (Or.inl h1)
       ·exact Or.inr h1
      ·have A:D q:=hq.resolve_right l;rw [show (⟨σ.ord++[b],(σ.put b ⟨x,p,(0,0)⟩).mem⟩:bg).mem q=(σ.put b ⟨x,p,(0,0)⟩).mem q from rfl,dM _ _ _ _ l];refine ((h.bX q A).stays (H.block q (h.bX q A).lt λl=>h.eD (l▸A)) blk).more (λk hk=>Or.inl (Or.inl hk)) λh1=>?_;rcases F q h1 with h2|h2
       ·exact (h.bX q A).1 h2
       ·have:=(h.bX q A).lt;omega
     ·rcases cG.1 hq with h1|h1
      ·exact Or.inl (h.sub q h1)
      ·exact Or.inr vP
     ·have hj':j<(σ.fs++[(b,(⟨x,p,(0,0)⟩:Fd))]).length:=by simpa [E] using hj
      obtain ⟨g',o,l,_,K⟩:=m.sh.ptr j hj';cases l;refine ⟨g,0,rfl,Or.inr rfl,?_⟩;have e2:((σ.fs++[(b,(⟨x,p,(0,0)⟩:Fd))])[j]).1=(σ.ord++[b])[j]:=by
       have:((σ.fs++[(b,(⟨x,p,(0,0)⟩:Fd))]).map Prod.fst)=σ.ord++[b]:=by simp [Be]
       rw [<- kJ Prod.fst];simp only [this];exact (by simpa using hj')
      rw [e2] at K;exact K
     ·have:=m.row;rw [E] at this;simpa using this
    have hb3:cO e (λq=>D q\/q=b) w3 (λq=>S2 S v u q\/q=g) 192 #[zJ v,zJ u] (dz [.ord (σ.ord++[b])] (σ.put b ⟨x,p,(0,0)⟩)):=by
     obtain ⟨a0,c0,k1,k2,k3,k4⟩:=h.row;have n:=m.hc2;rw [E] at n d;have V:a=a0/\c=c0:=by
      rw [k4] at d;simp at d;exact ⟨d.1.symm,d.2.symm⟩
     obtain ⟨rfl,rfl⟩:=V;exact .ord v u a c σ.ord (Or.inl (Or.inr (Or.inl rfl))) (Or.inl (Or.inr (Or.inr rfl))) m.hc1 n ((k1.next blk).wide λq hq=>Or.inl (Or.inl hq)) k2 k3 λq hq=>Or.inl (h.sub q hq)
    have W:b∉σ.ord:=λhb=>hbD b (h.sub b hb) rfl;have C:=CC (σ:=⟨σ.ord++[b],(σ.put b ⟨x,p,(0,0)⟩).mem⟩) (b:=b) (σ0:=σ.put b ⟨x,p,(0,0)⟩) (ws0:=[.ord (σ.ord++[b])]) σ.ord.length _ _ wJ rfl hb3 aN aq (by
     rw [List.nodup_append];refine ⟨M,aq,λq hq r R=>?_⟩;simp at R;rw [R];exact λl=>W (l▸hq))
    have e3:(⟨σ.ord++[b],(σ.put b ⟨x,p,(0,0)⟩).mem⟩:bg).fs.map Prod.snd=σ.fs.map Prod.snd++[⟨x,p,(0,0)⟩]:=by
     unfold bg.fs;simp only [fK,fM,fL,List.map_nil,fN];congr 1;refine sB λq hq=>?_;simp only [Function.comp];exact dM _ _ _ _ λl=>W (l▸hq)
    rw [e3,show (⟨σ.ord++[b],(σ.put b ⟨x,p,(0,0)⟩).mem⟩:bg).mem b=⟨x,p,(0,0)⟩ from fN _ _ _,<- E] at C;refine C.m λr w' R=>?_;refine (R.lift (S:=S) (D:=D) (σ:=σ) (w:=w) (λq hq=>Or.inl (Or.inl hq)) (λq hq=>(F q hq).imp id λh=>h.1) (λq hq=>Or.inl hq) (λq hq=>hq.imp id λl=>by rw [l];exact m.hb) (H.wide λq hq=>Or.inl hq) (λq hq=>dM _ _ _ _ (hbD q hq)) rfl h.sub).shape
end
section
def Iq (e:Nat) (f:Int) (x:f=9\/f=10\/f=11\/f=12) (t:Option zD) (ln cn:Nat) (k:Int) (nm:By) (n:Int) (o:Option zD) (p s:Nat) (w:zW) (er at_:Int) (tx:By) (kd nn:Int) (Q:Option zD->Nat->Nat->zW->Prop) (g:∀ a l c w1 j u,Q a l c w1->Q a l c (w1.setCell ⟨w.heap.size+1,j,none⟩ u))
  (z:∀ W,zB w W->w.heap.size+1<W.heap.size->zC prog 70 #[zJ e,.agg #[zI f,.slice t ln cn,zI k,zG nm,zI n,.slice o p s]] W λr w'=>∃ bn b d,r=.returned (.agg #[zI er,zI at_,zG tx,.slice bn b d,zI kd,zI nn])/\(∀ q,q=w.heap.size+1->w'.heap[q]?=W.heap[q]?)/\Q bn b d w') :
  zC prog 47 #[zJ e,.agg #[zI f,.slice t ln cn,zI k,zG nm,zI n,.slice o p s]] w λr w'=>∃ bn b d,r=.returned (.agg #[zI er,zI at_,zG tx,.slice bn b d,zI kd,zI nn])/\Q bn b d w':=by
 have y:=I z;have C:(f == 1)=false:=aN;have D:(f == 2)=false:=aN;have F:(f == 3)=false:=aN;have H:(f == 4)=false:=aN;have K:(f == 5)=false:=aN;have G:(f == 6)=false:=aN;have J:(f == 7)=false:=aN;have E:(f == 8)=false:=aN;clear z x;go_in;have m:=I (y.o ((w.alloc (.cells #[zI f,.slice t ln cn,zI k,zG nm,zI n,.slice o p s] 97)).alloc (.cells #[zI 0,zI 0,zG [],zN,zI 0,zI 0] 39)) (aY _ _ _) aq);have h:=I (bc w (.cells #[zI f,.slice t ln cn,zI k,zG nm,zI n,.slice o p s] 97) #[zI 0,zI 0,zG [],zN,zI 0,zI 0] 39);clear y;go_wp2_with (go_at_call 70;refine mo m.o ?_;rintro r w1 ⟨bn,b,d,rfl,i,A⟩);obtain ⟨⟨k0,k1,k2,k3,k4,k5⟩,⟨f0,f1,f2,f3,f4,f5⟩,hsz⟩:=bJ ((i (w.heap.size+1) rfl).t h.o);have B:=I A;clear i A m;apply I;go_wp2;refine aK (v:=.agg #[zI er,zI at_,zG tx,.slice bn b d,zI kd,zI nn]) Q0 rfl ?_;exact ⟨bn,b,d,rfl,g _ _ _ _ _ _ (g _ _ _ _ _ _ (g _ _ _ _ _ _ (g _ _ _ _ _ _ (g _ _ _ _ _ _ (g _ _ _ _ _ _ B.o)))))⟩
variable {e k:Nat} {F:Nat->Prop} {w w' W w1 w2 w3 Z:zW} {a:Ab} {nm:List By} {bn:Option zD} {ln cn:Nat}
def uY (er:Int) (tx:By) (kd nn:Int) (nm:List By) (W:zW) (r:Ending) (w':zW):Prop:=∃ bn ln cn,r=.returned (.agg #[zI er,zI 0,zG tx,.slice bn ln cn,zI kd,zI nn])/\ln=G nm/\w'.ownsRow W.heap.size 9 1 (.slice bn ln cn) ln (strs nm)/\zB W w'
def eG.afe (h:eG w e F k a) (s:By) (b:Int) (x:b=9\/b=10\/b=11\/b=12) (er:Int) (tx:By) (kd nn:Int) (nm:List By)
  (L:zC prog 46 #[zG s] (w.alloc bM) λr w1=>Below (w.heap.size+1) (w.alloc bM) w1/\∃ n ln cn,r=.returned (.tuple #[j7 b n ln cn 0 [] 0 none 0 0,zI 0,zI 0])/\∀ W,zB w1 W->eG W e F k a->zC prog 70 #[zJ e,j7 b n ln cn 0 [] 0 none 0 0] W (uY er tx kd nn nm W)) :
  zC prog 20 #[zJ e,zG s] w λr w'=>∃ bn ln cn,r=.returned (Ik er 0 tx bn ln cn kd nn)/\jI F (λ_=>False) e k a nm w bn ln cn w':=by
 have hF:=h.lt;have D:rT b=false:=by rcases x with rfl|rfl|rfl|rfl<;>rfl
 refine (PV e s w (λz at_ v bn ln cn o y w'=>z=er/\at_=0/\v=tx/\o=kd/\y=nn/\jI F (λq=>q=w.heap.size) e k a nm w bn ln cn w') (L.m ?_)).m ?_
 rotate_left
 ·rintro r w' ⟨z,at_,v,bn,ln,cn,o,y,rfl,rfl,rfl,rfl,rfl,rfl,B⟩;exact ⟨bn,ln,cn,rfl,B.less λ_ h=>h.elim⟩
 rintro r w1 ⟨hb1,n,f,g,rfl,O⟩;refine ⟨hb1,b,n,f,g,0,[],0,none,0,0,rfl,?_⟩;have Q:w.heap.size+1<=w1.heap.size:=Rq;have p:zB w w1:=((aM _ _).alloc (aG _) bM).t (hb1.m ae);generalize hw2:(w1.alloc (jx b n f g 0 [] 0 none 0 0)).alloc bM=w2;have H:w2.heap.size=w1.heap.size+2:=Oj;have Jz:zB w1 w2:=NK;have z0:w2.heap[w.heap.size]?=some bM:=Yz;have R:w2.heap[w1.heap.size+1]?=some bM:=Nn;have N:w2.heap[w1.heap.size]?=some (jx b n f g 0 [] 0 none 0 0):=Nq;have Rc:zB w w2:=p.t (Jz.m ae);refine (Iq e b x n f g 0 [] 0 none 0 0 w2 er 0 tx kd nn (λbn ln cn w'=>jI F (λq=>q=w.heap.size\/q=w1.heap.size\/q=w1.heap.size+1\/q=w2.heap.size+1) e k a nm w2 bn ln cn w') ?_ ?_).m ?_
 ·intro S l c w' j u h2;exact h2.set aq ae j u
 ·intro W A K;have C:=A.size;have t:=h.next (Rc.t (A.m ae));refine (O W (Jz.t (A.m ae)) t).m ?_;rintro r w3 ⟨bn,ln,cn,rfl,E,d,m⟩;refine ⟨bn,ln,cn,rfl,λq hq=>m.block q ae,E,(Ks.of A).t (Ks.of m),dS d C,F,t.next m,λq hq=>Or.inl hq,λq hq=>⟨λG=>?_,λT=>?_⟩,λq hq G=>?_⟩
  ·have:=hF q G;have:=(d.lt q hq).1;omega
  ·have:=(d.lt q hq).1;omega
  ·have:=hF q G;omega
 ·rintro r w3 ⟨bn,ln,cn,rfl,h2⟩;have i:=h2.2.1;refine ⟨er,0,tx,bn,ln,cn,kd,nn,λW=>jI F (λq=>q=w.heap.size\/q=w1.heap.size+1) e k a nm w bn ln cn W,rfl,?_,?_,?_,⟨?_,?_⟩,?_,?_,?_⟩
  ·exact (i.block _ ae λhp=>Ci).t z0
  ·exact (i.block _ ae λhp=>Ci).t R
  ·exact (i.block _ ae λhp=>Ci).t N
  ·exact Gu
  ·exact Gu
  ·exact YS
  ·rintro W j u ⟨h3,h4,M,P,B,J⟩;exact ⟨h3,h4,M,P,B,J.set rfl (aG _) j u⟩
  ·rw [aA (by rintro ⟨_,h3⟩;rw [D] at h3;cases h3)];intro W h4;exact ⟨rfl,rfl,rfl,rfl,rfl,h4.less λq hq=>Or.inl hq⟩
def eG.PW (h:eG w e F k a) (A:k<1000000000000) (s:By) (b er at_:Int) (g:er≠0)
  (B:zC prog 46 #[zG s] (w.alloc bM) λr w1=>Below (w.heap.size+1) (w.alloc bM) w1/\r=.returned (.tuple #[j7 b none 0 0 0 [] 0 none 0 0,zI er,zI at_])) :
  zC prog 20 #[zJ e,zG s] w λr w'=>r=.returned (Ik er at_ [] none 0 0 0 0)/\jI F (λ_=>False) e k (if rT b=true then ma a else a) [] w none 0 0 w':=by
 have hF:=h.lt;refine (Go.Proofs.YtihgojcfpnhelaaGreatDoor.PW e s w (λl f w'=>l=er/\f=at_/\jI F (λq=>q=w.heap.size) e k (if rT b=true then ma a else a) [] w none 0 0 w') (B.m ?_)).m ?_
 rotate_left
 ·rintro r w' ⟨l,f,rfl,rfl,rfl,t⟩;exact ⟨rfl,t.less λ_ h=>h.elim⟩
 rintro r w1 ⟨hb1,rfl⟩;have x:w.heap.size+1<=w1.heap.size:=Rq;have i:zB w w1:=((aM _ _).alloc (aG _) bM).t (hb1.m ae);have d:zB w ((w1.alloc (jx b none 0 0 0 [] 0 none 0 0)).alloc (rW er at_)):=i.t ((aY w1 _ _).m ae);have c:∀ w2,zB w w2->jI F (λq=>q=w.heap.size\/q=w1.heap.size+1) e k a [] w none 0 0 w2:=λw2 o=>⟨rfl,Ks.of o,eW _ _ _ _,F,h.next o,λq hq=>Or.inl hq,λq hq=>pK,λq hq z=>by have:=hF q z;omega⟩;refine ⟨hb1,b,er,at_,λW=>w1.heap.size+2<=W.heap.size/\jI F (λq=>q=w.heap.size\/q=w1.heap.size+1) e k a [] w none 0 0 W,g,rfl,?_,⟨aq,c _ d⟩,?_,?_⟩
 ·exact M0
 ·rintro W j u ⟨h3,h4,y⟩;exact ⟨h3,h4,y.set rfl (aG _) j u⟩
 ·by_cases m:rT b=true
  ·rw [aB ⟨g,m⟩];rintro W ⟨h3,h4⟩;refine (h4.cancel A aaZ).m ?_;rintro r w' ⟨p,n,v⟩;rw [aB m];exact ⟨p,n _ (Or.inl rfl),n _ (Or.inr rfl),rfl,rfl,v.less λq hq=>Or.inl hq⟩
  ·rw [aA (λh=>m h.2)];rintro W ⟨h3,h4⟩;rw [aA m];exact ⟨rfl,rfl,h4.less λq hq=>Or.inl hq⟩
end
section
variable {S S1 O C:Nat->Prop} {e:Nat} {D U:Nat->Prop} {σ σ0 σ1 T:bg} {v1 v2 v3 v4 v5:zV} {te:TypeId} {w w' W R w1 w2 w3 X:zW} {ws0 ws1 us:List Wr} {b N H:Nat} {cs Z:Array zV} {V:AR} {r:Ending} {hs gs:List (Nat × Fd)}
def abk (x y:By) (Q:Ending->zW->Prop) (k m:Option zD) (u:zC prog 137 #[zJ e,zG x] w λr w'=>r=.returned (.pointer k)/\w=w') (z:zC prog 137 #[zJ e,zG y] w λr w'=>r=.returned (.pointer m)/\w=w')
  (t:k=none->Q (.returned (.tuple #[zN,.nilFunc,zI 5])) w) (B:∀ a b,k=some a->m=some b->Q (.returned (.tuple #[zN,.nilFunc,zI 6])) w)
  (A:∀ a,k=some a->m=none->(zC prog 168 #[zJ e,.pointer (some a),zG y] w λr w1=>r=.returned (.tuple #[.nilFunc,zI 7])/\Q (.returned (.tuple #[zN,.nilFunc,zI 7])) w1)\/zC prog 168 #[zJ e,.pointer (some a),zG y] w λr w1=>∃ N cs,r=.returned (.tuple #[.func (.func N) #[] cs,zI 0])/\zC prog 161 #[zJ e,.pointer (some a),.func (.func N) #[] cs] w1 λr w2=>∃ (q:Option zD) (ln cn:Nat) (bk:zV) (er:Int),r=.returned (.tuple #[.slice q ln cn,bk,zI er])/\Q r w2) :
  zC prog 135 #[zJ e,zG x,zG y] w Q:=by
 have f:=I u;have g:=I z;have n:=I A;have l:=I t;have o:=I B;clear u z A t B;cases k with
 | none=>
  go_in;go_wp2_with (go_at_call 137;refine f.o.m ?_;rintro r w1 ⟨rfl,rfl⟩);refine aK (v:=.tuple #[zN,.nilFunc,zI 5]) Rm gN ?_
  first|exact l.o rfl|exact l.o trivial
 | some a=>
  cases m with
  | some c=>
   go_in;go_wp2_with (first|(go_at_call 137;refine f.o.m ?_;clear f;rintro r w1 ⟨rfl,rfl⟩)|(go_at_call 137;refine g.o.m ?_;clear g;rintro r w1 ⟨rfl,rfl⟩));refine aK (v:=.tuple #[zN,.nilFunc,zI 6]) Rm gN ?_;exact o.o a c rfl rfl
  | none=>
   rcases n.o a rfl rfl with h|h
   ·have d:=I h;clear n l o h;go_in;go_wp2_with (first|(go_at_call 137;refine f.o.m ?_;clear f;rintro r w1 ⟨rfl,rfl⟩)|(go_at_call 137;refine g.o.m ?_;clear g;rintro r w1 ⟨rfl,rfl⟩)|(go_at_call 168;refine d.o.m ?_;clear d;rintro r w1 ⟨rfl,j⟩;have p:=I j;clear j));refine aK (v:=.tuple #[zN,.nilFunc,zI 7]) Rm gN ?_;exact p.o
   ·have d:=I h;clear n l o h;go_in;go_wp2_with (first|(go_at_call 137;refine f.o.m ?_;clear f;rintro r w1 ⟨rfl,rfl⟩)|(go_at_call 137;refine g.o.m ?_;clear g;rintro r w1 ⟨rfl,rfl⟩)|(go_at_call 168;refine d.o.m ?_;clear d;rintro r w1 ⟨N,cs,rfl,i⟩;have s:=I i;clear i)|(go_at_call 161;refine s.o.m ?_;rintro r w2 ⟨q,ln,cn,bk,er,rfl,j⟩;have p:=I j;clear j));refine aK (v:=.tuple #[.slice q ln cn,bk,zI er]) Rm gN ?_;exact p.o
def Tz (x y:By) (σ:bg):((σ.fs.map Prod.snd).any λf=>aC x f.p&&decide (100<(txt (aR x y f.p)).length))=σ.ord.any λq=>pM x y (σ.mem q).p:=by
 simp only [bg.fs,List.any_map,ry,pM]
def alx (h:cK w S e D σ v1 v2 v3 v4 v5 te) (hE:∀ W,Ks (λq=>q=e\/D q) w W->Env W) (m:σ.ord.Nodup) (V:(σ.fs.map λg=>g.2.nm).Nodup) (hl:σ.ord.length<=10) (x y:By) (O:x≠[]) (hy:(G y)<=100) :
  zC prog 135 #[zJ e,zG x,zG y] w (eB S e D σ v1 v2 v3 v4 v5 te (kr (σ.fs.map Prod.snd) x y) w):=by
 have Z:σ.fs.length=σ.ord.length:=tL;obtain ⟨a,c,hs,hcc,OP,l⟩:=h.sh;have j:∀ (n:Nat),eB S e D σ v1 v2 v3 v4 v5 te (.err n []) w (.returned (.tuple #[zN,.nilFunc,zI n])) w:=λn=>
  ⟨none,0,S,⟨λ_ h=>h,λ_ h=>Or.inl h,λ_ h=>h,λ_ h=>Or.inl h,Ks.refl _ _,eW _ _ _ _,λq hq=>pK⟩,rfl,h⟩
 have v:(σ.fs.map Prod.snd).find? (λf=>f.nm == y)=(findF σ.fs y).map Prod.snd:=by
  rw [oI];rfl
 refine abk x y _ (iQ σ.fs x) (iQ σ.fs y) (kQ x e c a σ.fs w hs (bJ l).1.1 ae) (kQ y e c a σ.fs w hs (bJ l).1.1 ae) (λh5=>?_) (λax ay Q X=>?_) λax Q T=>?_
 ·have u:findF σ.fs x=none:=by simpa [iQ] using h5
  unfold kr;rw [qj u];exact j 5
 ·obtain ⟨f,u,_⟩:=oF.1 Q;obtain ⟨g,M,_⟩:=oF.1 X;obtain ⟨i,p,s⟩:=nk u;unfold kr;rw [p,v,M];exact j 6
 ·obtain ⟨f,u,L⟩:=oF.1 Q;subst L;have M:findF σ.fs y=none:=by simpa [iQ] using T
  obtain ⟨i,p,s⟩:=nk u;obtain ⟨H,C⟩:=OT s;have A:f.1∈σ.ord:=oG H;have B:(σ.mem f.1).nm=x:=by
   have:=(fE u).2;rw [C] at this;exact this
  have e1:(σ.fs.map Prod.snd)[i]?=some (σ.mem f.1):=by rw [kn,s,C];rfl
  have R:kr (σ.fs.map Prod.snd) x y=if σ.ord.any (λq=>pM x y (σ.mem q).p) then .err 7 [] else fq ((σ.fs.map Prod.snd).map (dN x y)) i (dN x y (σ.mem f.1)):=by
   unfold kr;rw [p];simp only [v,M,Tz,e1,Option.map_none,Option.isSome_none,sY,k8]
  rw [R];have F:=Hi x y h hE m ae A B O hy;by_cases d:σ.ord.any (λq=>pM x y (σ.mem q).p)=true
  ·refine Or.inl (F.m ?_);rw [aB d];rintro r w1 (⟨_,rfl,S1,s0,s1,U,P⟩|⟨J,_⟩)
   ·exact ⟨rfl,none,0,S1,⟨s0,s1,λ_ h=>h,λ_ h=>Or.inl h,P,eW _ _ _ _,λq hq=>pK⟩,rfl,U⟩
   ·obtain ⟨q,t,k⟩:=rD.1 d;rw [J q t] at k;cases k
  ·refine Or.inr (F.m ?_);rw [aA d];rintro r w1 (⟨⟨q,t,k⟩,_⟩|⟨J,N,cs,S1,rfl,E⟩)
   ·exact absurd (rD.2 ⟨q,t,k⟩) d
   ·refine ⟨N,cs,rfl,?_⟩;obtain ⟨K,Y,k3⟩:=aei x y m V A B;have z:=CC (b:=f.1) (σ0:=σ) i N cs E.ph rfl E.bk (by rw [K];omega) (by rw [K];exact H) (by rw [K];exact m);rw [Y,k3] at z;refine z.m λr w' hr=>?_;have o:=hr.lift (S:=S) (D:=D) (σ:=σ) (w:=w) E.s0 E.s1 (λ_ h=>h) (λ_ h=>Or.inl h) E.ks (λ_ _=>rfl) rfl h.sub;obtain ⟨an,ln,cn,bk,er,rfl,hq⟩:=o.shape;exact ⟨an,ln,cn,bk,er,rfl,hq⟩
end
def qV (fs:List Fd):mW (aT fs)=eN fs:=by
 funext x;rw [Uz,cW]
def GF.nn {fs:List Fd} (h:GF fs):(fs.map λg=>g.nm).Nodup:=by
 have:=GS.nn h;have e:(aT fs).map (λg=>g.2.nm)=((aT fs).map Prod.snd).map λg=>g.nm:=aq;rw [e,cW] at this;exact this
def zi {fs:List Fd} {f:Fd} (h:f∈fs):∃ i,(i,f)∈aT fs:=by
 rw [<- cW fs] at h;obtain ⟨g,a,rfl⟩:=bU.1 h;exact ⟨g.1,a⟩
def GF.self {fs:List Fd} (h:GF fs):∀ g,g∈fs->aC g.nm g.p=false:=λg a=>by
 obtain ⟨i,b⟩:=zi a;exact h.vT.2 _ b
def GF.shape {fs:List Fd} (h:GF fs):∀ g,g∈fs->Shape g.p:=λg a=>by
 obtain ⟨i,b⟩:=zi a;exact h.shp _ b
def GF.vals {fs:List Fd} (h:GF fs):∀ g,g∈fs->g.v=cD (eN fs) g.p:=λg a=>by
 obtain ⟨i,b⟩:=zi a;have:=h.val _ b;rw [qV] at this;exact this
def R4 (L b:List Fd) (k:Nat) (n:(G L)=G b) (ρ:Fd->Fd) (a:∀ i (h:i<G L) (o:i<G b),i≠k->b[i]=ρ L[i]) (m:∀ i j (hi:i<G L) (hj:j<G L),i≠k->j≠k->i<j->aC L[j].nm L[i].p=false->aC (ρ L[j]).nm (ρ L[i]).p=false) (h:(aT L).Pairwise NM):(aT b).Pairwise (λg h=>g.1=k\/h.1=k\/NM g h):=by
 rw [sW] at h ⊢;intro i j hi hj d;rw [eA] at hi hj;have e:∀ (M:List Fd) (i:Nat) (hi:i<(aT M).length) (hi':i<G M),(aT M)[i]=(i,M[i]):=λM i hi hi'=>Yj;rw [e b i aaX hi,e b j aaY hj];by_cases f:i=k
 ·exact Or.inl f
 ·by_cases l:j=k
  ·exact Or.inr (Or.inl l)
  ·refine Or.inr (Or.inr ?_);have Nw:i<(G L):=ae;have Nx:j<(G L):=ae;have c:=h i j Gz GA d;rw [e L i Gz Nw,e L j GA Nx] at c;show aC b[j].nm b[i].p=false;rw [a i Nw hi f,a j Nx hj l];exact m i j Nw Nx f l d c
def qO {l:List Fd} {i:Nat} {f:Fd} (h:l[i]?=some f):l=l.take i++f::l.drop (i+1)/\(l.take i).length=i:=Xz
def ft {fs:List Fd} {x:By} {i:Nat} (h:fs.findIdx? (λf=>f.nm == x)=some i):∃ f,fs[i]?=some f/\f.nm=x:=by
 rw [FZ] at h;obtain ⟨a,h1,_⟩:=h;exact ⟨fs[i],cU a,vP⟩
def PX (A B:List Fd) (f a:Fd) (b:a.nm=f.nm) (c:a.v=f.v):eN (A++a::B)=eN (A++f::B):=by
 funext z;unfold eN;rw [List.find?_append,List.find?_append];cases A.find? (λg=>g.nm == z) with
 | some g=>rfl
 | none=>
  simp only [Option.none_or,List.find?_cons,b];by_cases h:(f.nm == z)=true
  ·simp [h,c]
  ·simp [h]
def Ag {fs:List Fd} {x:By} {p:Pt} {a:List Fd} {d:List By} (b:GF fs) (t:Shape p) (h:mK fs x p=.ok a d) :
  GF a/\((∃ A f B,fs=A++f::B/\f.nm=x/\(a.map λg=>(g.nm,g.p)).Perm ((A++(⟨x,p,f.v⟩:Fd)::B).map λg=>(g.nm,g.p)))\/((∀ f,f∈fs->f.nm≠x)/\(G fs)≠10/\(a.map λg=>(g.nm,g.p)).Perm ((fs++[(⟨x,p,(0,0)⟩:Fd)]).map λg=>(g.nm,g.p)))):=by
 unfold mK at h;cases w:fs.findIdx? (λf=>f.nm == x) with
 | some i=>
  rw [w] at h;obtain ⟨f,hi,L⟩:=ft w;simp only [hi] at h;obtain ⟨hsp,u⟩:=qO hi;generalize V:fs.take i=A at *;generalize U:fs.drop (i+1)=B at *;subst u;have o:fs.set (G A) ⟨f.nm,p,f.v⟩=A++⟨f.nm,p,f.v⟩::B:=OA;rw [o] at h;have c:∀ g,g∈A++B->g∈fs:=λg hg=>MN;have K:((A++(⟨f.nm,p,f.v⟩:Fd)::B).map λg=>g.nm).Nodup:=by
   have:=b.nn;rw [hsp] at this;simpa using this
  obtain ⟨H,Q,J⟩:=qp A B ⟨f.nm,p,f.v⟩ a d K (by
   refine R4 fs _ (G A) OA id (λj hj D T=>?_) (λ_ _ _ _ _ _ _ h=>h) b.vT.1;have:(A++f::B)[j]?=(A++(⟨f.nm,p,f.v⟩:Fd)::B)[j]?:=by
    by_cases h3:j<G A
    ·rw [sy h3,sy h3]
    ·rw [qx ae,qx ae];obtain ⟨m,F⟩:∃ m,j - G A=m+1:=⟨j - G A - 1,ae⟩;rw [F];rfl
   rw [<- hsp,cU hj,cU D] at this;simpa using this.symm) (λg hg=>b.self g (c g hg)) (λg hg=>by
   simp at hg;rcases hg with h3|rfl|h3
   ·exact b.shape g (c g yM)
   ·exact t
   ·exact b.shape g (c g yM)) (λg hg _=>by
   rw [qV,PX A B f ⟨f.nm,p,f.v⟩ rfl rfl,<- hsp];exact b.vals g (c g hg)) h
  refine ⟨H,Or.inl ⟨A,f,B,hsp,L,?_⟩⟩;rw [<- L];exact J
 | none=>
  rw [w] at h;simp only at h;by_cases k:(G fs)=10
  ·rw [aB k] at h;cases h
  ·rw [aA k] at h;have s:∀ f,f∈fs->f.nm≠x:=λf C e=>by
    have:=Br.1 w f C;simp [e] at this
   obtain ⟨H,Q,J⟩:=qp fs [] ⟨x,p,(0,0)⟩ a d (by
    rw [fK,List.nodup_append];refine ⟨b.nn,aq,λq S r N=>?_⟩;simp at N;obtain ⟨y,O,rfl⟩:=bU.1 S;rw [N];exact s y O) (by
    rw [sW];intro i j hi hj E;have v:∀ (M:List Fd) (i:Nat) (hi:i<(aT M).length) (hi':i<G M),(aT M)[i]=(i,M[i]):=λM i hi hi'=>Yj;rw [eA] at hi hj;rw [v _ i aaX hi,v _ j aaY hj];simp at hi hj;by_cases P:j=G fs
    ·exact Or.inr (Or.inl P)
    ·refine Or.inr (Or.inr ?_);have Nw:i<(G fs):=ae;have Nx:j<(G fs):=ae;have l:=sW.1 b.vT.1 i j Gz GA E;rw [v _ i Gz Nw,v _ j GA Nx] at l;show aC _ _=false;rw [yj Nw,yj Nx];exact l) (λg hg=>b.self g tH) (λg hg=>by
    simp at hg;rcases hg with h3|rfl
    ·exact b.shape g h3
    ·exact t) (λg hg F=>by
    have n:g∈fs:=tH;rw [qV,b.vals g n];refine (gR x _ _ (λz R=>?_) g.p (b.shape g n) F).symm;unfold eN;rw [List.find?_append];cases fs.find? (λf=>f.nm == z) with
    | some f=>rfl
    | none=>
     have:((⟨x,p,(0,0)⟩:Fd).nm == z)=false:=by simpa using nM R
     simp [List.find?_cons,this]) h
   exact ⟨H,Or.inr ⟨s,k,J⟩⟩
section
variable {S S' S1 O:Nat->Prop} {e k:Nat} {D H F X P R T:Nat->Prop} {σ σ0 σ1:bg} {v0 v1 v2 v3 v4 v5 v v':zV} {te:TypeId} {w w' W w1 w2 w3:zW} {M:Nat} {Z V U:zV} {dn ud gr:List (List Wr)} {op:Bool} {N1:Nat} {cs1:Array zV} {us:List Wr} {a:Ab} {nm:List By} {bn:Option zD} {ln cn:Nat}
def Df {base n z:Nat} {xs:List zV} (i:w.ownsRow base 9 z v n xs) {f:Fd} {b:Nat} (m:fB w S b f):v.ownBlock≠some b:=by
 intro d;obtain ⟨q,e⟩:=i;rcases e with e|⟨g,k,o,p,r,j,s⟩
 ·rw [e.1] at d;simp [Value.ownBlock] at d
 ·obtain ⟨_,_,_,_,a,l,c,h,_⟩:=m;rw [p] at d;simp only [Value.ownBlock,rB] at d;subst d;rw [j] at h;simp at h
structure kt (fs:List Fd):Prop where
 gf:GF fs
 len:(G fs)<=10
 xX:∀ f,f∈fs->f.nm≠[]/\(G f.nm)<=6
def kt.st {fs:List Fd} (h:kt fs) (hs:∀ b,b∈σ.ord->D b) (a:σ.fs.map Prod.snd=fs):xe D σ:=by
 subst a;refine ⟨?_,hs,h.gf,by have:=h.len;simpa [bg.fs] using this,h.xX⟩;have:=h.gf.nn;unfold bg.fs at this;rw [fM,fM] at this;unfold List.Nodup at this ⊢;rw [jz] at this;exact this.imp λh e=>h Cs
def eG.change (h:eG w e F k a) (hk:k<1000000000000) (p:AR) (AU:∀ fs n,p=.ok fs n->kt fs) (N:∀ c n,p=.err c n->c≠0) (hb:zB w W) (hR:∀ q,R q->w.heap.size<=q/\q<W.heap.size) (hT:∀ q,T q->w.heap.size<=q/\q<W.heap.size/\¬ R q) (t:Nat) (ht:T t) (o:W.heap[t]?=some bM) (L:zV)
  (hC:∀ S D σ v1 v2 v3 v4 v5,cK W S e D σ v1 v2 v3 v4 v5 108->(∀ q,R q->S q)->(∀ q,q=e\/D q->F q)->xe D σ->σ.fs.map Prod.snd=a.fs->zC prog 98 #[zJ e,L] W (eB S e D σ v1 v2 v3 v4 v5 108 p W)) :
  zC prog 98 #[zJ e,L] W (xZ e (λer bn ln cn w'=>er=(p.code:Int)/\jI (λq=>F q\/R q) T e (k+1) (JB a p) p.names W bn ln cn w') t bM):=by
 have hF:=h.lt;have hsz:=hb.size;have h':=h.next hb;obtain ⟨S,D,σ,Z,V,U,dn,ud,gr,h1,Q,h3,h4,Y⟩:=h';have b:∀ q,jd e D Z V U q->F q:=λq hq=>h4 q (Or.inr hq);have hRW:∀ q,R q->¬ jd e D Z V U q:=λq hq f=>by have:=hF q (b q f);have:=(hR q hq).1;omega
 have hx:=h1.PQ (S':=λq=>S q\/R q) (λq hq=>Or.inl hq) (λq hq=>hq.imp_right λhr=>⟨(hR q hr).2,hRW q hr⟩);have hTt:=hT t ht;refine (hC _ _ _ _ _ _ _ _ hx.ph (λq hq=>Or.inr hq) (λq hq=>b q (hq.imp_right Or.inl)) Q.gs Q.fs.symm).m ?_;rintro r w1 hp;cases p with
 | ok fs n=>
  obtain ⟨O,cn,S2,B,N',cs',P,ws,gU,rfl,hm,ho,l,y,K⟩:=hp;have i:=hx.ui l gU.s0 gU.s1 gU.d0 gU.d1 gU.ks;have hgs:xe B (aU ws P):=(AU fs n rfl).st l.sub K;have u:=Q.ae8 (σ1:=P) gU.d0 ⟨ho.symm,λq hq=>(hm q hq).symm⟩ hgs y.Fm (by have:=h1.len;omega);rw [K] at u;have d:Ks (λq=>F q\/R q) W w1:=gU.ks.wide λq hq=>Or.inl (b q (hq.imp_right Or.inl));have H:=d.size;have J:∀ q,T q->¬ Ft S2 e B Z V U q:=by
   intro q hq v;obtain ⟨t1,t2,t3⟩:=hT q hq;have f:∀ q,jd e D Z V U q->q<w.heap.size:=λq hq=>hF q (b q hq);rcases v with h6|h6|h6|h6
   ·rcases gU.s1 q h6 with (h7|h7)|h7
    ·have:=hF q (h4 q (Or.inl h7));omega
    ·exact t3 h7
    ·omega
   ·have:=f q (Or.inl h6);omega
   ·rcases gU.d1 q h6 with h7|h7
    ·have:=f q (Or.inr (Or.inl h7));omega
    ·omega
   ·have:=f q (Or.inr (Or.inr h6));omega
  have E:∀ q,(Value.slice O (G n) cn).ownBlock=some q->¬ Ft S2 e B Z V U q:=by
   intro q hq v;have Mh:=gU.own.lt q hq;have f:∀ q,jd e D Z V U q->q<W.heap.size:=λq hq=>by have:=hF q (b q hq);omega
   rcases v with h6|h6|h6|h6
   ·exact gU.ob q hq h6
   ·have:=f q (Or.inl h6);omega
   ·exact Df gU.own (l.bX q h6) hq
   ·have:=f q (Or.inr (Or.inr h6));omega
  refine ⟨O,_,cn,_,0,rfl,(d.block t ae λhp=>?_).t o,Or.inl ⟨rfl,N',cs',rfl,?_⟩⟩
  ·exact MZ
  have fin:∀ (C:Ab) (A x m:List (List Wr)) (w2:zW),C.M=a.M->gm e (Ft S2 e B Z V U) (jd e B Z V U) (aU ws P) a.M A x m C.dV.isSome w1 w2->mE C B (aU ws P) A x m->G m<=k+1->w2.heap[t]?=some bM/\jI (λq=>F q\/R q) T e (k+1) C n W O (G n) cn w2:=by
   intro C A x m w2 hM j M hl;rw [<- hM] at j;obtain ⟨s,X,k2,k3⟩:=j.at rfl M hl;have Cm:=s.size;refine ⟨(s.block t ae λf=>J t ht (Or.inr f)).t ((d.block t ae λhp=>?_).t o),rfl,⟨s.os.t d.os,s.tape.t d.tape,s.output.t d.output,ae,λq hq hn=>(s.block q ae λf=>hn ?_).t (d.block q hq hn)⟩,iy gU.own s (λq hq f=>E q hq (Or.inr f)),X,k2,λq hq=>?_,λq hq=>⟨λhh=>?_,λhh=>?_⟩,λq hq hh=>?_⟩
   ·exact MZ
   ·rcases f with h6|h6|h6
    ·exact Or.inl (b q (Or.inl h6))
    ·rcases gU.d1 q h6 with h7|h7
     ·exact Or.inl (b q (Or.inr (Or.inl h7)))
     ·omega
    ·exact Or.inl (b q (Or.inr (Or.inr h6)))
   ·rcases k3 q hq with Y|Y
    ·rcases Y with h6|h6|h6|h6
     ·exact Xx
     ·exact Or.inl (Or.inl (b q (Or.inl h6)))
     ·rcases gU.d1 q h6 with h7|h7
      ·exact Or.inl (Or.inl (b q (Or.inr (Or.inl h7))))
      ·exact Or.inr h7
     ·exact Or.inl (Or.inl (b q (Or.inr (Or.inr h6))))
    ·exact Or.inr ae
   ·rcases k3 q hh with h6|h6
    ·exact E q hq h6
    ·have:=(gU.own.lt q hq).2;omega
   ·exact Za
   ·rcases k3 q hh with h6|h6
    ·exact J q hq h6
    ·have:=(hT q hq).2.1;omega
  cases hg:a.dV with
  | none=>
   rw [hg] at i;refine (ab4 i y).m ?_;rintro r w2 ⟨rfl,j⟩;have z:=u.1 hg;obtain ⟨f1,f2⟩:=fin ⟨a.M,fs,(a.fs::a.past).take a.M,[],none⟩ _ _ _ w2 rfl j z ae;exact YN
  | some g=>
   rw [hg] at i;refine (ab3 i y ae).m ?_;rintro r w2 ⟨rfl,j⟩;have z:=u.2 g hg;obtain ⟨f1,f2⟩:=fin ⟨a.M,fs,a.past,a.jr,some g⟩ _ _ _ w2 rfl j z aN;exact YN
 | err c n=>
  obtain ⟨O,cn,S2,gU,rfl,l⟩:=hp;have i:=hx.ui l gU.s0 gU.s1 gU.d0 gU.d1 gU.ks;have d:Ks (λq=>F q\/R q) W w1:=gU.ks.wide λq hq=>Or.inl (b q (hq.imp_right Or.inl));have H:=d.size;have f:∀ q,jd e D Z V U q->q<w.heap.size:=λq hq=>hF q (b q hq);refine ⟨O,_,cn,_,(c:Int),rfl,(d.block t ae λhp=>?_).t o,Or.inr ⟨by have:=N c n rfl;omega,rfl,rfl,rfl,d,gU.own,Ft S2 e D Z V U,⟨S2,D,σ,Z,V,U,dn,ud,gr,i,Q,ae,λ_ h=>h,i.agX⟩,λq hq=>?_,λq hq=>⟨λhh=>?_,λhh=>?_⟩,λq hq hh=>?_⟩⟩
  ·exact MZ
  ·rcases hq with h6|h6
   ·exact Xx
   ·exact Or.inl (Or.inl (b q h6))
  ·rcases hh with h6|h6
   ·exact gU.ob q hq h6
   ·have:=f q h6;have:=(gU.own.lt q hq).1;omega
  ·exact Za
  ·rcases hh with h6|h6
   ·rcases gU.s1 q h6 with (h7|h7)|h7
    ·have:=hF q (h4 q (Or.inl h7));have:=(hT q hq).1;omega
    ·exact (hT q hq).2.2 h7
    ·have:=(hT q hq).2.1;omega
   ·have:=f q h6;have:=(hT q hq).1;omega
def xZ.imp {Q f:Int->Option zD->Nat->Nat->zW->Prop} {q:Nat} {row:Obj} {r:Ending} (h:xZ e Q q row r w1) (d:∀ er bn ln cn w',Q er bn ln cn w'->f er bn ln cn w'):xZ e f q row r w1:=by
 obtain ⟨bn,ln,cn,bk,er,i,k,m⟩:=h;refine ⟨bn,ln,cn,bk,er,i,k,?_⟩;rcases m with ⟨a,N,cs,c,b⟩|⟨a,c,b⟩
 ·refine Or.inl ⟨a,N,cs,c,b.m ?_⟩;rintro r w2 ⟨g,j,l⟩;exact ⟨g,j,d _ _ _ _ _ l⟩
 ·exact Or.inr ⟨a,c,d _ _ _ _ _ b⟩
def x6 (e:Nat) (F:Nat->Prop) (a:Ab) (g:AR) (w:zW) (r:Ending) (w1:zW):Prop:=
 Below (w.heap.size+1) (w.alloc bM) w1/\∃ (b:Int) (f:Option zD) (ln cn:Nat) (k:Int) (nm:By) (n:Int) (al:Option zD) (c d:Nat) (R:Nat->Prop),r=.returned (.tuple #[j7 b f ln cn k nm n al c d,zI 0,zI 0])/\(b=1\/b=2\/b=3)/\(∀ q,R q->w.heap.size+1<=q/\q<w1.heap.size) /\
  ∀ W,zB w1 W->∀ S D σ v1 v2 v3 v4 v5,cK W S e D σ v1 v2 v3 v4 v5 108->(∀ q,R q->S q)->(∀ q,q=e\/D q->F q)->xe D σ->σ.fs.map Prod.snd=a.fs->zC prog 98 #[zJ e,j7 b f ln cn k nm n al c d] W (eB S e D σ v1 v2 v3 v4 v5 108 g W)
def afa {a:Int} (h:a=1\/a=2\/a=3):rT a=true:=by
 rcases h with rfl|rfl|rfl<;>rfl
def eG.afb (h:eG w e F k a) (hk:k+1<1000000000000) (s:By) (b:AR) (N:∀ fs n,b=.ok fs n->kt fs) (v:∀ c n,b=.err c n->c≠0)
  (hR:zC prog 46 #[zG s] (w.alloc bM) (x6 e F a b w)) :
  zC prog 20 #[zJ e,zG s] w λr w'=>∃ bn ln cn,r=.returned (Ik (b.code:Int) 0 [] bn ln cn 0 0)/\jI F (λ_=>False) e (k+1) (PZ a b) b.names w bn ln cn w':=by
 have hF:=h.lt;refine (PV e s w (λer at_ tx bn ln cn kd nn w'=>er=(b.code:Int)/\at_=0/\tx=[]/\kd=0/\nn=0/\jI F (λq=>q=w.heap.size) e (k+1) (PZ a b) b.names w bn ln cn w') (hR.m ?_)).m ?_
 rotate_left
 ·rintro r w' ⟨er,at_,tx,bn,ln,cn,kd,nn,rfl,rfl,rfl,rfl,rfl,rfl,K⟩;exact ⟨bn,ln,cn,rfl,K.less λ_ h=>h.elim⟩
 rintro r w1 ⟨hb1,B,J,f,g,D,m,A,al,y,G,R,rfl,C,o,hC⟩;refine ⟨hb1,B,J,f,g,D,m,A,al,y,G,rfl,?_⟩;have Z:w.heap.size+1<=w1.heap.size:=Rq;have z:zB w w1:=((aM _ _).alloc (aG _) bM).t (hb1.m ae);generalize hw2:(w1.alloc (jx B J f g D m A al y G)).alloc bM=w2;have S:w2.heap.size=w1.heap.size+2:=Oj;have i:zB w1 w2:=NK;have z0:w2.heap[w.heap.size]?=some bM:=by
  rw [i.block _ ae,hb1.block _ ae];show (w.heap.push bM)[w.heap.size]?=some bM;exact yi
 have z1:w2.heap[w1.heap.size+1]?=some bM:=Nn;have V:w2.heap[w1.heap.size]?=some (jx B J f g D m A al y G):=Nq;have t:zB w w2:=z.t (i.m ae);have hFR:∀ q,F q\/R q->q<w.heap.size\/(w.heap.size+1<=q/\q<w1.heap.size):=λq d=>d.imp (hF q) (o q);refine (KX e B C J f g D m A al y G w2 (λer bn ln cn w'=>er=(b.code:Int)/\jI (λq=>F q\/R q) (λq=>q=w.heap.size\/q=w1.heap.size\/q=w1.heap.size+1\/q=w2.heap.size+1) e (k+1) (JB a b) b.names w2 bn ln cn w') ?_ ?_).m ?_
 ·exact Yw
 ·intro W hW hWs;refine (acf e B J f g D m A al y G W (λer bn ln cn w'=>er=(b.code:Int)/\jI (λq=>F q\/R q) (λq=>(q=w.heap.size\/q=w1.heap.size\/q=w1.heap.size+1\/q=w2.heap.size+1)\/q=W.heap.size+1) e (k+1) (JB a b) b.names W bn ln cn w') ?_ ?_).m ?_
  ·exact Yw
  ·intro M x Q X;have E:zB w M:=(t.t (hW.m ae)).t (x.m GL);have H:zB w1 M:=(i.t (hW.m ae)).t (x.m GL);refine (h.change (R:=R) (T:=λq=>(q=w.heap.size\/q=w1.heap.size\/q=w1.heap.size+1\/q=w2.heap.size+1)\/q=W.heap.size+1) ae b N v E (λq d=>⟨by have:=(o q d).1;omega,by have:=(o q d).2;omega⟩) (λq d=>⟨ae,ae,λO=>by have:=o q O;omega⟩) (W.heap.size+1) (Or.inr rfl) X _ (hC M H)).m ?_;intro r w3 h3;refine h3.imp ?_;rintro er bn ln cn w' ⟨h4,L⟩;exact ⟨h4,L.base x λq d=>Or.inl d⟩
  ·rintro r w' ⟨er,bn,ln,cn,rfl,h1,h2⟩;refine ⟨er,bn,ln,cn,rfl,?_,h1,(h2.base hW λq d=>Or.inl d).less λq d=>Or.inl d⟩;rintro q rfl;exact h2.2.1.block _ ae λhp=>GN
 ·rintro r w3 ⟨er,bn,ln,cn,rfl,h1,h2⟩;have p:=h2.2.1;refine ⟨er,0,[],bn,ln,cn,0,0,λW=>w1.heap.size+2<=W.heap.size/\jI F (λq=>q=w.heap.size\/q=w1.heap.size+1) e (k+1) (JB a b) b.names w bn ln cn W,rfl,?_,?_,?_,⟨?_,?_⟩,⟨by have:=p.size;omega,?_⟩,?_,?_⟩
  ·exact (p.block _ ae λhp=>GN).t z0
  ·exact (p.block _ ae λhp=>GN).t z1
  ·exact (p.block _ ae λhp=>GN).t V
  ·exact M0
  ·exact M0
  ·refine (h2.base t λq d=>d.imp_right λO=>?_).less ?_
   ·have:=o q O;omega
   ·exact Xo
  ·rintro W j u ⟨h3,h4,L,h6,K,U⟩;exact ⟨h3,h4,L,h6,K,U.set rfl (aG _) j u⟩
  ·cases b with
   | ok fs n=>
    rw [aA (by rintro ⟨h3,_⟩;exact h3 h1)];rintro W ⟨h3,h4⟩;exact ⟨h1,rfl,rfl,rfl,rfl,h4.less λq d=>Or.inl d⟩
   | err c n=>
    have hc:=v c n rfl;rw [aB ⟨by rw [h1];simp only [AR.code];omega,afa C⟩];rintro W ⟨h3,h4⟩;refine (h4.cancel ae aaZ).m ?_;rintro r w' ⟨k1,P,Y⟩;exact ⟨k1,P _ (Or.inl rfl),P _ (Or.inr rfl),h1,rfl,rfl,rfl,rfl,Y.less λq d=>Or.inl d⟩
end
def Ah {fs:List Fd} {x:By} {k:List Fd} {q:List By} (p:GF fs) (h:mL fs x=.ok k q) :
  GF k/\∃ A f B,fs=A++f::B/\f.nm=x/\(k.map λg=>(g.nm,g.p))=(A++B).map λg=>(g.nm,g.p):=by
 unfold mL at h;cases t:fs.findIdx? (λf=>f.nm == x) with
 | none=>rw [t] at h;cases h
 | some i=>
  rw [t] at h;obtain ⟨f,M,w⟩:=ft t;obtain ⟨hsp,F⟩:=qO M;have s:fs.eraseIdx i=fs.take i++fs.drop (i+1):=EB _ _;generalize O:fs.take i=A at *;generalize N:fs.drop (i+1)=B at *;simp only [AR.ok.injEq,s] at h;obtain ⟨C,_⟩:=h;have j:∀ g,g∈A++B->g∈fs:=λg hg=>MN;have d:=xQ (A++B);obtain ⟨V,v,r⟩:=j8 (aT (A++B)) d;have e:List.Sublist (A++B) fs:=by
   rw [hsp];exact List.Sublist.append (yr _) (List.sublist_cons_self _ _)
  have a:Db (aT (A++B)):=by
   refine ⟨?_,λg hg=>?_⟩
   ·have H:(fs.Pairwise λg h=>aC h.nm g.p=false):=by
     have K:=p.vT.1;rw [<- cW fs];exact jz.2 (K.imp λh=>h)
    have E:=H.sublist e;rw [<- cW (A++B)] at E;exact (jz.1 E).imp λh=>h
   ·have:=iJ (f:=Prod.snd) hg;rw [cW] at this;exact p.self g.2 (j _ this)
  have b:∀ g,g∈aT (A++B)->Shape g.2.p:=λg hg=>by
   have:=iJ (f:=Prod.snd) hg;rw [cW] at this;exact p.shape g.2 (j _ this)
  have m:mW (aT (A++B))=pc (aT (A++B)) V:=by
   conv=>lhs;rw [<- v]
   exact pd _ V
  have c:=pY (aT (A++B)) d a b (aT (A++B)) [] V [x] rfl (λg hg=>by simp at hg) λg hg L=>by
   have G:aC x g.2.p=false:=by simpa [anyM] using L
   have n:=iJ (f:=Prod.snd) hg;rw [cW] at n;unfold iz;rw [r g hg,<- m,qV,p.vals g.2 (j _ n)];refine gR x _ _ (λz J=>?_) g.2.p (b g hg) G;rw [hsp];unfold eN;rw [List.find?_append,List.find?_append];have:(f.nm == z)=false:=by rw [w];simpa using nM J
   simp only [List.find?_cons,this]
  have D:=rX (aT (A++B)) d (aO [x] (aT (A++B))) V λg hg=>mX _ _ g hg;rw [v] at D;rw [D] at C;subst C;have u:((A++B).map λg=>g.nm).Nodup:=p.nn.sublist (e.map _);have l:GS (eR (aT (A++B)) (pg (aT (A++B)) V (aO [x] (aT (A++B))))):=by
   refine ⟨?_,?_,⟨?_,?_⟩,?_,?_⟩
   ·have:(eR (aT (A++B)) (pg (aT (A++B)) V (aO [x] (aT (A++B))))).map Prod.fst=(aT (A++B)).map Prod.fst:=G7;rw [this];exact d
   ·have:(eR (aT (A++B)) (pg (aT (A++B)) V (aO [x] (aT (A++B))))).map (λg=>g.2.nm)=((aT (A++B)).map Prod.snd).map λg=>g.nm:=G7;rw [this,cW];exact u
   ·unfold eR;exact jz.2 (a.1.imp λh=>h)
   ·intro g hg;obtain ⟨y,o,rfl⟩:=bU.1 hg;exact a.2 y o
   ·intro g hg;obtain ⟨y,o,rfl⟩:=bU.1 hg;exact b y o
   ·intro g hg;obtain ⟨y,o,rfl⟩:=bU.1 hg;rw [pd];exact c y o
  refine ⟨(RZ l.nb).1 l,A,f,B,hsp,w,?_⟩;rw [vV,cW]
def UA (fs:List Fd) (x y z:By) (b:z≠x) (a:z≠y):eN (fs.map (dN x y)) z=eN fs z:=by
 unfold eN;rw [oI];have:((λf:Fd=>f.nm == z) ∘ dN x y)=λf=>f.nm == z:=by
  funext f;simp only [Function.comp,dN];by_cases h:f.nm=x
  ·rw [aB h,h,bo.2 (nM a),bo.2 (nM b)]
  ·rw [aA h]
 rw [this];cases fs.find? (λf=>f.nm == z)<;>rfl
def Ai {fs:List Fd} {x y:By} {t:List Fd} {O:List By} (K:GF fs) (E:∀ f,f∈fs->f.nm≠[]) (D:y≠[]) (h:kr fs x y=.ok t O) :
  GF t/\(∃ f,f∈fs/\f.nm=x)/\(∀ f,f∈fs->f.nm≠y)/\(t.map λg=>(g.nm,g.p)).Perm ((fs.map (dN x y)).map λg=>(g.nm,g.p)):=by
 unfold kr at h;cases U:fs.findIdx? (λf=>f.nm == x) with
 | none=>rw [U] at h;cases h
 | some i=>
  rw [U] at h;obtain ⟨f,W,P⟩:=ft U;simp only [W] at h;split at h
  ·cases h
  ·rename_i hy;split at h
   ·cases h
   ·have l:∀ g,g∈fs->g.nm≠y:=λg hg e=>by
     cases hh:fs.find? (λf=>f.nm == y) with
     | some k=>rw [hh] at hy;simp at hy
     | none=>
      have:=rp.1 hh g hg;simp [e] at this
    have C:f∈fs:=oG W;have N:x≠[]:=by rw [<- P];exact E f C
    have F:y≠x:=λe=>l f C (by rw [P,e]);obtain ⟨hsp,R⟩:=qO W;generalize hA:fs.take i=A at *;generalize hB:fs.drop (i+1)=B at *;subst R;have c:fs.map (dN x y)=A.map (dN x y)++dN x y f::B.map (dN x y):=OA;have L:(A.map (dN x y)).length=(G A):=aq;rw [c,<- L] at h;have d:∀ g,g∈A++B->g∈fs/\g.nm≠x:=λg hg=>by
     have s:=K.nn;rw [hsp,fK,fL] at s;have q:=(sZ (a:=f.nm) (l₁:=A.map λg=>g.nm) (l₂:=B.map λg=>g.nm)).nodup_iff.1 s;rw [jB] at q;refine ⟨?_,λe=>q.1 ?_⟩
     ·exact MN
     ·rw [P,<- e,<- fK];exact iJ hg
    have JA:∀ g,g∈A++B->(dN x y g).nm=g.nm:=λg hg=>by
     unfold dN;rw [aA (d g hg).2]
    have Q:(dN x y f).nm=y:=by unfold dN;rw [aB P]
    have r:∀ z p,z≠[]->z≠x->z≠y->aC z (aR x y p)=aC z p:=λz p n q V=>by
     rw [j9 x y z N D n F,aA q,aA V]
    have w:∀ v,v∈A.map (dN x y)++B.map (dN x y)->∃ g,g∈A++B/\dN x y g=v:=λv hg=>by
     rw [<- fK] at hg;obtain ⟨g,n,q⟩:=bU.1 hg;exact ⟨g,n,q⟩
    obtain ⟨r1,r2,r3⟩:=qp (A.map (dN x y)) (B.map (dN x y)) (dN x y f) t O (by
     have s:=K.nn;rw [hsp,fK,fL] at s;have q:=(sZ (a:=f.nm) (l₁:=A.map λg=>g.nm) (l₂:=B.map λg=>g.nm)).nodup_iff.1 s;rw [jB] at q;rw [fK,fL,Q];have e1:(A.map (dN x y)).map (λg=>g.nm)=A.map λg=>g.nm:=YH;have e2:(B.map (dN x y)).map (λg=>g.nm)=B.map λg=>g.nm:=YH;rw [e1,e2];refine (sZ (a:=y) (l₁:=A.map λg=>g.nm) (l₂:=B.map λg=>g.nm)).nodup_iff.2 ?_;rw [jB];refine ⟨λH=>?_,q.2⟩;rw [<- fK] at H;obtain ⟨g,hg,e⟩:=bU.1 H;exact l g (d g hg).1 e) (by
     rw [<- c,L];have J:∀ j (Y:j<G fs),j≠(G A)->fs[j]∈A++B:=λj Y Z=>by
      have e:fs[j]?=(A++f::B)[j]?:=by rw [<- hsp]
      rw [cU Y] at e;by_cases V:j<G A
      ·rw [sy V] at e;have:=oG e.symm;simp [this]
      ·rw [qx ae] at e;obtain ⟨m,H⟩:∃ m,j - G A=m+1:=⟨j - G A - 1,ae⟩;rw [H,List.getElem?_cons_succ] at e;have:=oG e.symm;simp [this]
     refine R4 fs _ (G A) aq (dN x y) (λj Y hj' _=>aq) (λa b ha hb n q _ h4=>?_) K.vT.1;have u:=J b hb q;rw [JA _ u];show aC fs[b].nm (aR x y fs[a].p)=false;rw [r _ _ (E _ (d _ u).1) (d _ u).2 (l _ (d _ u).1)];exact h4) (λv hg=>by
     obtain ⟨g,n,rfl⟩:=w v hg;rw [JA g n];show aC g.nm (aR x y g.p)=false;rw [r _ _ (E _ (d _ n).1) (d _ n).2 (l _ (d _ n).1)];exact K.self g (d g n).1) (λv hg=>by
     rw [<- c] at hg;obtain ⟨g,n,rfl⟩:=bU.1 hg;exact iN x y g.p (K.shape g n)) (λv hg H=>by
     obtain ⟨g,n,rfl⟩:=w v hg;rw [Q] at H;have o:aC y (aR x y g.p)=false:=H;rw [j9 x y y N D D F,aA F,aB rfl] at o;have S:aC x g.p=false:=by simp at o;exact o.1
     have X:aC y g.p=false:=by simp at o;exact o.2
     show g.v=cD _ (aR x y g.p);rw [ig x y g.p S,<- c,qV,K.vals g (d g n).1];have M:=K.shape g (d g n).1;rw [gR x (eN fs) (λz=>if z=x then eN (fs.map (dN x y)) z else eN fs z) (λz T=>by simp [T]) g.p M S];refine gR y _ _ (λz T=>?_) g.p M X;by_cases e:z=x
     ·simp [e]
     ·simp [e,UA fs x y z e T]) h
    refine ⟨r1,⟨f,C,P⟩,l,?_⟩;rw [c];exact r3
section
variable {e k:Nat} {F:Nat->Prop} {w w' W w1 w2 w3 Z:zW} {a:Ab} {nm:List By} {bn:Option zD} {ln cn:Nat} {x:By}
def pX (fs:List Fd) (x:By):Int × Int × Int:=match fs.find? (λf=>f.nm == x) with
 | some f=>(0,f.v.1,f.v.2)
 | none=>(5,0,0)
def vU (fs:List Fd) (x:By):Int × By:=match fs.find? (λf=>f.nm == x) with
 | some f=>(0,txt f.p)
 | none=>(5,[])
def Fp (fs:List (Nat × Fd)) (x:By):(fs.map Prod.snd).find? (λf=>f.nm == x)=(findF fs x).map Prod.snd:=by
 rw [oI];rfl
def eG.ui (h:eG w e F k a):∃ S d c fs,Sh w S d fs/\fs.map Prod.snd=a.fs/\(G fs)<=10/\w.cell? ⟨e,0,none⟩=some (.slice d (G fs) c)/\e<w.heap.size:=by
 obtain ⟨S,D,σ,l,p,j,i,g,m,f,h2,q,n,o⟩:=h;obtain ⟨d,c,hs,_,_,b⟩:=f.ph.sh;exact ⟨S,d,c,σ.fs,hs,h2.fs.symm,Z0,(bJ b).1.1,f.ph.lt⟩
def eG.value (h:eG W e F k a) {b cn:Nat} (m:W.cell? ⟨b,0,none⟩=some (zG x)) (j:b<W.heap.size):zC prog 70 #[zJ e,j7 9 (some ⟨b,0,none⟩) 1 cn 0 [] 0 none 0 0] W (uY (pX a.fs x).1 [] (pX a.fs x).2.1 (pX a.fs x).2.2 [] W):=by
 refine (K3 e b cn x (pX a.fs x).2.1 (pX a.fs x).2.2 (pX a.fs x).1 W m j λi d=>?_).m ?_
 ·obtain ⟨S,o,c,fs,f,g,p,l,n⟩:=(h.next d).ui;refine (ack x e c o fs i f l n ae).m ?_;rintro r w' ⟨rfl,hb⟩;refine ⟨?_,hb⟩;unfold pX;rw [<- g,Fp];cases findF fs x<;>rfl
 ·exact MR
def eG.rule (h:eG W e F k a) (o:Env W) {d cn:Nat} (q:W.cell? ⟨d,0,none⟩=some (zG x)) (n:d<W.heap.size):zC prog 70 #[zJ e,j7 10 (some ⟨d,0,none⟩) 1 cn 0 [] 0 none 0 0] W (uY (vU a.fs x).1 (vU a.fs x).2 0 0 [] W):=by
 refine (P2 e d cn x (vU a.fs x).2 (vU a.fs x).1 W q n λm b=>?_).m ?_
 ·obtain ⟨S,t,c,fs,j,l,u,p,s⟩:=(h.next b).ui;refine (aff x e c t fs m j (o.next b) p s ae).m ?_;rintro r w' ⟨hb,g⟩;refine ⟨?_,hb⟩;unfold vU;rw [<- l,Fp];cases i:findF fs x with
  | none=>rw [i] at g;exact g
  | some f=>rw [i] at g;exact g
 ·exact MR
def eG.order (h:eG W e F k a) (j:Option zD) (i m:Nat):zC prog 70 #[zJ e,j7 12 j i m 0 [] 0 none 0 0] W (uY 0 [] 0 0 (a.fs.map λf=>f.nm) W):=by
 refine (P3 e j i m (a.fs.map λf=>f.nm) W λs n=>?_).m ?_
 ·obtain ⟨S,w,c,fs,d,p,z,t,y⟩:=(h.next n).ui;refine (acm e c w fs s d t ae).m ?_;rintro r w' ⟨v,rfl,b,o⟩;obtain ⟨bn,ln,cn,rfl⟩:=b7 b;have e1:cJ fs=a.fs.map λf=>f.nm:=by
   rw [<- p,fM];rfl
  have q:(G fs)=(a.fs.map λf=>f.nm).length:=by rw [<- p];simp
  rw [e1,q] at b;exact ⟨bn,ln,cn,rfl,b,o⟩
 ·rintro r w' ⟨bn,ln,cn,rfl,b,o⟩;have l:ln=(a.fs.map λf=>f.nm).length:=by
   rcases b.2 with d|⟨g,u,x,d,_⟩
   ·have:=d.1;cases this;exact d.2.symm
   ·cases d;rfl
  rw [<- l] at b;exact ⟨bn,ln,cn,rfl,l,b,o⟩
def afg (M:Nat) (d:M<=6) (w:zW):zC prog 45 #[zI M] w λr w'=>∃ e,r=.returned (.tuple #[zJ e,zI 0])/\zB w w'/\eG w' e (λq=>w.heap.size<=q/\q<w'.heap.size) 0 ⟨M,[],[],[],none⟩:=by
 refine (ai7 M d w).m ?_;rintro r w' ⟨rfl,rfl⟩;have a:=bL w (.cells #[zN,zI M,zN,zN,.bool false,zN] 108);refine ⟨w.heap.size,rfl,(aM _ _).alloc (aG _) _,λ_=>False,λ_=>False,⟨[],λ_=>⟨[],.atom 0 [] 0,(0,0)⟩⟩,zN,zN,zN,[],[],[],⟨⟨λ_ h=>h.elim,λh=>h,λh=>h,λ_ h=>h.elim,λb c=>by simp at c,none,0,λj hj=>G9,aG _,λ_=>rfl,a⟩,⟨_,_,dP.nil _ _ _ _⟩,⟨_,_,dP.nil _ _ _ _⟩,⟨_,_,dP.nil _ _ _ _⟩,λq hq=>pK,λq hq=>pK,λq hq=>pK,d,aq⟩,⟨⟨aq,λb c=>by simp at c,?_,aq,λf i=>by simp [bg.fs] at i⟩,rfl,λu g=>by simp [fY] at g,rfl,trivial,trivial⟩,aG _,?_,λq hq=>hq.2⟩
 ·exact ⟨GR,GR,by simp [bg.fs,aT,Db],GR,GR⟩
 ·rintro q (h|h|h|h|h|h)
  ·exact h.elim
  ·subst h;exact ⟨aG _,aq⟩
  ·exact h.elim
  ·simp [Value.ownBlock] at h
  ·simp [Value.ownBlock] at h
  ·simp [Value.ownBlock] at h
variable {S S' S1 O:Nat->Prop} {D C X P R T:Nat->Prop} {σ σ0 σ1:bg} {v0 v1 v2 v3 v4 v5 v v':zV} {te:TypeId} {U:zW} {M:Nat} {V K H:zV} {dn ud gr:List (List Wr)} {op:Bool} {fs Z:List Fd} {y:By} {p:Pt} {aJ:List By}
def Dg:∀ {l:List (By × Int)} {t:By} {m:Int},iA l t=some m->∃ x,x∈l/\x.2=m
 | [],_,_,h=>ir
 | (x,k)::r,t,m,h=>by
  unfold iA at h;split at h
  ·exact ⟨(x,k),aq,dp h⟩
  ·obtain ⟨y,h1,a⟩:=Dg h;exact ⟨y,yN,a⟩
def P0:∀ x,x∈dX->x.2≠2:=ai
def ai6 {ts:List (By × Nat)} (e:fV ts) {i:Nat} (h:kN ts i=2):nT ts i≠[]/\(nT ts i).length<=6:=by
 have g:=CJ (ts:=ts) (i:=i) yJ;obtain ⟨a,c,r,k,o,n⟩:=e.get g;unfold kN at h;unfold nT;rw [aB g] at h ⊢;rw [k] at h a ⊢;unfold fU at h;unfold ej eh;by_cases b:headD (c::r)=true
 ·rw [aB b] at h;cases h
 ·rw [aA b] at h ⊢;rw [aA b];cases f:fH (c::r) with
  | some m=>
   rw [f] at h;obtain ⟨x,l,j⟩:=Dg f;exact absurd (j.t h) (P0 x l)
  | none=>
   simp only [Option.isSome_none,sY,k8];refine ⟨aq,?_⟩;unfold di at a;rw [aA b] at a;by_cases d:j6 (c::r)=true
   ·rw [aB d] at a;simpa using a
   ·rw [aA d] at a;have:=pj c r (by simpa [j6] using d);rw [f,a] at this;cases this
def uX (h:(fs.map λg=>(g.nm,g.p)).Perm (Z.map λg=>(g.nm,g.p))):(G fs)=(G Z):=by
 have:=h.length_eq;simpa using this
def x7 (h:(fs.map λg=>(g.nm,g.p)).Perm (Z.map λg=>(g.nm,g.p))):∀ f,f∈fs->∃ g,g∈Z/\g.nm=f.nm:=λf b=>by
 obtain ⟨g,c,a⟩:=bU.1 (h.mem_iff.1 (bU.2 ⟨f,b,rfl⟩));exact ⟨g,c,eL Prod.fst a⟩
def kt.set (h:kt fs) (c:Shape p) (i:x≠[]/\(G x)<=6) (hs:mK fs x p=.ok Z aJ):kt Z:=by
 obtain ⟨j,d⟩:=Ag h.gf c hs;refine ⟨j,?_,λf e=>?_⟩
 ·have k:=h.len;rcases d with ⟨A,f,B,rfl,_,a⟩|⟨_,a,m⟩
  ·have:=uX a;simp at this k;omega
  ·have:=uX m;simp at this;omega
 ·rcases d with ⟨A,f0,B,rfl,l,a⟩|⟨_,_,a⟩
  ·obtain ⟨g,hg,b⟩:=x7 a f e;rw [<- b];simp only [cG,bQ] at hg;rcases hg with hg|rfl|hg
   ·exact h.xX g rI
   ·exact i
   ·exact h.xX g rI
  ·obtain ⟨g,hg,b⟩:=x7 a f e;rw [<- b];simp only [cG,iB] at hg;rcases hg with hg|rfl
   ·exact h.xX g hg
   ·exact i
def kt.del (h:kt fs) (hs:mL fs x=.ok Z aJ):kt Z:=by
 obtain ⟨c,A,f0,B,rfl,_,i⟩:=Ah h.gf hs;have a:=List.Perm.of_eq i;refine ⟨c,?_,λf e=>?_⟩
 ·have:=uX a;have d:=h.len;simp at this d;omega
 ·obtain ⟨g,hg,b⟩:=x7 a f e;rw [<- b];simp only [cG] at hg;rcases hg with hg|hg
  ·exact h.xX g rI
  ·exact h.xX g rI
def kt.ren (h:kt fs) (i:y≠[]/\(G y)<=6) (hs:kr fs x y=.ok Z aJ):kt Z:=by
 obtain ⟨k,_,_,e⟩:=Ai h.gf (λf a=>(h.xX f a).1) i.1 hs;refine ⟨k,?_,λf a=>?_⟩
 ·have:=uX e;have m:=h.len;simp at this;omega
 ·obtain ⟨g,l,j⟩:=x7 e f a;rw [<- j];obtain ⟨c,b,rfl⟩:=bU.1 l;unfold dN;by_cases d:c.nm=x
  ·rw [aB d];exact i
  ·rw [aA d];exact h.xX c b
def xG {i:Nat} {f:Fd} {c:Nat} (h:fq fs i f=.err c aJ):c≠0:=by
 unfold fq at h;split at h
 ·cases h
 ·cases h;decide
def UC {c:Nat} (h:mK fs x p=.err c aJ):c≠0:=by
 unfold mK at h;split at h
 ·exact Zk
 ·split at h
  ·cases h;decide
  ·exact xG h
def UD {c:Nat} (h:mL fs x=.err c aJ):c≠0:=by
 unfold mL at h;split at h
 ·cases h;decide
 ·cases h
def UE {c:Nat} (h:kr fs x y=.err c aJ):c≠0:=by
 unfold kr at h;split at h
 ·cases h;decide
 ·split at h
  ·cases h;decide
  ·split at h
   ·cases h;decide
   ·exact Zk
def Ks.low {B:Nat} (h:Ks P w w') (a:∀ q,P q->B<=q) (c:B<=w.heap.size):Below B w w':=⟨h.os,h.tape,h.output,h.size,λq d=>h.block q ae λb=>by have:=a q b;omega⟩
def eB.up {d:AR} {r:Ending} (f:zB w w1) (a:∀ b,b∈σ.ord->D b) (h:eB S e D σ v1 v2 v3 v4 v5 te d w1 r w'):Il (eB S e D σ v1 v2 v3 v4 v5 te d w) r w':=by
 have c:=eB.lift (S:=S) (D:=D) (w:=w) (λ_ h=>h) (λ_ h=>Or.inl h) (λ_ h=>h) (λ_ h=>Or.inl h) (Ks.of f) (λ_ _=>rfl) rfl a h;obtain ⟨g,ln,cn,bk,er,rfl,i⟩:=c.shape;exact ⟨g,ln,cn,bk,er,rfl,c⟩
def Il.o {Q:Ending->zW->Prop} {r:Ending} (h:Il Q r w'):Q r w':=by
 obtain ⟨_,_,_,_,_,_,h⟩:=h;exact h
def KY {r:Ending} (i:sL (.ok 1 [x] (some p)) (w.alloc bM) r w1) (v:Below (w.alloc bM).heap.size (w.alloc bM) w1) (u:Shape p) (n:Good p) (o:(txt p).length<=100):x6 e F a (mK a.fs x p) w r w1:=by
 have e1:(w.alloc bM).heap.size=w.heap.size+1:=aq;obtain ⟨E,ln,cn,al,k,l,rfl,b,y⟩:=i;obtain ⟨g,B,z,C,xE⟩:=b.form aq;simp at z;obtain ⟨rfl,rfl,rfl⟩:=z;have hc:=b.cellAt 0 aq;rw [e1] at v y;refine ⟨v,1,some ⟨g,0,none⟩,1,cn,p.k,p.nm,p.n,al,k,l,_,rfl,Or.inl rfl,λq j=>j,?_⟩;intro W hW S D σ v1 v2 v3 v4 v5 d s _ f m;rw [<- m];refine (KT e g cn x p.k p.nm p.n al k l W (eB S e D σ v1 v2 v3 v4 v5 108 (mK (σ.fs.map Prod.snd) x p) W) ?_ ?_ ?_).m λr w' h=>h.o
 ·exact MO
 ·have:=hW.size;omega
 ·intro A c;have t:dR A S p al k l:=((y.next λq j=>hW.block q j.2).wide s).next λq j=>c.block q (d.still q j);exact (ak6 (d.next c) f.nd f.len x p al k l t u n o).m λr w' h=>h.up c d.sub
def KZ {r:Ending} (c:sL (.ok 2 [x] none) (w.alloc bM) r w1) (k:Below (w.alloc bM).heap.size (w.alloc bM) w1):x6 e F a (mL a.fs x) w r w1:=by
 have e1:(w.alloc bM).heap.size=w.heap.size+1:=aq;obtain ⟨t,ln,cn,rfl,b⟩:=c;obtain ⟨g,n,l,s,xE⟩:=b.form aq;simp at l;obtain ⟨rfl,rfl,rfl⟩:=l;have hc:=b.cellAt 0 aq;rw [e1] at k;refine ⟨k,2,some ⟨g,0,none⟩,1,cn,0,[],0,none,0,0,λ_=>False,rfl,Or.inr (Or.inl rfl),λq m=>m.elim,?_⟩;intro W hW S D σ v1 v2 v3 v4 v5 i o _ f j;rw [<- j];refine (KU e g cn x 0 [] 0 none 0 0 W (eB S e D σ v1 v2 v3 v4 v5 108 (mL (σ.fs.map Prod.snd) x) W) ?_ ?_ ?_).m λr w' h=>h.o
 ·exact MO
 ·have:=hW.size;omega
 ·intro p d;exact (alf (i.next d) f.nd f.len x).m λr w' h=>h.up d i.sub
def K0 {r:Ending} (k:Env U) (d:zB U w) (hF:∀ q,F q->U.heap.size<=q) (l:sL (.ok 3 [x,y] none) (w.alloc bM) r w1) (n:Below (w.alloc bM).heap.size (w.alloc bM) w1) (C:x≠[]) (E:(G y)<=100):x6 e F a (kr a.fs x y) w r w1:=by
 have e1:(w.alloc bM).heap.size=w.heap.size+1:=aq;obtain ⟨O,ln,cn,rfl,b⟩:=l;obtain ⟨g,L,A,N,xE⟩:=b.form aq;simp at A;obtain ⟨rfl,rfl,rfl⟩:=A;have hc:=b.cellAt 0 aq;have p:=b.cellAt 1 aq;rw [e1] at n;have s:=n.size;have J:=d.size;rw [e1] at s;have i:zB U w1:=d.t (((aM _ _).alloc ae bM).t (n.m ae));refine ⟨n,3,some ⟨g,0,none⟩,2,cn,0,[],0,none,0,0,λ_=>False,rfl,Or.inr (Or.inr rfl),λq t=>t.elim,?_⟩;intro W hW S D σ v1 v2 v3 v4 v5 m K v f o;have B:=hW.size;rw [<- o];refine (KV e g cn x y 0 [] 0 none 0 0 W (eB S e D σ v1 v2 v3 v4 v5 108 (kr (σ.fs.map Prod.snd) x y) W) ?_ ?_ ?_ ?_).m λr w' h=>h.o
 ·exact MO
 ·rw [nu (a:=⟨g,1,none⟩) (hW.block g xE)];simpa [strs] using p
 ·omega
 ·intro H c;have z:=c.size;have j:zB U H:=(i.t (hW.m ae)).t (c.m ae);have u:(σ.fs.map λg=>g.2.nm).Nodup:=by
   have:=f.gf.nn;rw [fM] at this;exact this
  exact (alx (m.next c) (λP M=>k.below (j.t (M.low (λq t=>hF q (v q t)) ae)) k.size) f.nd u f.len x y C E).m λr w' h=>h.up c m.sub
end
section
inductive Ln where
 | err (vb er:Int) (p:Nat)
 | set (x:By) (p:Pt)
 | del (x:By)
 | ren (x y:By)
 | begin
 | kW
 | cancel
 | pS
 | pT
 | value (x:By)
 | rule (x:By)
 | list
 | order
def Ln.r:Ln->tR
 | .err a er p=>.err a er p
 | .set x p=>.ok 1 [x] (some p)
 | .del x=>.ok 2 [x] none
 | .ren x y=>.ok 3 [x,y] none
 | .begin=>.ok 4 [] none
 | .kW=>.ok 5 [] none
 | .cancel=>.ok 6 [] none
 | .pS=>.ok 7 [] none
 | .pT=>.ok 8 [] none
 | .value x=>.ok 9 [x] none
 | .rule x=>.ok 10 [x] none
 | .list=>.ok 11 [] none
 | .order=>.ok 12 [] none
def Lj (x:By):Prop:=x≠[]/\(G x)<=6
def Ln.Ok:Ln->Prop
 | .err _ er _=>er≠0
 | .set x p=>Lj x/\Shape p/\Good p/\(txt p).length<=100
 | .del x=>Lj x
 | .ren x y=>Lj x/\Lj y
 | .value x=>Lj x
 | .rule x=>Lj x
 | _=>True
variable {len n:Nat} {ts:List (By × Nat)} {vb:Int} {rl:Bool} {r Z:tR} {s:By}
def mZ.form (h:mZ len ts vb n rl r) (a:fV ts):(∃ er p,er≠0/\r=.err vb er p)\/((∀ i,i<n->Lj (nT ts (1+i)))/\((rl=false/\r=.ok vb (fC ts 1 n) none)\/(rl=true/\∃ t,Shape t/\Good t/\(txt t).length<=100/\r=.ok vb (fC ts 1 n) (some t)))):=by
 rcases h with ⟨j,_,_,_,rfl⟩|⟨f,h⟩
 ·exact Ns
 ·have d:∀ i,i<n->Lj (nT ts (1+i)):=λi g=>ai6 a (f i g);rcases h with ⟨_,_,rfl⟩|⟨b,_,rfl⟩|⟨_,_,rfl⟩|⟨b,_,er,p,k,_,_,h⟩
  ·exact Ns
  ·exact Or.inr ⟨d,Or.inl ⟨b,rfl⟩⟩
  ·exact Ns
  ·rcases h with ⟨e,rfl⟩|⟨_,_,_,rfl⟩|⟨_,_,t,c,_,l,rfl⟩
   ·exact Or.inl ⟨er,_,e,rfl⟩
   ·exact Or.inl ⟨7,_,ai,rfl⟩
   ·refine Or.inr ⟨d,Or.inr ⟨b,t,c.shape,c.good (a.drop _),ae,rfl⟩⟩
def acO (h:ew s r):∃ l:Ln,r=l.r/\l.Ok:=by
 rcases h with ⟨_,rfl⟩|⟨_,p,_,rfl⟩|⟨_,ts,d,h⟩
 ·exact ⟨.err 0 1 0,rfl,by simp [Ln.Ok]⟩
 ·exact ⟨.err 0 2 p,rfl,by simp [Ln.Ok]⟩
 ·have c:fV ts:=by
   have:=xI s;rw [d] at this;exact this
  rcases h with ⟨k,o,_,h⟩|⟨_,rfl⟩
  ·rcases h.form c with ⟨er,p,b,rfl⟩|⟨g,h⟩
   ·exact ⟨.err _ er p,rfl,b⟩
   ·have a:=g 0;have f:=g 1;have m:fC ts 1 0=[]:=rfl;have e1:fC ts 1 1=[nT ts 1]:=rfl;have i:fC ts 1 2=[nT ts 1,nT ts 2]:=rfl;rcases (show k=0\/k=1\/k=2\/k=3\/k=4\/k=5\/k=6\/k=7\/k=8\/k=9\/k=10\/k=11 from ae) with e|e|e|e|e|e|e|e|e|e|e|e<;>subst e<;>simp only [aQ,List.getElem_cons_zero,List.getElem_cons_succ,m,e1,i,sY,Bool.true_eq_false,reduceCtorEq,false_and,iK,false_or,true_and] at h a f
    ·obtain ⟨t,b,j,n,rfl⟩:=h;exact ⟨.set _ t,rfl,a ai,b,j,n⟩
    ·subst h;exact ⟨.del _,rfl,a ai⟩
    ·subst h;exact ⟨.ren _ _,rfl,a ai,f ai⟩
    ·subst h;exact ⟨.begin,rfl,trivial⟩
    ·subst h;exact ⟨.kW,rfl,trivial⟩
    ·subst h;exact ⟨.cancel,rfl,trivial⟩
    ·subst h;exact ⟨.pS,rfl,trivial⟩
    ·subst h;exact ⟨.pT,rfl,trivial⟩
    ·subst h;exact ⟨.value _,rfl,a ai⟩
    ·subst h;exact ⟨.rule _,rfl,a ai⟩
    ·subst h;exact ⟨.list,rfl,trivial⟩
    ·subst h;exact ⟨.order,rfl,trivial⟩
  ·exact ⟨.err 0 3 _,rfl,by simp [Ln.Ok]⟩
def Qh {n a:Nat} {K:List By} {x b:Int × Nat} (h:cF len n K ts=some x) (e:cF len a K ts=some b):x=b:=by
 have d:=r9 len n K ts x h a;have c:=r9 len a K ts b e n;rw [mP a n] at c;rw [d] at c;exact dp c
def mZ.uniq (h:mZ len ts vb n rl r) (d:mZ len ts vb n rl Z):r=Z:=by
 rcases h with ⟨j,w,h1,b,rfl⟩|⟨y,h⟩
 ·rcases d with ⟨q,i,l,e,rfl⟩|⟨m,_⟩
  ·rcases Nat.lt_trichotomy j q with o|o|o
   ·exact absurd (l j o) b
   ·rw [o]
   ·exact absurd (h1 q o) e
  ·exact absurd (m j w) b
 ·rcases d with ⟨q,i,l,e,rfl⟩|⟨m,d⟩
  ·exact absurd (y q i) e
  ·rcases h with ⟨h1,b,rfl⟩|⟨h1,b,rfl⟩|⟨h1,b,rfl⟩|⟨h1,b,er,p,B,_,k,x⟩
   ·rcases d with ⟨g1,a,rfl⟩|⟨g1,a,rfl⟩|⟨g1,a,rfl⟩|⟨g1,a,_⟩
    ·rfl
    ·exact absurd a b
    ·exact tB
    ·exact tB
   ·rcases d with ⟨g1,a,rfl⟩|⟨g1,a,rfl⟩|⟨g1,a,rfl⟩|⟨g1,a,_⟩
    ·exact absurd b a
    ·rfl
    ·exact tB
    ·exact tB
   ·rcases d with ⟨g1,a,rfl⟩|⟨g1,a,rfl⟩|⟨g1,a,rfl⟩|⟨g1,a,_⟩
    ·exact tB
    ·exact tB
    ·rfl
    ·exact absurd a b
   ·rcases d with ⟨g1,a,rfl⟩|⟨g1,a,rfl⟩|⟨g1,a,rfl⟩|⟨g1,a,A,C,v,_,c,g⟩
    ·exact tB
    ·exact tB
    ·exact absurd b a
    ·have s:=Qh k c;simp only [mI] at s;obtain ⟨rfl,rfl⟩:=s;rcases x with ⟨c1,rfl⟩|⟨c1,_,c2,rfl⟩|⟨c1,_,t,z,c2,c3,rfl⟩
     ·rcases g with ⟨d1,rfl⟩|⟨d1,_,d2,rfl⟩|⟨d1,_,u,f,d2,d3,rfl⟩
      ·rfl
      ·exact absurd d1 c1
      ·exact absurd d1 c1
     ·rcases g with ⟨d1,rfl⟩|⟨d1,_,d2,rfl⟩|⟨d1,_,u,f,d2,d3,rfl⟩
      ·exact absurd c1 d1
      ·rfl
      ·rw [d2] at d3;exact absurd c2 d3
     ·rcases g with ⟨d1,rfl⟩|⟨d1,_,d2,rfl⟩|⟨d1,_,u,f,d2,d3,rfl⟩
      ·exact absurd c1 d1
      ·rw [c2] at c3;exact absurd d2 c3
      ·rw [z.uniq f]
def Qi:∀ k (h:k<12) j (a:j<12),(aQ[k]'h).1=(aQ[j]'a).1->k=j:=ai
def ew.uniq (h:ew s r) (a:ew s Z):r=Z:=by
 rcases h with ⟨j,rfl⟩|⟨j,p,f,rfl⟩|⟨j,ts,f,h⟩
 ·rcases a with ⟨c,rfl⟩|⟨c,p,b,rfl⟩|⟨c,ts,b,a⟩
  ·rfl
  ·omega
  ·omega
 ·rcases a with ⟨c,rfl⟩|⟨c,m,b,rfl⟩|⟨c,ts,b,a⟩
  ·omega
  ·rw [f] at b;cases b;rfl
  ·rw [b] at f;cases f
 ·rcases a with ⟨c,rfl⟩|⟨c,m,b,rfl⟩|⟨c,ts',b,a⟩
  ·omega
  ·rw [f] at b;cases b
  ·rw [f] at b;simp only [mI,and_true] at b;subst b;rcases h with ⟨k,l,e,h⟩|⟨h,rfl⟩
   ·rcases a with ⟨i,d,g,a⟩|⟨a,rfl⟩
    ·obtain rfl:=Qi k l i d (e.t g.symm);exact h.uniq a
    ·exact absurd e (a k l)
   ·rcases a with ⟨i,d,g,a⟩|⟨a,rfl⟩
    ·exact absurd g (h i d)
    ·rfl
end
def abP (s:By) (l:Ln):Prop:=l.Ok/\∀ r,ew s r->r=l.r
def dgt (i:Nat):UInt8:=UInt8.ofNat (48+i)
def dg (i:Nat):By:=[dgt i]
end Go.Proofs.YtihgojcfpnhelaaGreatDoor
