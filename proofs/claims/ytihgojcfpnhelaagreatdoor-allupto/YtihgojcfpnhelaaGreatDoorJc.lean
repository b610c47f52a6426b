import Derived.Test.YtihgojcfpnhelaaGreatDoorBh
import Derived.Test.YtihgojcfpnhelaaGreatDoorHh
import Derived.Test.YtihgojcfpnhelaaGreatDoorIi
set_option maxRecDepth 100000
set_option maxHeartbeats 4000000
set_option linter.all false
namespace Go.Proofs.YtihgojcfpnhelaaGreatDoor
open Value renaming slice->B,agg->zd,tuple->zp,bool->zF,pointer->zK
open Obj renaming cells->zM
open Ending renaming returned->zP
open Option renaming some->A
open Or renaming inl->zR,inr->zZ
open Go renaming World->zW,Value->zV,Calls->zC,Addr->zD
open Go.RowKit Go.Proofs.Tryz
open List renaming length→G
section
variable {S S1 O:Nat->Prop} {e:Nat} {D:Nat->Prop} {σ σ0:bg} {v1 v2 v3 v4 v5:zV} {te:TypeId} {w w' W Z U:zW} {ws0 us:List Wr} {b N:Nat} {cs:Array zV}
def CA:∀ (l m:List Nat),l.Nodup->(∀ x,x∈l->x∈m)->G l<=G m
 | [],_,_,_=>bE _
 | x::r,m,b,C=>by
  rw [jB] at b;have c:x∈m:=C x (by simp);have:=CA r (m.erase x) b.2 λy d=>by
   have a:y≠x:=λe=>b.1 (e▸d);exact (List.mem_erase_of_ne a).2 (C y (by simp [d]))
  rw [List.length_erase_of_mem c] at this;have f:=List.length_pos_of_mem c;simp only [gS];omega
def qj {fs:List (Nat × Fd)} {x:By} (h:ah fs x=none):(fs.map Prod.snd).findIdx? (λf=>f.nm == x)=none:=by
 rw [Br];intro f a;obtain ⟨g,b,rfl⟩:=bU.1 a;have:=rp.1 h g b;simpa using this
def nk {fs:List (Nat × Fd)} {x:By} {f:Nat × Fd} (h:ah fs x=A f):∃ i,(fs.map Prod.snd).findIdx? (λf=>f.nm == x)=A i/\fs[i]?=A f:=by
 induction fs with
 | nil=>simp [ah] at h
 | cons g r b=>
  unfold ah at h;by_cases C:g.2.nm=x
  .rw [List.find?_cons_of_pos (by simpa using C)] at h;cases h;exact ⟨0,by simp [List.findIdx?_cons,C],rfl⟩
  .rw [List.find?_cons_of_neg (by simpa using C)] at h;obtain ⟨i,a,E⟩:=b h;refine ⟨i+1,?_,by simpa using E⟩;rw [fL,List.findIdx?_cons];simp [C,a]
def Be (σ:bg):σ.fs.map Prod.fst=σ.ord:=by simp [bg.fs,ry]
def OT {i:Nat} {f:Nat × Fd} (h:σ.fs[i]?=A f):σ.ord[i]?=A f.1/\f=(f.1,σ.mem f.1):=by
 unfold bg.fs at h;rw [kn] at h;obtain ⟨q,b,a⟩:=oF.1 h;subst a;exact ⟨b,rfl⟩
def Bp (i:Nat) (c:σ.ord.Nodup) (l:σ.ord[i]?=A b) (f:Fd):(σ.put b f).fs.map Prod.snd=(σ.fs.map Prod.snd).set i f:=by
 obtain ⟨d,a⟩:=fI.1 l;apply rC
 .simp [bg.fs,bg.put]
 .intro j g m;have k:j<σ.ord.length:=by simpa [bg.fs,bg.put] using g
  have e1:((σ.put b f).fs.map Prod.snd)[j]=(σ.put b f).mem σ.ord[j]:=by simp [bg.fs,bg.put]
  rw [e1,tj];by_cases e:i=j
  .subst e;rw [aB rfl,a,fN]
  .rw [aA e,dM]
   .simp [bg.fs]
   .rw [<- a];intro h;have:=xK _ c i d;rw [<- h,xK _ c j k] at this;exact e this.symm
def uL {l:List (Nat × Fd)} {i:Nat} {f:Nat × Fd} (h:l[i]?=A f):l=l.take i++f::l.drop (i+1)/\(l.take i).length=i:=by obtain ⟨C,rfl⟩:=fI.1 h;refine ⟨?_,by simp;omega⟩;rw [List.getElem_cons_drop,wa]
def Tu {fs gs:List (Nat × Fd)} {i:Nat} {f:Nat × Fd} (h:fs[i]?=A f) (b:dL fs i f=.ok gs):f∈gs:=by
 obtain ⟨c,d⟩:=uL h;rw [c] at b;have a:dL (fs.take i++f::fs.drop (i+1)) (fs.take i).length f=.ok gs:=by rw [d];exact b
 exact (wS _ _ gs f a).mem_iff.2 (by simp)
def CB {fs b:List (Nat × Fd)} {i:Nat} {f:Nat × Fd} (k:(fs.map Prod.fst).Nodup) (h:fs[i]?=A f) (g:dL fs i f=.dZ b):G b<=G fs:=by
 obtain ⟨e,j⟩:=uL h;obtain ⟨n,l⟩:=fI.1 h;have a:=(zY fs b i f n l g).1;have d:dL (fs.take i++f::fs.drop (i+1)) (fs.take i).length f=.dZ b:=by rw [j,<- e];exact g
 have c:=(Tv _ _ b f (by rw [<- e];exact k) d).2.1;have:=CA _ (fs.map Prod.fst) c λx m=>by
  obtain ⟨y,o,rfl⟩:=bU.1 m;exact iJ (a y o)
 simpa using this
structure Hh (S:Nat->Prop) (e:Nat) (D S' D':Nat->Prop) (nm:List By) (an:Option zD) (cn:Nat) (w w':zW):Prop where
 s0:∀ q,S q->S' q
 s1:∀ q,S' q->S q\/w.heap.size<=q
 d0:∀ q,D q->D' q
 d1:∀ q,D' q->D q\/w.heap.size<=q
 ks:Ks (λq=>q=e\/D q) w w'
 own:w'.ownsRow w.heap.size 9 1 (B an (G nm) cn) (G nm) (ab nm)
 ob:∀ q,(B an (G nm) cn).ownBlock=A q->¬ S' q
def eB (S:Nat->Prop) (e:Nat) (D:Nat->Prop) (σ:bg) (v1 v2 v3 v4 v5:zV) (te:TypeId) (h:AR) (w:zW) (r:Ending) (w':zW):Prop:=
 match h with
 | .ok K F=>∃ (b:Option zD) (E:Nat) (C d:Nat->Prop) (g:Nat) (a:Array zV) (H:bg) (f:List Wr),Hh S e D C d F b E w w'/\r=zP (zp #[B b (G F) E,.func (.func g) #[] a,J 0])/\(∀ q,D q->H.mem q=σ.mem q)/\H.ord=σ.ord/\cK w' C e d (aU f H) v1 v2 v3 v4 v5 te/\cO e d w' C g a (dz f H)/\(aU f H).fs.map Prod.snd=K
 | .err c F=>∃ (b:Option zD) (E:Nat) (C:Nat->Prop),Hh S e D C D F b E w w'/\r=zP (zp #[B b (G F) E,.nilFunc,J c])/\cK w' C e D σ v1 v2 v3 v4 v5 te
def kg (hs:List (Nat × Fd)):(cJ hs).length=G hs:=by simp [cJ]
def CC (at_ k:Nat) (a:Array zV) (h:cK w S e D σ v1 v2 v3 v4 v5 te) (y:aU ws0 σ0=σ) (g:cO e D w S k a (dz ws0 σ0)) (x:σ.ord.length<=100) (f:σ.ord[at_]?=A b) (d:σ.ord.Nodup) :
  zC prog 161 #[zJ e,zJ b,.func (.func k) #[] a] w (eB S e D σ0 v1 v2 v3 v4 v5 te (fq (σ.fs.map Prod.snd) at_ (σ.mem b)) w):=by
 have c:σ.fs[at_]?=A (b,σ.mem b):=by simp [bg.fs,f]
 have i:(σ.fs.map Prod.fst).Nodup:=by rw [Be];exact d
 rw [JW σ.fs i at_ (b,σ.mem b) c];have P:σ.fs.length=σ.ord.length:=(by simp [bg.fs]);cases j:dL σ.fs at_ (b,σ.mem b) with
 | ok M=>
  refine (OO at_ k a M h y g x f d j (Tu c j)).m ?_;rintro r w' ⟨t,K,C,m,H,F,rfl,l,n,v,p,u,s,z,E⟩;refine ⟨t,K,H,D,C,m,σ0,ws0++F,⟨v,λq o=>(p q o).imp id λh=>h.1,λ_ h=>h,λ_ h=>zR h,z,?_,?_⟩,?_,λ_ _=>rfl,rfl,u,s,by rw [E]⟩
  .rw [kg];exact l
  .rw [kg];exact n
  .rw [kg]
 | dZ L=>
  refine (Hg at_ k a L h y g x f d j (by have:=CB i c j;omega)).m ?_;rintro r w' ⟨t,K,H,rfl,l,n,v,p,u,s⟩;refine ⟨t,K,H,⟨v,λq o=>(p q o).imp id λh=>h.1,λ_ h=>h,λ_ h=>zR h,s,?_,?_⟩,?_,u⟩
  .rw [kg];exact l
  .rw [kg];exact n
  .rw [kg];rfl
variable {V:Nat->Prop} {Q5:Nat->Prop} {σ1 U:bg} {w1 w2 w3:zW} {ws1:List Wr} {Q6:Nat} {R:Array zV} {H:AR} {r:Ending} {hs gs:List (Nat × Fd)}
def Bs (g5:Ks (λq=>q=e\/D q) w w3) (ao:∀ q,S q->V q) (ar:∀ q,V q->S q\/(w.heap.size<=q/\∃ c t z,w3.heap[q]?=A (zM c t z))) (a:cK w3 V e D U v1 v2 v3 v4 v5 te) (C:aU ws1 σ0=U) (f:U.fs=gs) (P:cO e D w3 V Q6 R (dz ws1 σ0)) (hl:G hs<=400) (xE:U.ord.length<=400) (i:∀ x,x∈hs->x∈gs) (af:∀ q,S q->q<w.heap.size) (v:zV) (b:Z.ownsRow w3.heap.size 220 1 v (G hs) (cA hs)) (o:zB w3 Z) :
  (∀ W (s:zB Z W),zC prog 142 #[v] W λr w'=>∃ g cn,r=zP (B g (G hs) cn)/\w'.ownsRow W.heap.size 9 1 (B g (G hs) cn) (G hs) (ab (cJ hs))/\zB W w') /\
  (∀ (g:Option zD) (cn:Nat) W (s:zB Z W),W.ownsRow Z.heap.size 9 1 (B g (G hs) cn) (G hs) (ab (cJ hs))->zC prog 167 #[zJ e,v] W λr K=>∃ L l,r=zP (.func (.func L) #[] l)/\Hid (zC prog 72 #[zS K.heap.size 2 2] (K.alloc (zM #[.func (.func Q6) #[] R,.func (.func L) #[] l] 151)) λr w8=>∃ M m,r=zP (.func (.func M) #[] m)/\Cw S e D σ0 ws1 v1 v2 v3 v4 v5 te hs gs w (zP (zp #[B g (G hs) cn,.func (.func M) #[] m,J 0])) w8)):=by
 obtain ⟨a3,c3,h1,_,_,_⟩:=a.sh;rw [f] at h1;obtain ⟨ak,ck,rfl⟩:=eM b;have N:∀ x,x∈gs->x.1<w3.heap.size:=λx Q5=>(h1.bX x Q5).lt;refine ⟨λW s=>(uK _ _ _ W (((h1.next o).OS i b N).next s) (by omega)).m (by
  rintro r w' ⟨v,rfl,F,k⟩;obtain ⟨g,cn,rfl⟩:=eM F;exact ⟨g,cn,rfl,F,k⟩),λg cn W s H=>?_⟩
 have d:zB w3 W:=o.t (s.m o.size);have ac:∀ x,x∈hs->D x.1:=λx Q5=>by
  have:=i x Q5;rw [<- f] at this;obtain ⟨q,Q0,Y⟩:=bU.1 this;rw [<- Y];exact a.sub q Q0
 have Q4:=EL (w:=W) (S:=V) (e:=e) (D:=D) (σ:=U) (v1:=v1) (v2:=v2) (v3:=v3) (v4:=v4) (v5:=v5) (te:=te) ck ak (hs.map λx=>x.1) (a.next d) (by omega) (by simp;omega) (λhq hj=>by
  have h2:hq<G hs:=(by simpa using hj);obtain ⟨j,au,e5,aJ,h3⟩:=b.form (by omega);cases e5;refine ⟨by simpa using ac _ (bt h2),j,0,rfl,bG h3 s.size,by have:=a.lt;omega,λhD=>?_,?_⟩
  .have:=(a.bX j hD).lt;omega
  .rw [s.cell (p:=X j (0+hq)) h3,cS,b.cellAt hq (by omega)];unfold cA;rw [kn,cU h2];simp)
 rw [fy] at Q4;refine Q4.m ?_;rintro r K ⟨L,l,S7,rfl,m0,m1,am,QT,n⟩;refine ⟨L,l,rfl,?_⟩;have h5:Ks (λq=>q=e\/D q) w K:=(g5.t (Ks.of d)).t n;have T:∀ q,(B g (G hs) cn).ownBlock=A q->Z.heap.size<=q/\q<W.heap.size:=λq E=>H.lt q E;have av:=o.size;have ax:=s.size;have ay:=n.size;have a0:=g5.size;have EM:=a.lt;have aa:K.ownsRow Z.heap.size 9 1 (B g (G hs) cn) (G hs) (ab (cJ hs)):=iy H n λq E F=>by
  have:=(T q E).1;rcases F with F|F
  .omega
  .have:=(a.bX q F).lt;omega
 have sI:aU (ws1++gB U (hs.map λx=>x.1)) σ0=aU (gB U (hs.map λx=>x.1)) U:=by rw [lH,C]
 have OQ:=Bc (S:=S) (O:=λq=>w.heap.size<=q/\(B g (G hs) cn).ownBlock≠A q) (w:=w) (W:=K) (N1:=Q6) (cs1:=R) (N2:=L) (cs2:=l) (λq E=>⟨by omega,λF=>by have:=(T q F).2;omega⟩) (ws1:=ws1) (ws2:=gB U (hs.map λx=>x.1)) (σ:=σ0) (S1:=S7) (by rw [sI];exact am) (λq E=>m0 q (ao q E)) (λq E=>?_) ((P.next (λq E=>(n.block q (bG (a.still q E) d.size) (a.notP q E)).t (d.block q (a.still q E)))).wide m0 λ_ h=>h) (by rw [C];exact QT) h5
 .refine (OQ.all (by omega) (λq E=>⟨by simp at E;omega,λF=>by have:=(T q F).2;simp at E;omega⟩)).m ?_;rintro r w8 ⟨⟨M,m,S8,rfl,p0,p1,an,QV,al⟩,ag⟩;refine ⟨M,m,rfl,g,cn,M,m,S8,gB U (hs.map λx=>x.1),rfl,?_,λq E ad=>?_,p0,λq E=>(p1 q E).imp id λh=>⟨h.1.1,h.2⟩,an,QV,al,?_⟩
  .exact dS (aZ (aZ aa (bZ _)) ag) (by omega)
  .rcases p1 q ad with F|F
   .have:=af q F;have:=(T q E).1;omega
   .exact F.1.2 E
  .rw [sI,EK,f];intro q E;obtain ⟨x,Q5,rfl⟩:=bU.1 E;have:=i x Q5;rw [<- f] at this;obtain ⟨q,Q0,Y⟩:=bU.1 this;rw [<- Y];exact Q0
 .rcases m1 q E with F|⟨F,c,t,z,k⟩
  .rcases ar q F with u|⟨u,c,t,z,h4⟩
   .exact zR u
   .refine zZ ⟨⟨u,λy=>?_⟩,c,t,z,n.cells ((d.block q (a.still q F)).t h4) (a.notP q F)⟩;have:=a.still q F;have:=(T q y).1;omega
  .refine zZ ⟨⟨by omega,λy=>?_⟩,c,t,z,k⟩;have:=(T q y).2;omega
def BE (c:Nat) (a:Option zD) (fs:List (Nat × Fd)) (x:By) (hs:Sh w S a fs) (g:w.cell? (yh e)=A (B a (G fs) c)) (h:G fs<=100) (b:ah fs x=none) :
  zC prog 134 #[zJ e,Q x] w λr w'=>r=zP (zp #[zN,.nilFunc,J 5])/\w=w':=by
 have f:=I (kQ x e c a fs w hs g (by omega));rw [iQ,b] at f;have d:=I (show zC prog 137 #[zJ e,Q x] w λr w'=>r=zP (zK none)/\w=w' from f.o);clear hs g f;go_in;go_wp2_with (go_at_call 137;refine d.o.m ?_;rintro r w1 ⟨rfl,rfl⟩);refine aK (v:=zp #[zN,.nilFunc,J 5]) (by simp [results,results134,go_sem]) (by simp [go_sem]) ?_;exact ⟨rfl,rfl⟩
def BH (at_:Nat) (x:By) (h:cK w S e D σ v1 v2 v3 v4 v5 te) (Eb:σ.ord.Nodup) (hl:σ.ord.length<=100) (aa:σ.ord[at_]?=A b) (hf:ah σ.fs x=A (b,σ.mem b)) :
  zC prog 134 #[zJ e,Q x] w (Cw S e D σ [.ord (σ.ord.eraseIdx at_)] v1 v2 v3 v4 v5 te (aO [x] (σ.fs.eraseIdx at_)) (σ.fs.eraseIdx at_) w):=by
 obtain ⟨Q4,xF⟩:=fI.1 aa;have JS:σ.fs.length=σ.ord.length:=(by simp [bg.fs]);obtain ⟨lh,c,C,ak,OP,f⟩:=h.sh;have od:e<w.heap.size:=h.lt;obtain ⟨⟨e0,e1,e2,e3,e4,e5⟩,⟨z0,z1,z2,z3,z4,z5⟩,_⟩:=bJ f;have y:=I (kQ x e c lh σ.fs w C e0 (by omega));rw [Aa hf] at y;have HI:=I (qI lh c b at_ σ.fs w C (by omega) (by omega) (by simp [bg.fs,xF]) (λN1 hi al=>by
  have:=sW.1 Eb N1 at_ (by omega) Q4 al;simpa [bg.fs,<- xF] using this))
 have ad:at_<σ.fs.length:=(by omega);obtain ⟨s,T,rfl,Gn,ar⟩:=C.ptr at_ ad;have z6:(at_:Int)+1<=(σ.fs.length:Int):=(by omega);have z7:(σ.fs.length:Int)<=(c:Int):=(by omega);have bj:(at_:Int)+1<=(c:Int):=(by omega);have aJ:(at_:Int)<=(σ.fs.length:Int):=(by omega);have a2:(at_:Int)<=(c:Int):=(by omega);have a5:IntKind.i64.wrap ((at_:Int)+1)=(at_:Int)+1:=(by rw [IntKind.wrap_i64];omega);have z8:(at_:Int)<100:=(by omega);have z9:at_+1<=c:=(by omega);have a9:at_<c:=(by omega);have ba:at_<=c:=(by omega);have bb:at_+1<=σ.fs.length:=(by omega);have HS:=I C;have G:=I h;have Ty:=I (show σ.fs.length=σ.ord.length/\σ.fs.length<=100 from ⟨JS,by omega⟩);clear Gn ar C f h Eb aa xF Q4 JS hf OP ak hl;go_in;go_wp2_with (first|(go_at_call 137;refine y.o.m ?_;rintro r w1 ⟨rfl,rfl⟩)|(go_at_call 165;refine HI.o.m ?_;rintro r w1 ⟨rfl,rfl⟩));have Q0:b9 [σ.fs.take at_,σ.fs.drop (at_+1)]=σ.fs.eraseIdx at_:=by simp [b9,EB]
 have o:(⟨σ.ord.eraseIdx at_,σ.mem⟩:bg).fs=σ.fs.eraseIdx at_:=by
  unfold bg.fs;rw [EB,EB,fK,List.map_take,List.map_drop]
 have hq:(σ.fs.eraseIdx at_).length=(σ.ord.eraseIdx at_).length:=by rw [<- o];simp [bg.fs]
 have JX:(σ.fs.eraseIdx at_).length<=σ.fs.length:=List.length_eraseIdx_le _ _;have ln:=I (show ∀ (c4:Nat) (a:zD),lI w (B (A a) (σ.fs.length - (at_+1)) c4) (σ.fs.drop (at_+1))->zC prog 164 #[zS w.heap.size 2 2] (w.alloc (zM #[B (A (X s T)) at_ c,B (A a) (σ.fs.length - (at_+1)) c4] 101)).drew λr w2=>∃ d g F,r=zP (B d g F)/\Hid (zC prog 163 #[zJ e,B d g F] w2 λr w3=>∃ L M,r=zP (.func (.func L) #[] M)/\Hid (∃ p:Nat->Prop,(∀ q,S q->p q)/\(∀ q,p q->S q\/(w.heap.size<=q/\∃ c t z,w3.heap[q]?=A (zM c t z)))/\cK w3 p e D ⟨σ.ord.eraseIdx at_,σ.mem⟩ v1 v2 v3 v4 v5 te/\cO e D w3 p L M [.ord σ.ord]/\Ks (λq=>q=e\/D q) w w3)) from λc4 a i=>by
  have H:zB w (w.alloc (zM #[B (A (X s T)) at_ c,B (A a) (σ.fs.length - (at_+1)) c4] 101)).drew:=(bZ _).drew;have f:(w.alloc (zM #[B (A (X s T)) at_ c,B (A a) (σ.fs.length - (at_+1)) c4] 101)).drew.heap[w.heap.size]?=A (zM #[B (A (X s T)) at_ c,B (A a) (σ.fs.length - (at_+1)) c4] 101 (0,0)):=bL w _;have JY:(w.alloc (zM #[B (A (X s T)) at_ c,B (A a) (σ.fs.length - (at_+1)) c4] 101)).drew.heap.size=w.heap.size+1:=(by simp);generalize (w.alloc (zM #[B (A (X s T)) at_ c,B (A a) (σ.fs.length - (at_+1)) c4] 101)).drew=W at *;have av:=HS.o.next H;have r0:W.cell? (yh w.heap.size)=A (B (A (X s T)) at_ c):=(bq _ _ 0 _ _ _ f).t rfl;have r1:W.cell? (X w.heap.size 1)=A (B (A a) (σ.fs.length - (at_+1)) c4):=(bq _ _ 1 _ _ _ f).t rfl;have p0:lI W (B (A (X s T)) at_ c) (σ.fs.take at_):=by
   have:=av.part 0 at_ c (by omega);simpa using this
  have p1:=i.next H;refine (rK [σ.fs.take at_,σ.fs.drop (at_+1)] [B (A (X s T)) at_ c,B (A a) (σ.fs.length - (at_+1)) c4] w.heap.size 2 W rfl (by omega) (λN1 hi=>?_) (by rw [Q0];have:=Ty.o.2;omega) (by simp)).m ?_
  .rcases (show N1=0\/N1=1 by simp at hi;omega) with rfl|rfl
   .exact ⟨r0,p0⟩
   .exact ⟨r1,p1⟩
  .rintro r w2 ⟨a8,rfl,R,af⟩;rw [Q0] at R;obtain ⟨d,F,rfl⟩:=eM R;refine ⟨d,_,F,rfl,?_⟩;have h4:zB w w2:=H.t (af.m H.size);have a4:=H.size;have N:∀ q,(B d (σ.fs.eraseIdx at_).length F).ownBlock=A q->W.heap.size<=q/\q<w2.heap.size:=λq K=>R.lt q K;have an:∀ q,(B d (σ.fs.eraseIdx at_).length F).ownBlock=A q->∃ c t z,w2.heap[q]?=A (zM c t z):=λq K=>by
    rcases R.2 with ⟨P,_⟩|⟨HF,q2,w6,P,_,i,_⟩
    .rw [P] at K;simp [Value.ownBlock] at K
    .rw [P] at K;simp [Value.ownBlock] at K;subst K;exact ⟨_,_,_,i⟩
   have a0:=G.o.lt;have yA:cK w2 (λq=>S q\/(B d (σ.fs.eraseIdx at_).length F).ownBlock=A q) e D σ v1 v2 v3 v4 v5 te:=(G.o.next h4).wide (λq K=>zR K) λq K=>K.imp id λn=>⟨(N q n).2,by have:=(N q n).1;omega,λh2=>by have:=(G.o.bX q h2).lt;have:=(N q n).1;omega⟩;have au:jQ w2 (λq=>S q\/(B d (σ.fs.eraseIdx at_).length F).ownBlock=A q) d (σ.ord.eraseIdx at_):=λh3 hj=>by
    have ac:h3<(σ.fs.eraseIdx at_).length:=(by omega);obtain ⟨g5,ay,e5,_,_⟩:=R.form (by omega);cases e5;refine ⟨g5,0,rfl,zZ rfl,?_⟩;rw [cS,R.cellAt h3 (by omega)];unfold cA;rw [kn,cU ac];have e6:((σ.fs.eraseIdx at_)[h3]).1=(σ.ord.eraseIdx at_)[h3]:=by
     have:(σ.fs.eraseIdx at_).map Prod.fst=σ.ord.eraseIdx at_:=by rw [<- o,Be]
     rw [<- kJ Prod.fst]
     .simp only [this]
     .simpa using ac
    simp [e6]
   have O:=Hf yA (σ.ord.eraseIdx at_) d F (λq K=>G.o.sub q (List.mem_of_mem_eraseIdx K)) au (by
    rcases R.2 with ⟨P,i⟩|⟨HF,q2,w6,P,_,_,i,_⟩
    .omega
    .cases P;omega) (λn=>by
    rcases R.2 with ⟨P,i⟩|⟨HF,q2,w6,P,_⟩
    .simp at P;exact P.2.2
    .rw [n] at P;cases P)
   rw [<- hq] at O;refine O.m ?_;rintro r w3 ⟨L,M,p,rfl,q0,q1,u,q3,q4⟩;refine ⟨L,M,rfl,p,λq K=>q0 q (zR K),λq K=>?_,u,q3,(Ks.of h4).t q4⟩;rcases q1 q K with (n|n)|n
   .exact zR n
   .obtain ⟨cc,t,z,h2⟩:=an q n;exact zZ ⟨by have:=(N q n).1;omega,cc,t,z,q4.cells h2 (yA.notP q (zZ n))⟩
   .exact zZ ⟨bf h4.size n.1,n.2⟩)
 have QV:=I (show ∀ (L:Nat) (M:Array zV) (w3:zW),(∃ p:Nat->Prop,(∀ q,S q->p q)/\(∀ q,p q->S q\/(w.heap.size<=q/\∃ c t z,w3.heap[q]?=A (zM c t z)))/\cK w3 p e D ⟨σ.ord.eraseIdx at_,σ.mem⟩ v1 v2 v3 v4 v5 te/\cO e D w3 p L M [.ord σ.ord]/\Ks (λq=>q=e\/D q) w w3) ->
   zC prog 166 #[zJ e,Q x] w3 λr Z=>∃ Q6 m Y,r=zP (B Q6 m Y)/\Hid (zC prog 142 #[B Q6 m Y] Z λr v=>∃ d g F,r=zP (B d g F)/\Hid (zC prog 167 #[zJ e,B Q6 m Y] v λr w7=>∃ N7 cn,r=zP (.func (.func N7) #[] cn)/\Hid (zC prog 72 #[zS w7.heap.size 2 2] (w7.alloc (zM #[.func (.func L) #[] M,.func (.func N7) #[] cn] 151)) λr w8=>∃ N8 QT,r=zP (.func (.func N8) #[] QT)/\Cw S e D σ [.ord (σ.ord.eraseIdx at_)] v1 v2 v3 v4 v5 te (aO [x] (σ.fs.eraseIdx at_)) (σ.fs.eraseIdx at_) w (zP (zp #[B d g F,.func (.func N8) #[] QT,J 0])) w8))) by
  rintro L M w3 ⟨p,q0,q1,u,q3,q4⟩;obtain ⟨a3,c3,C3,_,_,C2⟩:=u.sh;rw [o] at C3 C2;have a1:=Ty.o.2;refine (zX x e c3 a3 (σ.fs.eraseIdx at_) w3 C3 (bJ C2).1.1 u.lt (by omega)).m ?_;rintro r Z ⟨vh,rfl,Q5,rG⟩;have Tn:=Cy [x] (σ.fs.eraseIdx at_);obtain ⟨t1,t2⟩:=Bs (S:=S) (w:=w) (σ0:=σ) (ws1:=[.ord (σ.ord.eraseIdx at_)]) (hs:=aO [x] (σ.fs.eraseIdx at_)) (gs:=σ.fs.eraseIdx at_) q4 q0 q1 u rfl o q3 (by omega) (by rw [<- hq];omega) (λax hy=>mX _ _ ax hy) G.o.still vh Q5 rG;obtain ⟨Q6,Y,rfl⟩:=eM Q5;refine ⟨Q6,_,Y,rfl,(t1 Z (aM _ _)).m ?_⟩;rintro r v ⟨d,F,rfl,ao,ag⟩;exact ⟨d,_,F,rfl,t2 d F v ag ao⟩)
 have U:=HS.o;by_cases y3:c=at_+1
 .have E:=I (ln.o 0 (X s T) (by
   have e1:σ.fs.length - (at_+1)=0:=(by omega);rw [e1,nY (by omega)];exact lI.empty _ _ _))
  subst y3;clear ln U Q0 o hq JX y HI;go_wp2_with fail
  go_region_with (first|(go_at_call 164;refine E.o.m ?_;rintro r w2 ⟨d,g,F,rfl,j⟩)|(go_at_call 163;refine j.o.m ?_;rintro r w3 ⟨L,M,rfl,k⟩))
  all_goals have C4:=I (QV.o L M w3 k.o)
  all_goals clear j k E QV
  all_goals go_wp2_with (first|(go_at_call 166;refine C4.o.m ?_;rintro r Z ⟨Q6,m,Y,rfl,C5⟩)|(go_at_call 142;refine C5.o.m ?_;rintro r v ⟨am,lm,cm,rfl,C6⟩)|(go_at_call 167;refine C6.o.m ?_;rintro r w7 ⟨N7,cn,rfl,C7⟩)|(go_at_call 72;refine C7.o.m ?_;rintro r w8 ⟨N8,QT,rfl,l⟩;have V:=I l;clear l))
  all_goals go_ret3
  all_goals exact V.o
 .have E:=I (ln.o (c - (at_+1)) (X s (T+(at_+1))) (by
   have:=U.part (at_+1) (σ.fs.length - (at_+1)) (c - (at_+1)) (by omega);rw [qy (by simp)] at this;exact this))
  clear ln U Q0 o hq JX y HI;go_wp2_with fail
  go_region_with (first|(go_at_call 164;refine E.o.m ?_;rintro r w2 ⟨d,g,F,rfl,j⟩)|(go_at_call 163;refine j.o.m ?_;rintro r w3 ⟨L,M,rfl,k⟩))
  all_goals have C4:=I (QV.o L M w3 k.o)
  all_goals clear j k E QV
  all_goals go_wp2_with (first|(go_at_call 166;refine C4.o.m ?_;rintro r Z ⟨Q6,m,Y,rfl,C5⟩)|(go_at_call 142;refine C5.o.m ?_;rintro r v ⟨am,lm,cm,rfl,C6⟩)|(go_at_call 167;refine C6.o.m ?_;rintro r w7 ⟨N7,cn,rfl,C7⟩)|(go_at_call 72;refine C7.o.m ?_;rintro r w8 ⟨N8,QT,rfl,l⟩;have V:=I l;clear l))
  all_goals go_ret3
  all_goals exact V.o
variable {H:Nat->Prop} {U:Nat->Prop} {Q5:bg} {V:zW} {Z:Array zV} {R:AR}
def Cw.aeh {fs:List Fd} {nm:List By} (h:Cw S e D σ0 ws0 v1 v2 v3 v4 v5 te hs gs w r w') (c:(iR gs (hs.map λx=>x.1)).map Prod.snd=fs) (g:cJ hs=nm):eB S e D σ0 v1 v2 v3 v4 v5 te (.ok fs nm) w r w':=by
 obtain ⟨o,E,i,a,C,n,rfl,b,d,l,k,j,f,s,p⟩:=h;subst g;refine ⟨o,E,C,D,i,a,σ0,ws0++n,⟨l,λq m=>(k q m).imp id λh=>h.1,λ_ h=>h,λ_ h=>zR h,s,?_,?_⟩,?_,λ_ _=>rfl,rfl,j,f,by rw [p,c]⟩
 .rw [kg];exact b
 .rw [kg];exact d
 .rw [kg]
def OU (gs:List (Nat × Fd)) (a:(gs.map Prod.fst).Nodup) (on:List By):(iR (aT (gs.map Prod.snd)) ((aO on (aT (gs.map Prod.snd))).map λx=>x.1)).map Prod.snd=(iR gs ((aO on gs).map λx=>x.1)).map Prod.snd/\cJ (aO on (aT (gs.map Prod.snd)))=cJ (aO on gs):=by
 rw [<- xL gs a,uM];have e:((aO on gs).map (cV λb=>(gs.map Prod.fst).idxOf b)).map (λx=>x.1)=((aO on gs).map λx=>x.1).map (λb=>(gs.map Prod.fst).idxOf b):=by
  rw [fM,fM];rfl
 rw [e,yS]
 .refine ⟨?_,?_⟩
  .simp [cV,ry]
  .simp [cJ,cV,ry]
 .intro k d g c h;obtain ⟨x,f,rfl⟩:=bU.1 d;exact CD gs _ _ (iJ c) (iJ (mX _ _ x f)) h
def CE {C E:Type} (f:C->E) (l:List C) (i:Nat):(l.eraseIdx i).map f=(l.map f).eraseIdx i:=by rw [EB,EB,fK,List.map_take,List.map_drop]
def BN (h:cK w S e D σ v1 v2 v3 v4 v5 te) (b:σ.ord.Nodup) (y:σ.ord.length<=10) (x:By) :
  zC prog 134 #[zJ e,Q x] w (eB S e D σ v1 v2 v3 v4 v5 te (mL (σ.fs.map Prod.snd) x) w):=by
 have p:σ.fs.length=σ.ord.length:=(by simp [bg.fs]);unfold mL;cases d:ah σ.fs x with
 | none=>
  rw [qj d];obtain ⟨a,c,hs,v,u,g⟩:=h.sh;refine (BE c a σ.fs x hs (bJ g).1.1 (by omega) d).m ?_;rintro r w' ⟨rfl,rfl⟩;exact ⟨none,0,S,⟨λ_ h=>h,λ_ h=>zR h,λ_ h=>h,λ_ h=>zR h,Ks.refl _ _,eW _ _ _ _,λq C=>by simp [Value.ownBlock] at C⟩,rfl,h⟩
 | some f=>
  obtain ⟨i,j,k⟩:=nk d;obtain ⟨m,l⟩:=OT k;rw [j];simp only;rw [l] at d;have s:((σ.fs.eraseIdx i).map Prod.fst).Nodup:=by
   rw [CE,Be];exact b.sublist (List.eraseIdx_sublist _ _)
  obtain ⟨n,o⟩:=OU (σ.fs.eraseIdx i) s [x];rw [CE] at n o;refine (BH i x h b (by omega) m d).m λr w' t=>?_;exact t.aeh n.symm o.symm
def jE (x y:By) (σ:bg) (l:List Nat):List Wr:=l.flatMap λq=>if aC x (σ.mem q).p=true then [.rl q (aR x y (σ.mem q).p)] else []
def OV (x y:By) (σ:bg) (l:List Nat) (q:Nat):jE x y σ (l++[q])=jE x y σ l++(if aC x (σ.mem q).p=true then [.rl q (aR x y (σ.mem q).p)] else []):=by simp [jE]
def uN (x y:By) (σ:bg):∀ (l:List Nat) (C:bg),l.Nodup->(∀ q,q∈l->(C.mem q).p=(σ.mem q).p)->(aU (jE x y σ l) C).ord=C.ord/\∀ q,(aU (jE x y σ l) C).mem q=if q∈l then ⟨(C.mem q).nm,aR x y (σ.mem q).p,(C.mem q).v⟩ else C.mem q
 | [],C,_,_=>⟨rfl,λq=>by simp [jE,aU]⟩
 | b::r,C,d,g=>by
  rw [jB] at d;have e1:jE x y σ (b::r)=(if aC x (σ.mem b).p=true then [.rl b (aR x y (σ.mem b).p)] else [])++jE x y σ r:=by simp [jE]
  by_cases E:aC x (σ.mem b).p=true
  .rw [e1,aB E,lH];obtain ⟨e,f⟩:=uN x y σ r (kx C (.rl b (aR x y (σ.mem b).p))) d.2 λq c=>by
    have i:q≠b:=λa=>d.1 (a▸c);rw [show (kx C (.rl b (aR x y (σ.mem b).p))).mem q=C.mem q from dM _ _ _ _ i];exact g q (by simp [c])
   refine ⟨e,λq=>?_⟩;have k:=f q;rw [show aU [Wr.rl b (aR x y (σ.mem b).p)] C=kx C (.rl b (aR x y (σ.mem b).p)) from rfl,k];by_cases a:q=b
   .subst a;rw [aA d.1,aB (by simp)];exact fN _ _ _
   .have j:(kx C (.rl b (aR x y (σ.mem b).p))).mem q=C.mem q:=dM _ _ _ _ a;rw [j];by_cases c:q∈r<;>simp [c,a]
  .have h:aC x (σ.mem b).p=false:=(by simpa using E);rw [e1,aA E,ko];obtain ⟨e,f⟩:=uN x y σ r C d.2 λq c=>g q (by simp [c]);refine ⟨e,λq=>?_⟩;rw [f q];by_cases a:q=b
   .subst a;rw [aA d.1,aB (by simp),ig x y _ h,<- g q (by simp)]
   .by_cases c:q∈r<;>simp [c,a]
def BP (x y:By) (i:σ.ord.Nodup) (a:(σ.fs.map λg=>g.2.nm).Nodup) (e:b∈σ.ord) (k:(σ.mem b).nm=x):(aU (.nm b y::jE x y σ σ.ord) σ).ord=σ.ord/\(aU (.nm b y::jE x y σ σ.ord) σ).fs.map Prod.snd=(σ.fs.map Prod.snd).map (dN x y)/\(aU (.nm b y::jE x y σ σ.ord) σ).mem b=dN x y (σ.mem b):=by
 obtain ⟨d,f⟩:=uN x y σ σ.ord (kx σ (.nm b y)) i λq c=>by
  by_cases C:q=b
  .subst C;rw [show (kx σ (.nm q y)).mem q=⟨y,(σ.mem q).p,(σ.mem q).v⟩ from fN _ _ _]
  .rw [show (kx σ (.nm b y)).mem q=σ.mem q from dM _ _ _ _ C]
 have l:∀ q,q∈σ.ord->(aU (.nm b y::jE x y σ σ.ord) σ).mem q=dN x y (σ.mem q):=λq c=>by
  show (aU (jE x y σ σ.ord) (kx σ (.nm b y))).mem q=_;rw [f q,aB c];unfold dN;by_cases C:q=b
  .subst C;rw [show (kx σ (.nm q y)).mem q=⟨y,(σ.mem q).p,(σ.mem q).v⟩ from fN _ _ _,aB k]
  .rw [show (kx σ (.nm b y)).mem q=σ.mem q from dM _ _ _ _ C];have j:(σ.mem q).nm≠x:=λh=>C (aej a c e (h.t k.symm));rw [aA j]
 refine ⟨d,?_,l b e⟩;unfold bg.fs;rw [show (aU (.nm b y::jE x y σ σ.ord) σ).ord=σ.ord from d];simp only [fM];exact sB λq c=>l q c
 where
 aej {σ:bg} (a:(σ.fs.map λg=>g.2.nm).Nodup) {q b:Nat} (c:q∈σ.ord) (e:b∈σ.ord) (h:(σ.mem q).nm=(σ.mem b).nm):q=b:=by
  have d:=uO a (g:=(q,σ.mem q)) (bU.2 ⟨q,c,rfl⟩);have f:=uO a (g:=(b,σ.mem b)) (bU.2 ⟨b,e,rfl⟩);simp only at d f;rw [h,f] at d;cases d;rfl
variable {Q6:Nat->Prop} {T:bg} {R Z:zW} {H:Nat} {V:Array zV} {Q5:AR}
structure OW (S:Nat->Prop) (e:Nat) (D:Nat->Prop) (σ:bg) (ws:List Wr) (v1 v2 v3 v4 v5:zV) (te:TypeId) (w W:zW) (S1:Nat->Prop) (N:Nat) (cs:Array zV):Prop where
 s0:∀ q,S q->S1 q
 s1:∀ q,S1 q->S q\/w.heap.size<=q
 ph:cK W S1 e D (aU ws σ) v1 v2 v3 v4 v5 te
 bk:cO e D W S1 N cs (dz ws σ)
 ks:Ks (λq=>q=e\/D q) w W
def pM (x y:By) (p:Pt):Bool:=aC x p&&decide (100<(ai (aR x y p)).length)
def BR (S:Nat->Prop) (e:Nat) (D:Nat->Prop) (σ:bg) (b:Nat) (x y:By) (v1 v2 v3 v4 v5:zV) (te:TypeId) (w:zW) (r:Ending) (w':zW):Prop:=
 ((∃ q,q∈σ.ord/\pM x y (σ.mem q).p=true)/\r=zP (zp #[.nilFunc,J 7])/\∃ S1,(∀ q,S q->S1 q)/\(∀ q,S1 q->S q\/w.heap.size<=q)/\cK w' S1 e D σ v1 v2 v3 v4 v5 te/\Ks (λq=>q=e\/D q) w w') \/
 ((∀ q,q∈σ.ord->pM x y (σ.mem q).p=false)/\∃ N cs S1,r=zP (zp #[.func (.func N) #[] cs,J 0])/\OW S e D σ (.nm b y::jE x y σ σ.ord) v1 v2 v3 v4 v5 te w w' S1 N cs)
def OW.next {b:List Wr} (h:OW S e D σ b v1 v2 v3 v4 v5 te w W S1 N cs) (a:zB W R):OW S e D σ b v1 v2 v3 v4 v5 te w R S1 N cs:=
 ⟨h.s0,h.s1,h.ph.next a,h.bk.later h.ph.still a,h.ks.t (Ks.of a)⟩
def Hi (x y:By) (h:cK w S e D σ v1 v2 v3 v4 v5 te) (hE:∀ W,Ks (λq=>q=e\/D q) w W->Env W) (Eb:σ.ord.Nodup) (hl:σ.ord.length<=100) (hb:b∈σ.ord) (hx:(σ.mem b).nm=x) (bu:x≠[]) (hy:G y<=100) :
  zC prog 168 #[zJ e,zJ b,Q y] w (BR S e D σ b x y v1 v2 v3 v4 v5 te w):=by
 have ag:=h.sub b hb;have aJ:=I h;have HE:=I hE;have aa:=I Eb;obtain ⟨fa,fl,fc,Ts,_⟩:=(h.bX b ag).open;obtain ⟨⟨j0,_⟩,_,_⟩:=fP Ts;rw [hx] at j0;have ac:=I ((iM h ag y).m (R':=λr w1=>∃ N cs,r=zP (.func (.func N) #[] cs)/\Hid (∃ S1,OW S e D σ [.nm b y] v1 v2 v3 v4 v5 te w w1 S1 N cs)) (by
  rintro r w1 ⟨N,cs,S1,rfl,q0,q1,q2,q3,q4⟩;exact ⟨N,cs,rfl,S1,q0,λq hq=>(q1 q hq).imp id λh=>h.1,q2,q3,q4⟩))
 clear h hE Eb Ts;go_in;go_wp2_with (go_at_call 199;refine mo ac.o ?_;rintro r w1 ⟨N,cs,rfl,C1⟩);obtain ⟨S1,hI⟩:=C1.o;obtain ⟨hi,bb,r1,r2,r3,r4⟩:=hI.ph.row;have ax:jQ w1 S1 hi σ.ord:=r1;have ay:w1.heap[e]?=A (zM #[B hi σ.ord.length bb,v1,v2,v3,v4,v5] te (0,0)):=r4;obtain ⟨⟨h0,C,Y,h3,h4,h5⟩,⟨y0,y1,y2,y3,y4,y5⟩,bO⟩:=bJ ay;have HI:=I hI;have a1:=I ax;clear C1 hI r1 r2 r3 r4 ax ay ac;apply I;go_wp2_with fail;go_loopg [9,11,12,13,28] σ.ord.length (λgk s9 _ _ _ bv wr=>∃ (j:Nat) (S2:Nat->Prop) (L:Nat) (M:Array zV),j<=σ.ord.length/\σ.ord.length<=j+gk/\bv=J j/\s9=.func (.func L) #[] M/\Hid (OW S e D σ (.nm b y::jE x y σ (σ.ord.take j)) v1 v2 v3 v4 v5 te w wr S2 L M)/\Hid (jQ wr S2 hi σ.ord)/\Hid (∀ i (h:i<σ.ord.length),i<j->pM x y (σ.mem σ.ord[i]).p=false))
 case atStart=>exact ⟨0,S1,N,cs,bE _,by omega,rfl,rfl,HI.o,a1.o,λi c h=>by omega⟩
 case round=>
  obtain ⟨j,S2,L,M,hj,xA,rfl,rfl,f,HR,HL⟩:=hrel;by_cases w4:j<σ.ord.length
  .have a5:(j:Int)<(σ.ord.length:Int):=(by omega);obtain ⟨af,av,rfl,b1,hp⟩:=HR.o j w4;have Q4:σ.ord[j]∈σ.ord:=bt w4;have ak:D σ.ord[j]:=aJ.o.sub _ Q4;have H:=(uN x y σ (σ.ord.take j) (kx σ (.nm b y)) (aa.o.sublist (List.take_sublist _ _)) (λq hq=>by
    by_cases K:q=b
    .subst K;rw [show (kx σ (.nm q y)).mem q=⟨y,(σ.mem q).p,(σ.mem q).v⟩ from fN _ _ _]
    .rw [show (kx σ (.nm b y)).mem q=σ.mem q from dM _ _ _ _ K])).2 σ.ord[j]
   have nN:σ.ord[j]∉σ.ord.take j:=λP=>by
    obtain ⟨i,c,K⟩:=e9 P;have bk:i<j:=(by simp at c;omega);rw [List.getElem_take] at K;exact sW.1 aa.o i j (by omega) w4 bk K
   rw [aA nN] at H;have ar:((aU (.nm b y::jE x y σ (σ.ord.take j)) σ).mem σ.ord[j]).p=(σ.mem σ.ord[j]).p:=by
    show ((aU (jE x y σ (σ.ord.take j)) (kx σ (.nm b y))).mem σ.ord[j]).p=_;rw [H];by_cases K:σ.ord[j]=b
    .rw [K,show (kx σ (.nm b y)).mem b=⟨y,(σ.mem b).p,(σ.mem b).v⟩ from fN _ _ _]
    .rw [show (kx σ (.nm b y)).mem σ.ord[j]=σ.mem σ.ord[j] from dM _ _ _ _ K]
   have hF:=f.o.ph.bX _ ak;have al:=hF.lt;obtain ⟨_,yP,Q0,au,a2,l2,c2,e',N6⟩:=hF;rw [ar] at yP Q0 au e' N6;obtain ⟨⟨k0,k1,k2,k3,k4,k5,k6⟩,OJ,_⟩:=fP e';have S6:=I (OV x y σ (σ.ord.take j) σ.ord[j]);rw [show σ.ord.take j++[σ.ord[j]]=σ.ord.take (j+1) by rw [List.take_append_getElem w4]] at S6;have a8:=I Q4;have a4:=I (show pM x y (σ.mem σ.ord[j]).p=false->∀ i (h:i<σ.ord.length),i<j+1->pM x y (σ.mem σ.ord[i]).p=false from λh0 i c Zo=>by
    by_cases K:i=j
    .subst K;exact h0
    .exact HL.o i c (by omega))
   clear H nN ar Q4;generalize σ.ord[j]=q at *;generalize bn:(σ.mem q).p=p at *;have E:=I (jh x p a2 l2 c2 wr N6 f.o.ph.still);have QT:=I (λW (u:zB wr W)=>Hj x y p a2 l2 c2 W (N6.next λk d=>u.block k (f.o.ph.still k d)) (λk d=>bG (f.o.ph.still k d) u.size) yP (HE.o W (f.o.ks.t (Ks.of u))) (jR x y p Q0) (by have:=mY x y bu p;have C:(ai p).length*(G y+1)<=100*101:=Nat.mul_le_mul au (by omega);omega));have OX:=I e';by_cases P:aC x p=true
   .rw [P] at E;by_cases N2:100<(ai (aR x y p)).length
    .have b0:=f.o.bk.enters;have a9:=I (λW (u:zB wr W)=>(QT.o W u).m (R':=λr a=>r=zP (zp #[zd #[J 0,Q [],J 0,zN],J 7])/\zB W a) (by
      rintro r a ⟨C,⟨_,rfl⟩|⟨Y,_⟩⟩
      .exact ⟨rfl,C⟩
      .exact absurd N2 Y))
     have ba:=I (λW (u:zB wr W)=>Cz (v1:=v1) (v2:=v2) (v3:=v3) (v4:=v4) (v5:=v5) (te:=te) f.o.bk W S2 _ (λk d=>⟨d,u.block k (f.o.ph.still k d)⟩) (f.o.ph.next u));have Q6:=I (show pM x y p=true by simp [pM,P,N2]);clear e' OJ QT N2;go_wp2_with (first|(go_at_call 195;refine E.o.m ?_;rintro r w3 ⟨rfl,m⟩;have n:=I m;obtain ⟨⟨k0,k1,k2,k3,k4,k5,k6⟩,_,_⟩:=fP ((m.block _ al).t OX.o);clear m)|(go_at_call 200;refine (a9.o _ n.o).m ?_;rintro r a ⟨rfl,o⟩;have QV:=I (n.o.t (o.m n.o.size));clear o));refine (ba.o _ (QV.o.t ((bZ _).m QV.o.size))).m ?_;rintro r Z ⟨V,s,U,rfl,ad⟩;have a0:=I ad;clear ad;go_wp2;refine aK (v:=zp #[.nilFunc,J 7]) (by simp [results,results168,go_sem]) (by simp [go_sem]) ?_;obtain ⟨p0,p1,JV,_,hm⟩:=a0.o;rw [lV] at JV;have b3:=f.o.ks.size;have b2:=QV.o.size;refine zR ⟨⟨q,a8.o,by rw [bn];exact Q6.o⟩,rfl,U,λk d=>p0 k (f.o.s0 k d),λk d=>?_,JV,(f.o.ks.t (Ks.of (QV.o.t ((bZ _).m QV.o.size)))).t hm⟩;rcases p1 k d with C|C
     .exact f.o.s1 k C
     .have:=C.1;simp at this;exact zZ (by omega)
    .have a3:=I (show pM x y p=false by simp [pM,P];omega);have R:=I (show ∀ W,zB wr W->zC prog 200 #[zd #[J p.k,Q p.nm,J p.n,B a2 l2 c2],Q x,Q y] W λr a=>∃ k' T n' z l4 c4,r=zP (zp #[zd #[J k',.string T,J n',B z l4 c4],J 0])/\Hid (∀ W4,zB a W4->zC prog 162 #[zK (A (X q 1)),zd #[J k',.string T,J n',B z l4 c4]] W4 λr Z=>∃ V s,r=zP (.func (.func V) #[] s)/\Hid (zC prog 72 #[zS Z.heap.size 2 2] (Z.alloc (zM #[.func (.func L) #[] M,.func (.func V) #[] s] 151)) λr w6=>∃ g l,r=zP (.func (.func g) #[] l)/\Hid (∃ t,OW S e D σ (.nm b y::jE x y σ (σ.ord.take (j+1))) v1 v2 v3 v4 v5 te w w6 t g l/\jQ w6 t (A (X af av)) σ.ord))) from λW u=>by
      refine (QT.o W u).m ?_;rintro r a ⟨o,⟨C,_⟩|⟨_,z,l4,c4,rfl,bj⟩⟩
      .exact absurd C N2
      .refine ⟨_,_,_,z,l4,c4,rfl,λW4 lX=>?_⟩;have F:zB wr W4:=(u.t (o.m u.size)).t (lX.m (bf u.size o.size));have bw:=f.o.ks.size;have JY:=u.size;have bS:=o.size;have bN:=lX.size;have od:=f.o.ph.lt;have bl:cK W4 (λk=>S2 k\/(W.heap.size<=k/\k<a.heap.size)) e D (aU (.nm b y::jE x y σ (σ.ord.take j)) σ) v1 v2 v3 v4 v5 te:=(f.o.ph.next F).wide (λk d=>zR d) λk d=>d.imp id λh=>⟨by omega,by omega,λhD=>by have:=(f.o.ph.bX k hD).lt;omega⟩;refine (iH bl ak (aR x y p) z l4 c4 ((bj.next λk d=>lX.block k d.2).wide λk d=>zZ d) (iN x y p yP) (jR x y p Q0) (by omega)).m ?_;rintro r Z ⟨V,s,U,rfl,q0,q1,q2,q3,q4⟩;refine ⟨V,s,rfl,?_⟩;have hm:Ks (λk=>k=e\/D k) w Z:=(f.o.ks.t (Ks.of F)).t q4;have OQ:=Bc (S:=U) (O:=λk=>Z.heap.size<=k) (w:=Z) (W:=Z) (N1:=L) (cs1:=M) (N2:=V) (cs2:=s) (λk d=>d) (ws1:=.nm b y::jE x y σ (σ.ord.take j)) (ws2:=[.rl q (aR x y p)]) (σ:=σ) (S1:=U) (by rw [lH];exact q2) (λk d=>d) (λk d=>zR d) (((f.o.bk.next (λk d=>(q4.block k (bG (f.o.ph.still k d) F.size) (f.o.ph.notP k d)).t (F.block k (f.o.ph.still k d)))).wide (λk d=>q0 k (zR d)) λ_ h=>h)) q3 (Ks.refl _ _);refine (OQ.all (by omega) (λk d=>by simp at d;show Z.heap.size<=k;omega)).m ?_;rintro r w6 ⟨⟨g,l,t,rfl,p0,p1,ao,Q5,am⟩,bX⟩;have bs:(.nm b y::jE x y σ (σ.ord.take j))++[.rl q (aR x y p)]=.nm b y::jE x y σ (σ.ord.take (j+1)):=by
        rw [S6.o,aB P,gT]
       rw [bs] at ao Q5;refine ⟨g,l,rfl,t,⟨λk d=>p0 k (q0 k (zR (f.o.s0 k d))),λk d=>?_,ao,Q5,hm.t am⟩,?_⟩
       .rcases p1 k d with C|C
        .rcases q1 k C with (Y|Y)|Y
         .exact f.o.s1 k Y
         .exact zZ (by omega)
         .exact zZ (by have:=Y.1;omega)
        .have h3:=C.1;have:=hm.size;exact zZ (bf this h3)
       .have br:jQ Z U (A (X af av)) σ.ord:=(HR.o.next λk d=>(q4.block k (bG (f.o.ph.still k d) F.size) (f.o.ph.notP k d)).t (F.block k (f.o.ph.still k d))).wide λk d=>q0 k (zR d);exact (br.next λk d=>am.block k (q2.still k d) (q2.notP k d)).wide p0)
     clear e' OJ QT N2;go_wp2_with (first|(go_at_call 195;refine E.o.m ?_;rintro r w3 ⟨rfl,m⟩;have n:=I m;obtain ⟨⟨k0,k1,k2,k3,k4,k5,k6⟩,_,_⟩:=fP ((m.block _ al).t OX.o);clear m)|(go_at_call 200;refine (R.o _ n.o).m ?_;rintro r a ⟨k',T,n',z,l4,c4,rfl,C4⟩));clear R E
     go_region_with (first|(go_at_call 162;refine (C4.o _ (bZ _).drew).m ?_;rintro r Z ⟨V,s,rfl,C5⟩)|(go_at_call 72;refine C5.o.m ?_;rintro r w6 ⟨g,l,rfl,C6⟩))
     all_goals go_wp2
     all_goals go_roundg (σ.ord.length - (j+1))
     all_goals try (case measure=>omega)
     all_goals (
      obtain ⟨t,h6,h7⟩:=C6.o;exact ⟨j+1,t,g,l,by omega,by omega,by go_num,rfl,h6,h7,a4.o a3.o⟩)
   .have an:aC x p=false:=(by simpa using P);rw [an] at E;clear e' OJ QT;go_wp2_with (go_at_call 195;refine E.o.m ?_;rintro r w3 ⟨rfl,m⟩;have n:=I m;clear m);go_roundg (σ.ord.length - (j+1))
    case measure=>omega
    case rel=>
     refine ⟨j+1,S2,L,M,by omega,by omega,by go_num,rfl,?_,HR.o.next λk d=>n.o.block k (f.o.ph.still k d),a4.o (by simp [pM,an])⟩;rw [S6.o,aA P,iq];exact f.o.next n.o
  .have a5:¬ (j:Int)<(σ.ord.length:Int):=(by omega);obtain rfl:j=σ.ord.length:=(by omega);go_wp2;refine aK (v:=zp #[.func (.func L) #[] M,J 0]) (by simp [results,results168,go_sem]) (by simp [go_sem]) ?_;refine zZ ⟨λq hq=>?_,L,M,S2,rfl,?_⟩
   .obtain ⟨i,c,rfl⟩:=e9 hq;exact HL.o i c c
   .have:=f.o;rw [tq] at this;exact this
end
def GF (fs:List Fd):Prop:=GS (aT fs)
def xQ (fs:List Fd):((aT fs).map Prod.fst).Nodup:=by
 have:(aT fs).map Prod.fst=List.range (G fs):=by
  unfold aT;rw [fM];apply rC
  .simp
  .intro i b a;simp
 rw [this];exact List.nodup_range
def RZ {gs:List (Nat × Fd)} (d:(gs.map Prod.fst).Nodup):GS gs↔GF (gs.map Prod.snd):=by
 unfold GF;rw [<- xL gs d];have b:∀ C:Nat->Nat,(gs.map (cV C)).map (λg=>g.2.nm)=gs.map λg=>g.2.nm:=λC=>by simp [cV,ry]
 constructor
 .intro h;refine ⟨by rw [xL gs d];exact xQ _,by rw [b];exact h.nn,⟨?_,?_⟩,?_,?_⟩
  .exact jz.2 (h.vT.1.imp λh=>h)
  .intro g a;obtain ⟨x,c,rfl⟩:=bU.1 a;exact h.vT.2 x c
  .intro g a;obtain ⟨x,c,rfl⟩:=bU.1 a;exact h.shp x c
  .intro g a;obtain ⟨x,c,rfl⟩:=bU.1 a;rw [Ii];exact h.val x c
 .intro h;refine ⟨d,by rw [<- b];exact h.nn,⟨?_,λg a=>h.vT.2 (cV _ g) (iJ a)⟩,λg a=>h.shp (cV _ g) (iJ a),λg a=>?_⟩
  .exact (jz.1 h.vT.1).imp λh=>h
  .have:=h.val (cV _ g) (iJ a);rw [Ii] at this;exact this
def vV (gs:List (Nat × Fd)) (V:Nat->Vl):((eR gs V).map Prod.snd).map (λf=>(f.nm,f.p))=(gs.map Prod.snd).map λf=>(f.nm,f.p):=by
 simp [eR,ry]
def qp (Q0 Q4:List Fd) (f:Fd) (l:List Fd) (u:List By) (D:((Q0++f::Q4).map λg=>g.nm).Nodup) (C:(aT (Q0++f::Q4)).Pairwise (λg h=>g.1=G Q0\/h.1=G Q0\/NM g h)) (hs:∀ g,g∈Q0++Q4->aC g.nm g.p=false) (w:∀ g,g∈Q0++f::Q4->az g.p)
  (E:∀ g,g∈Q0++Q4->aC f.nm g.p=false->g.v=cD (mW (aT (Q0++f::Q4))) g.p) (h:fq (Q0++f::Q4) (G Q0) f=.ok l u) :
  GF l/\G l=(Q0++f::Q4).length/\(l.map λg=>(g.nm,g.p)).Perm ((Q0++f::Q4).map λg=>(g.nm,g.p)):=by
 unfold fq at h;cases p:dL (aT (Q0++f::Q4)) (G Q0) (G Q0,f) with
 | dZ H=>rw [p] at h;cases h
 | ok L=>
  rw [p] at h;simp only [AR.ok.injEq] at h;obtain ⟨z,F⟩:=h;have y:(aT (Q0++f::Q4))[G Q0]?=A (G Q0,f):=by
   rw [qE _ _ (by simp)];simp
  obtain ⟨c,o⟩:=uL y;have j:∀ g,g∈(aT (Q0++f::Q4)).take (G Q0)++(aT (Q0++f::Q4)).drop (G Q0+1)->g.2∈Q0++Q4/\g.1≠G Q0/\g∈aT (Q0++f::Q4):=λg d=>by
   rcases cG.1 d with d|d
   .obtain ⟨i,M,e⟩:=e9 d;have t:i<G Q0:=(by simp at M;omega);have K:i<(Q0++f::Q4).length:=(by simp;omega);rw [List.getElem_take] at e;have k:=qE (Q0++f::Q4) i K;rw [cU (by rw [eA];exact K),e] at k;simp only [rB] at k;subst k;refine ⟨?_,by simp only;omega,lS d⟩;rw [yj t];simp
   .obtain ⟨i,M,e⟩:=e9 d;have K:G Q0+1+i<(Q0++f::Q4).length:=by simp [eA] at M ⊢;omega
    rw [List.getElem_drop] at e;have k:=qE (Q0++f::Q4) (G Q0+1+i) K;rw [cU (by rw [eA];exact K),e] at k;simp only [rB] at k;subst k;refine ⟨?_,by simp only;omega,lD d⟩;rw [Bt (by omega)];have:G Q0+1+i - G Q0=i+1:=(by omega);simp [this]
  have r:dL ((aT (Q0++f::Q4)).take (G Q0)++(G Q0,f)::(aT (Q0++f::Q4)).drop (G Q0+1)) ((aT (Q0++f::Q4)).take (G Q0)).length (G Q0,f)=.ok L:=by rw [o,<- c];exact p
  have v:(((aT (Q0++f::Q4)).take (G Q0)++(G Q0,f)::(aT (Q0++f::Q4)).drop (G Q0+1)).map λg=>g.2.nm).Nodup:=by
   rw [<- c];have:(aT (Q0++f::Q4)).map (λg=>g.2.nm)=((aT (Q0++f::Q4)).map Prod.snd).map λg=>g.nm:=(by simp);rw [this,cW];exact D
  obtain ⟨V,e1,k,x⟩:=KW ((aT (Q0++f::Q4)).take (G Q0)) ((aT (Q0++f::Q4)).drop (G Q0+1)) L (G Q0,f) (by rw [<- c];exact xQ _) v (by
   have m:List.Sublist ((aT (Q0++f::Q4)).take (G Q0)++(aT (Q0++f::Q4)).drop (G Q0+1)) (aT (Q0++f::Q4)):=by
    conv=>rhs;rw [c]
    exact List.Sublist.append (yr _) (List.sublist_cons_self _ _)
   refine (C.sublist m).imp_of_mem λ{a b} ha hb hab=>?_;rcases hab with n|n|n
   .exact absurd n (j a ha).2.1
   .exact absurd n (j b hb).2.1
   .exact n) (λg d=>hs g.2 (j g d).1) (λg d=>by
   rw [<- c] at d;refine w g.2 ?_;have:=iJ (f:=Prod.snd) d;rw [cW] at this;exact this) (λg d q=>by
   rw [<- c];exact E g.2 (j g d).1 q) r
  rw [e1] at z;subst z;rw [<- c] at x;have s:((eR L V).map Prod.fst).Nodup:=k.nb;refine ⟨(RZ s).1 k,?_,?_⟩
  .simp only [fy,eR];rw [x.length_eq,eA]
  .rw [vV];have:=(x.map Prod.snd).map λf=>(f.nm,f.p);rw [cW] at this;exact this
structure Ab where
 M:Nat
 fs:List Fd
 past:List (List Fd)
 jr:List (List Fd)
 dV:Option (List Fd)
def mr (D:Nat->Prop) (σ C:bg):Prop:=σ.ord=C.ord/\∀ q,D q->σ.mem q=C.mem q
def mM (D:Nat->Prop):Wr->Prop
 | .ord l=>∀ b,b∈l->D b
 | .nm b _=>D b
 | .rl b _=>D b
 | .vl b _=>D b
def cO.Fm {e:Nat} {D:Nat->Prop} {w:zW} {S:Nat->Prop} {N:Nat} {cs:Array zV} {us:List Wr} (h:cO e D w S N cs us):∀ u,u∈us->mM D u:=by
 induction h with
 | ord s q a c l j k o m f y F t=>intro u d;rw [iB.1 d];exact t
 | nm s q b x j k o m f=>intro u d;rw [iB.1 d];exact f
 | rl s q b p a l c j k o m f y F t z=>intro u d;rw [iB.1 d];exact z
 | vl s q b v j k o m f=>intro u d;rw [iB.1 d];exact f
 | all g a n c N cs us j k o m f y _ E=>
  intro u d;obtain ⟨i,C,r⟩:=List.mem_flatMap.1 d;exact E i (List.mem_range.1 (wy.1 C)) u r
def mM.wide {D c:Nat->Prop} (a:∀ q,D q->c q):∀ {u:Wr},mM D u->mM c u
 | .ord _,h=>λb d=>a b (h b d)
 | .nm _ _,h=>a _ h
 | .rl _ _,h=>a _ h
 | .vl _ _,h=>a _ h
def mr.refl (D:Nat->Prop) (σ:bg):mr D σ σ:=⟨rfl,λ_ _=>rfl⟩
def xd {D:Nat->Prop} {σ C:bg} (h:mr D σ C) (b:Nat) (f g:Fd) (a:f=g):mr D (σ.put b f) (C.put b g):=by
 subst a;refine ⟨h.1,λq c=>?_⟩;by_cases e:q=b
 .subst e;rw [fN,fN]
 .rw [dM _ _ _ _ e,dM _ _ _ _ e];exact h.2 q c
def PY {D:Nat->Prop} {σ E:bg} (h:mr D σ E) (u:Wr) (C:mM D u):mr D (kx σ u) (kx E u):=by
 cases u with
 | ord l=>exact ⟨rfl,h.2⟩
 | nm b x=>exact xd h b _ _ (by rw [h.2 b C])
 | rl b x=>exact xd h b _ _ (by rw [h.2 b C])
 | vl b x=>exact xd h b _ _ (by rw [h.2 b C])
def uj {D:Nat->Prop}:∀ (us:List Wr) {σ C:bg},mr D σ C->(∀ u,u∈us->mM D u)->mr D (aU us σ) (aU us C)
 | [],_,_,h,_=>h
 | u::r,_,_,h,a=>uj r (PY h u (a u (by simp))) λv b=>a v (by simp [b])
def mr.fs {D:Nat->Prop} {σ C:bg} (h:mr D σ C) (hs:∀ b,b∈σ.ord->D b):σ.fs=C.fs:=by
 unfold bg.fs;rw [<- h.1];exact sB λq a=>by rw [h.2 q (hs q a)]
structure xe (D:Nat->Prop) (σ:bg):Prop where
 nd:σ.ord.Nodup
 sub:∀ b,b∈σ.ord->D b
 gf:GF (σ.fs.map Prod.snd)
 len:σ.ord.length<=10
 xX:∀ f,f∈σ.fs.map Prod.snd->f.nm≠[]/\G f.nm<=6
def xe.agree {D c:Nat->Prop} {σ C:bg} (h:xe D σ) (a:mr D σ C) (f:∀ q,D q->c q):xe c C:=by
 have d:=a.fs h.sub;exact ⟨a.1▸h.nd,λb e=>f b (h.sub b (a.1.symm▸e)),d▸h.gf,a.1▸h.len,d▸h.xX⟩
def vF (D:Nat->Prop):bg->List (List Wr)->List (List Fd)->Prop
 | _,[],[]=>True
 | σ,C::r,o::p=>(∀ u,u∈C->mM D u)/\(aU C σ).fs.map Prod.snd=o/\xe D (aU C σ)/\vF D (aU C σ) r p
 | _,_,_=>False
def vF.agree {D d:Nat->Prop} (b:∀ q,D q->d q):∀ {l:List (List Wr)} {p:List (List Fd)} {σ C:bg},vF D σ l p->mr D σ C->vF d C l p
 | [],[],_,_,_,_=>trivial
 | us::r,o::p,σ,C,h,j=>by
  obtain ⟨c,f,e,i⟩:=h;have a:=uj us j c;exact ⟨λu g=>(c u g).wide b,by rw [<- a.fs e.sub];exact f,e.agree a b,i.agree b a⟩
 | [],_::_,_,_,h,_=>h.elim
 | _::_,[],_,_,h,_=>h.elim
def vF.take {D:Nat->Prop}:∀ (n:Nat) {l:List (List Wr)} {p:List (List Fd)} {σ:bg},vF D σ l p->vF D σ (l.take n) (p.take n)
 | 0,_,_,_,_=>trivial
 | n+1,[],[],_,_=>trivial
 | n+1,C::r,o::p,σ,h=>⟨h.1,h.2.1,h.2.2.1,h.2.2.2.take n⟩
 | _+1,[],_::_,_,h=>h.elim
 | _+1,_::_,[],_,h=>h.elim
structure mE (a:Ab) (D:Nat->Prop) (σ:bg) (dn ud gr:List (List Wr)):Prop where
 gs:xe D σ
 fs:a.fs=σ.fs.map Prod.snd
 gw:∀ u,u∈fY gr->mM D u
 ok:match a.dV with
  | none=>gr=[]/\vF D σ dn.reverse a.past/\vF D σ ud.reverse a.jr
  | some g=>xe D (aU (fY gr) σ)/\g=(aU (fY gr) σ).fs.map Prod.snd/\vF D (aU (fY gr) σ) dn.reverse a.past/\vF D (aU (fY gr) σ) ud.reverse a.jr
def Dd (M:Nat) (a:List (List Wr)) (us:List Wr) (h:G a<=M):(kD M a us).reverse=(us::a.reverse).take M:=by
 unfold kD;split
 .rename_i c;have b:G a=M:=(by omega);cases a with
  | nil=>
   simp at b;subst b;rfl
  | cons d r=>
   simp only [gT,List.eraseIdx_cons_zero,rj,List.reverse_cons,List.reverse_nil,ko];rw [<- b];simp
 .rename_i c;rw [qy (by simp;omega)];simp
def mE.ae8 {a:Ab} {D i:Nat->Prop} {σ σ1:bg} {j p d:List (List Wr)} {b:List Wr} (h:mE a D σ j p d) (f:∀ q,D q->i q) (l:mr D σ σ1) (t:xe i (aU b σ1)) (r:∀ u,u∈dz b σ1->mM i u) (x:G j<=a.M) :
  (a.dV=none->mE ⟨a.M,(aU b σ1).fs.map Prod.snd,(a.fs::a.past).take a.M,[],none⟩ i (aU b σ1) (kD a.M j (dz b σ1)) [] d)/\(∀ g,a.dV=A g->mE ⟨a.M,(aU b σ1).fs.map Prod.snd,a.past,a.jr,A g⟩ i (aU b σ1) j p (d++[dz b σ1])):=by
 have c:=h.ok;have z:=l.fs h.gs.sub;have n:xe i σ1:=h.gs.agree l f;refine ⟨λw=>?_,λg E=>?_⟩
 .rw [w] at c;obtain ⟨C,m,v⟩:=c;refine ⟨t,rfl,by rw [C];simp [fY],C,?_,trivial⟩;rw [Dd a.M j _ x];refine vF.take a.M ⟨r,?_,?_,?_⟩
  .rw [lV,<- z,h.fs]
  .rw [lV];exact n
  .rw [lV];exact m.agree f l
 .rw [E] at c;obtain ⟨C,m,v,y⟩:=c;have e1:fY (d++[dz b σ1])=dz b σ1++fY d:=by simp [fY]
  have k:aU (fY (d++[dz b σ1])) (aU b σ1)=aU (fY d) σ1:=by rw [e1,lH,lV]
  have e:mr D (aU (fY d) σ) (aU (fY d) σ1):=uj _ l h.gw;refine ⟨t,rfl,λu s=>?_,?_,?_,?_,?_⟩
  .rw [e1] at s;rcases cG.1 s with o|o
   .exact r u o
   .exact (h.gw u o).wide f
  .rw [k];exact C.agree e f
  .rw [k,<- e.fs C.sub];exact m
  .rw [k];exact v.agree f e
  .rw [k];exact y.agree f e
def mb (a:Ab):Nat × Ab:=match a.dV with
 | some _=>(9,a)
 | none=>match a.past with
  | []=>(11,a)
  | o::p=>(0,⟨a.M,o,p,a.fs::a.jr,none⟩)
def mf (a:Ab):Nat × Ab:=match a.dV with
 | some _=>(9,a)
 | none=>match a.jr with
  | []=>(11,a)
  | o::p=>(0,⟨a.M,o,a.fs::a.past,p,none⟩)
def BV {D:Nat->Prop}:∀ (us:List Wr) (σ:bg),(∀ u,u∈us->mM D u)->(∀ b,b∈σ.ord->D b)->∀ u,u∈dz us σ->mM D u
 | [],_,_,_,u,c=>by simp [dz] at c
 | v::r,σ,d,C,u,c=>by
  simp only [dz] at c;have a:=d v (by simp);rcases cG.1 c with h|h
  .refine BV r (kx σ v) (λx E=>d x (by simp [E])) ?_ u h;cases v with
   | ord l=>exact a
   | nm b x=>exact C
   | rl b x=>exact C
   | vl b x=>exact C
  .rw [iB.1 h];cases v with
   | ord l=>exact C
   | nm b x=>exact a
   | rl b x=>exact a
   | vl b x=>exact a
def mE.pS {a:Ab} {D:Nat->Prop} {σ:bg} {b c e:List (List Wr)} (h:mE a D σ b c e):(kE ⟨σ,b,c,e,a.dV.isSome⟩).1=(mb a).1/\(mb a).2.M=a.M/\(mb a).2.dV=a.dV/\(kE ⟨σ,b,c,e,a.dV.isSome⟩).2.op=(mb a).2.dV.isSome/\mE (mb a).2 D (kE ⟨σ,b,c,e,a.dV.isSome⟩).2.σ (kE ⟨σ,b,c,e,a.dV.isSome⟩).2.dn (kE ⟨σ,b,c,e,a.dV.isSome⟩).2.ud (kE ⟨σ,b,c,e,a.dV.isSome⟩).2.gr:=by
 unfold kE mb;cases j:a.dV with
 | some g=>simp [j];exact h
 | none=>
  have f:=h.ok;rw [j] at f;obtain ⟨C,d,E⟩:=f;simp only [Option.isSome_none,sY,k8];cases k:b.getLast? with
  | none=>
   have r:b=[]:=List.getLast?_eq_none_iff.1 k;subst r;cases i:a.past with
   | nil=>simp [j];exact h
   | cons o p=>rw [i] at d;exact d.elim
  | some H=>
   obtain ⟨l,rfl⟩:=List.getLast?_eq_some_iff.1 k;rw [rj] at d;cases i:a.past with
   | nil=>rw [i] at d;exact d.elim
   | cons o p=>
    rw [i] at d;obtain ⟨F,m,q,n⟩:=d;refine ⟨rfl,rfl,rfl,rfl,q,m.symm,by rw [C];simp [fY],C,?_,?_⟩
    .simp only [Bz];exact n
    .simp only [rj,List.reverse_cons,List.reverse_nil,ko,vL];refine ⟨BV H σ F h.gs.sub,?_,?_,?_⟩
     .rw [lV,h.fs]
     .rw [lV];exact h.gs
     .rw [lV];exact E
def mE.pT {a:Ab} {D:Nat->Prop} {σ:bg} {c b e:List (List Wr)} (h:mE a D σ c b e):(kF ⟨σ,c,b,e,a.dV.isSome⟩).1=(mf a).1/\(mf a).2.M=a.M/\(mf a).2.dV=a.dV/\(kF ⟨σ,c,b,e,a.dV.isSome⟩).2.op=(mf a).2.dV.isSome/\mE (mf a).2 D (kF ⟨σ,c,b,e,a.dV.isSome⟩).2.σ (kF ⟨σ,c,b,e,a.dV.isSome⟩).2.dn (kF ⟨σ,c,b,e,a.dV.isSome⟩).2.ud (kF ⟨σ,c,b,e,a.dV.isSome⟩).2.gr:=by
 unfold kF mf;cases j:a.dV with
 | some g=>simp [j];exact h
 | none=>
  have f:=h.ok;rw [j] at f;obtain ⟨C,E,d⟩:=f;simp only [Option.isSome_none,sY,k8];cases k:b.getLast? with
  | none=>
   have r:b=[]:=List.getLast?_eq_none_iff.1 k;subst r;cases i:a.jr with
   | nil=>simp [j];exact h
   | cons o p=>rw [i] at d;exact d.elim
  | some H=>
   obtain ⟨l,rfl⟩:=List.getLast?_eq_some_iff.1 k;rw [rj] at d;cases i:a.jr with
   | nil=>rw [i] at d;exact d.elim
   | cons o p=>
    rw [i] at d;obtain ⟨F,m,q,n⟩:=d;refine ⟨rfl,rfl,rfl,rfl,q,m.symm,by rw [C];simp [fY],C,?_,?_⟩
    .simp only [rj,List.reverse_cons,List.reverse_nil,ko,vL];refine ⟨BV H σ F h.gs.sub,?_,?_,?_⟩
     .rw [lV,h.fs]
     .rw [lV];exact h.gs
     .rw [lV];exact E
    .simp only [Bz];exact n
def mE.begin {a:Ab} {D:Nat->Prop} {σ:bg} {d c e:List (List Wr)} (h:mE a D σ d c e) (g:a.dV=none):mE ⟨a.M,a.fs,a.past,a.jr,A a.fs⟩ D σ d c e:=by
 have b:=h.ok;rw [g] at b;obtain ⟨f,i,j⟩:=b;subst f;exact ⟨h.gs,h.fs,h.gw,h.gs,h.fs,i,j⟩
def mE.kW {a:Ab} {D:Nat->Prop} {σ:bg} {c e d:List (List Wr)} {g:List Fd} (h:mE a D σ c e d) (i:a.dV=A g) (j:G c<=a.M):mE ⟨a.M,a.fs,(g::a.past).take a.M,[],none⟩ D σ (kD a.M c (fY d)) [] []:=by
 have b:=h.ok;rw [i] at b;obtain ⟨f,k,l,m⟩:=b;refine ⟨h.gs,h.fs,by simp [fY],rfl,?_,trivial⟩;rw [Dd a.M c _ j];exact vF.take a.M ⟨h.gw,k.symm,f,l⟩
def mE.cancel {a:Ab} {D:Nat->Prop} {σ:bg} {d c e:List (List Wr)} {g:List Fd} (h:mE a D σ d c e) (i:a.dV=A g):mE ⟨a.M,g,a.past,a.jr,none⟩ D (aU (fY e) σ) d c []:=by
 have b:=h.ok;rw [i] at b;obtain ⟨f,k,l,j⟩:=b;exact ⟨f,k,by simp [fY],rfl,l,j⟩
section
def zj {D:Nat->Prop}:∀ (us:List Wr) {σ:bg},(∀ b,b∈σ.ord->D b)->(∀ u,u∈us->mM D u)->∀ b,b∈(aU us σ).ord->D b
 | [],_,h,_=>h
 | u::r,σ,h,a=>zj r (σ:=kx σ u) (by
   have c:=a u (by simp);cases u with
   | ord l=>exact c
   | nm b x=>exact h
   | rl b x=>exact h
   | vl b x=>exact h) λv d=>a v (by simp [d])
def xe.other {D Z:Nat->Prop} {σ:bg} (h:xe D σ) (hs:∀ b,b∈σ.ord->Z b):xe Z σ:=⟨h.nd,hs,h.gf,h.len,h.xX⟩
def vF.other {D Z:Nat->Prop}:∀ {l:List (List Wr)} {p:List (List Fd)} {σ:bg},vF D σ l p->(∀ b,b∈σ.ord->Z b)->(∀ us,us∈l->∀ u,u∈us->mM Z u)->vF Z σ l p
 | [],[],_,_,_,_=>trivial
 | us::r,o::p,σ,h,C,c=>by
  obtain ⟨j,d,i,g⟩:=h;have a:=zj us C (c us (by simp));exact ⟨c us (by simp),d,i.other a,g.other a λf e=>c f (by simp [e])⟩
 | [],_::_,_,h,_,_=>h.elim
 | _::_,[],_,h,_,_=>h.elim
def UB {a:List (List Wr)} {u:Wr} (h:u∈fY a):∃ C,C∈a/\u∈C:=by
 unfold fY at h;obtain ⟨C,c,b⟩:=List.mem_flatten.1 h;exact ⟨C,wy.1 c,b⟩
def mE.other {a:Ab} {D Z:Nat->Prop} {σ:bg} {m l i:List (List Wr)} (h:mE a D σ m l i) (hs:∀ b,b∈σ.ord->Z b) (o:∀ us,us∈m->∀ u,u∈us->mM Z u) (n:∀ us,us∈l->∀ u,u∈us->mM Z u) (q:∀ us,us∈i->∀ u,u∈us->mM Z u):mE a Z σ m l i:=by
 have j:∀ u,u∈fY i->mM Z u:=λu e=>by
  obtain ⟨us,f,k⟩:=UB e;exact q us f u k
 refine ⟨h.gs.other hs,h.fs,j,?_⟩;have c:=h.ok;cases p:a.dV with
 | none=>
  rw [p] at c;obtain ⟨e,f,k⟩:=c;exact ⟨e,f.other hs λus h=>o us (wy.1 h),k.other hs λus h=>n us (wy.1 h)⟩
 | some g=>
  rw [p] at c;obtain ⟨e,f,k,r⟩:=c;have d:=zj (fY i) hs j;exact ⟨e.other d,f,k.other d λus h=>o us (wy.1 h),r.other d λus h=>n us (wy.1 h)⟩
variable {S S' S1 O:Nat->Prop} {e k:Nat} {D Z F F' P R T:Nat->Prop} {σ σ0 σ1:bg} {v0 v1 v2 v3 v4 v5 v v':zV} {te:TypeId} {w w' W w1 w2 w3:zW} {V:List (List Wr)} {N:Nat->Nat} {cs:Nat->Array zV} {M:Nat} {U Q5 Q6:zV} {dn ud gr:List (List Wr)} {op:Bool} {N1:Nat} {cs1:Array zV} {us:List Wr} {a:Ab}
def dP.Fm (h:dP w S e D v V N cs):∀ us,us∈V->∀ u,u∈us->mM D u:=λus a u c=>by
 obtain ⟨i,b,rfl⟩:=e9 a;have:=(h.bk i b).Fm u;rw [lC,cU b] at this;exact this c
def fx.rep (h:fx w e S D σ M U Q5 Q6 dn ud gr op) (d:mE a Z σ dn ud gr):mE a D σ dn ud gr:=by
 obtain ⟨_,_,c⟩:=h.rd;obtain ⟨_,_,b⟩:=h.ru;obtain ⟨_,_,f⟩:=h.rg;exact d.other h.ph.sub c.Fm b.Fm f.Fm
def eG (w:zW) (e:Nat) (F:Nat->Prop) (k:Nat) (a:Ab):Prop:=
 ∃ S D σ U Q5 Q6 dn ud gr,fx w e S D σ a.M U Q5 Q6 dn ud gr a.dV.isSome/\mE a D σ dn ud gr/\G gr<=k/\(∀ q,Ft S e D U Q5 Q6 q->F q)/\∀ q,F q->q<w.heap.size
def eG.keep (h:eG w e F k a) (f:Ks P w w') (d:∀ q,F q->¬ P q):eG w' e F k a:=by
 obtain ⟨S,D,σ,U,Q5,Q6,dn,ud,gr,g,i,l,c,j⟩:=h;exact ⟨S,D,σ,U,Q5,Q6,dn,ud,gr,g.keep f (λq b=>d q (c q (zR b))) λq b=>d q (c q (zZ b)),i,l,c,λq b=>bG (j q b) f.size⟩
def eG.next (h:eG w e F k a) (b:zB w w'):eG w' e F k a:=h.keep (P:=λ_=>False) (Ks.of b) λ_ _ h=>h
def eG.lt (h:eG w e F k a):∀ q,F q->q<w.heap.size:=by obtain ⟨S,D,σ,U,Q5,Q6,dn,ud,gr,c,f,g,d,b⟩:=h;exact b
def eG.more {b:Nat} (h:eG w e F k a) (i:k<=b):eG w e F b a:=by
 obtain ⟨S,D,σ,U,Q5,Q6,dn,ud,gr,c,f,j,d,g⟩:=h;exact ⟨S,D,σ,U,Q5,Q6,dn,ud,gr,c,f,by omega,d,g⟩
def gm.at {p o:Nat->Prop} {d c b:List (List Wr)} {i:Bool} {n:bg} (h:gm e p o n a.M d c b i w w') (m:i=a.dV.isSome) (s:mE a D n d c b) (t:G b<=k):Ks o w w'/\∃ F',eG w' e F' k a/\∀ q,F' q->p q\/w.heap.size<=q:=by
 obtain ⟨S',Z,f,j,g,l,r,u⟩:=h;subst m;exact ⟨u,Ft S' e Z f j g,⟨S',Z,n,f,j,g,d,c,b,l,l.rep s,t,λ_ h=>h,l.agX⟩,r⟩
def jI (F T:Nat->Prop) (e k:Nat) (a:Ab) (nm:List By) (w:zW) (bn:Option zD) (ln cn:Nat) (w':zW):Prop:=
 ln=G nm/\Ks F w w'/\w'.ownsRow w.heap.size 9 1 (B bn ln cn) ln (ab nm)/\∃ F',eG w' e F' k a/\(∀ q,F' q->F q\/w.heap.size<=q)/\(∀ q,(B bn ln cn).ownBlock=A q->¬ F' q/\¬ T q)/\∀ q,T q->¬ F' q
variable {nm:List By} {bn:Option zD} {ln cn:Nat}
def jI.set (h:jI F T e k a nm w bn ln cn w') {t:Nat} (i:T t) (s:w.heap.size<=t) (j:Nat) (u:zV):jI F T e k a nm w bn ln cn (w'.setCell (X t j) u):=by
 obtain ⟨m,c,r,F',o,p,l,g⟩:=h;have b:Ks (λq=>q=t) w' (w'.setCell (X t j) u):=(Ks.refl _ _).set t j u rfl;refine ⟨m,⟨b.os.t c.os,b.tape.t c.tape,b.output.t c.output,bf c.size b.size,λq d n=>(b.block q (by have:=c.size;omega) (by omega)).t (c.block q d n)⟩,iy r b λq d f=>(l q d).2 (f▸i),F',o.keep b λq d f=>g t i (f▸d),p,l,g⟩
def jI.less {d:Nat->Prop} (h:jI F T e k a nm w bn ln cn w') (f:∀ q,d q->T q):jI F d e k a nm w bn ln cn w':=by
 obtain ⟨g,l,o,F',j,m,c,n⟩:=h;exact ⟨g,l,o,F',j,m,λq b=>⟨(c q b).1,λi=>(c q b).2 (f q i)⟩,λq b=>n q (f q b)⟩
def jI.base (h:jI P T e k a nm w bn ln cn w') {g:zW} (b:zB g w) (hF:∀ q,P q->F q\/g.heap.size<=q):jI F T e k a nm g bn ln cn w':=by
 obtain ⟨i,d,r,F',j,m,l,o⟩:=h;refine ⟨i,⟨d.os.t b.os,d.tape.t b.tape,d.output.t b.output,bf b.size d.size,λq f p=>(d.block q (by have:=b.size;omega) λn=>?_).t (b.block q f)⟩,dS r b.size,F',j,λq f=>?_,l,o⟩
 .rcases hF q n with c|c
  .exact p c
  .omega
 .rcases m q f with c|c
  .exact hF q c
  .exact zZ (bf b.size c)
def ma (a:Ab):Ab:=match a.dV with
 | none=>a
 | some g=>⟨a.M,g,a.past,a.jr,none⟩
def wM (a:Ab) (fs:List Fd):Ab:=match a.dV with
 | none=>⟨a.M,fs,(a.fs::a.past).take a.M,[],none⟩
 | some g=>⟨a.M,fs,a.past,a.jr,A g⟩
def PZ (a:Ab):AR->Ab
 | .ok C _=>wM a C
 | .err _ _=>ma a
def AR.code:AR->Nat
 | .ok _ _=>0
 | .err c _=>c
def AR.names:AR->List By
 | .ok _ n=>n
 | .err _ n=>n
def JB (a:Ab):AR->Ab
 | .ok C _=>wM a C
 | .err _ _=>a
def eG.cancel (h:eG w e F k a) (l:k<1000000000000):zC prog 49 #[zK (A (X e 1))] w λr w'=>(∃ x,r=zP (J x))/\Ks F w w'/\∃ F',eG w' e F' k (ma a)/\∀ q,F' q->F q\/w.heap.size<=q:=by
 obtain ⟨S,D,σ,U,Q5,Q6,dn,ud,gr,b,f,i,E,j⟩:=h;unfold ma;cases c:a.dV with
 | none=>
  rw [c] at b;refine (Ao b).m ?_;rintro r w' ⟨rfl,d⟩;obtain ⟨H,F',K,L⟩:=d.at (k:=k) (by rw [c];rfl) f i;exact ⟨⟨_,rfl⟩,H.wide λq C=>E q (zZ C),F',K,λq C=>(L q C).imp_left (E q)⟩
 | some g=>
  rw [c] at b;refine (Am b (by omega)).m ?_;rintro r w' ⟨rfl,d⟩;obtain ⟨H,F',K,L⟩:=gm.at (a:=⟨a.M,g,a.past,a.jr,none⟩) (k:=k) d rfl (f.cancel c) (by simp);exact ⟨⟨_,rfl⟩,H.wide λq C=>E q (zZ C),F',K,λq C=>(L q C).imp_left (E q)⟩
def jI.cancel {p:zW} (h:jI F T e k a nm p bn ln cn w) (Q4:k<1000000000000) (n:∀ q,T q->q<w.heap.size):zC prog 49 #[zK (A (X e 1))] w λr w'=>(∃ x,r=zP (J x))/\(∀ q,T q->w'.heap[q]?=w.heap[q]?)/\jI F T e k (ma a) nm p bn ln cn w':=by
 obtain ⟨t,g,s,F',C,o,i,l⟩:=h;refine (C.cancel Q4).m ?_;rintro r w' ⟨z,d,y,j,f⟩;have u:=g.size;refine ⟨z,λq c=>d.block q (n q c) (l q c),t,⟨d.os.t g.os,d.tape.t g.tape,d.output.t g.output,bf g.size d.size,λq c m=>(d.block q (by omega) λv=>?_).t (g.block q c m)⟩,iy s d λq c=>(i q c).1,y,j,λq c=>?_,λq c=>⟨λh=>?_,(i q c).2⟩,λq c h=>?_⟩
 .rcases o q v with b|b
  .exact m b
  .omega
 .rcases f q c with b|b
  .exact o q b
  .exact zZ (by omega)
 .rcases f q h with b|b
  .exact (i q c).1 b
  .have:=(s.lt q c).2;omega
 .rcases f q h with b|b
  .exact l q c b
  .have:=n q c;omega
end
section
def pk (f:Int) (N:Nat):Prop:=∀ (e:Nat) (d:Option zD) (K H:Nat) (k:Int) (L:By) (n:Int) (a:Option zD) (b c:Nat) (w:zW) (D:Int->zW->Prop) (_:∀ C F j u,D C F->D C (F.setCell (X (w.heap.size+1) j) u))
  (_:∀ W,zB w W->w.heap.size+1<W.heap.size->W.heap[w.heap.size+1]?=A bM->zC prog N #[zK (A (X e 1))] W λr E=>∃ C:Int,r=zP (J C)/\E.heap[w.heap.size+1]?=A bM/\D C E),
  zC prog 47 #[zJ e,zd #[J f,B d K H,J k,Q L,J n,B a b c]] w λr E=>∃ C:Int,r=zP (zd #[J C,J 0,Q [],zN,J 0,J 0])/\D C E
def Ip:pk 4 66:=by intro e N a P k c n O b R w d H K;have C:=I H;have E:=I (λx:Int=>K ((w.alloc (zM #[J x,B N a P,J k,Q c,J n,B O b R] 97)).alloc (zM #[J 0,J 0,Q [],zN,J 0,J 0] 39)) (aY _ _ _) (by simp) (bc w _ _ _));clear K H;go_in;go_wp2_with ((first|go_at_call 66|go_at_call 67|go_at_call 49|go_at_call 68|go_at_call 69);refine mo (E.o _) ?_;rintro r f ⟨F,rfl,D,L⟩);obtain ⟨⟨T,U,V,W,Y,Z⟩,⟨f0,f1,f2,f3,f4,f5⟩,S⟩:=bJ D;have M:=I L;clear D L E;apply I;go_wp2;refine aK (v:=zd #[J F,J 0,Q [],zN,J 0,J 0]) (by simp [results,results47,go_sem,T,U,V,W,Y,Z,S]) rfl ?_;exact ⟨F,rfl,C.o _ _ _ _ (C.o _ _ _ _ (C.o _ _ _ _ (C.o _ _ _ _ (C.o _ _ _ _ (C.o _ _ _ _ M.o)))))⟩
def Em:pk 5 67:=by intro e N a P k c n O b R w d H K;have C:=I H;have E:=I (λx:Int=>K ((w.alloc (zM #[J x,B N a P,J k,Q c,J n,B O b R] 97)).alloc (zM #[J 0,J 0,Q [],zN,J 0,J 0] 39)) (aY _ _ _) (by simp) (bc w _ _ _));clear K H;go_in;go_wp2_with ((first|go_at_call 66|go_at_call 67|go_at_call 49|go_at_call 68|go_at_call 69);refine mo (E.o _) ?_;rintro r f ⟨F,rfl,D,L⟩);obtain ⟨⟨T,U,V,W,Y,Z⟩,⟨f0,f1,f2,f3,f4,f5⟩,S⟩:=bJ D;have M:=I L;clear D L E;apply I;go_wp2;refine aK (v:=zd #[J F,J 0,Q [],zN,J 0,J 0]) (by simp [results,results47,go_sem,T,U,V,W,Y,Z,S]) rfl ?_;exact ⟨F,rfl,C.o _ _ _ _ (C.o _ _ _ _ (C.o _ _ _ _ (C.o _ _ _ _ (C.o _ _ _ _ (C.o _ _ _ _ M.o)))))⟩
def Eo:pk 6 49:=by intro e N a P k c n O b R w d H K;have C:=I H;have E:=I (λx:Int=>K ((w.alloc (zM #[J x,B N a P,J k,Q c,J n,B O b R] 97)).alloc (zM #[J 0,J 0,Q [],zN,J 0,J 0] 39)) (aY _ _ _) (by simp) (bc w _ _ _));clear K H;go_in;go_wp2_with ((first|go_at_call 66|go_at_call 67|go_at_call 49|go_at_call 68|go_at_call 69);refine mo (E.o _) ?_;rintro r f ⟨F,rfl,D,L⟩);obtain ⟨⟨T,U,V,W,Y,Z⟩,⟨f0,f1,f2,f3,f4,f5⟩,S⟩:=bJ D;have M:=I L;clear D L E;apply I;go_wp2;refine aK (v:=zd #[J F,J 0,Q [],zN,J 0,J 0]) (by simp [results,results47,go_sem,T,U,V,W,Y,Z,S]) rfl ?_;exact ⟨F,rfl,C.o _ _ _ _ (C.o _ _ _ _ (C.o _ _ _ _ (C.o _ _ _ _ (C.o _ _ _ _ (C.o _ _ _ _ M.o)))))⟩
def K1:pk 7 68:=by intro e N a P k c n O b R w d H K;have C:=I H;have E:=I (λx:Int=>K ((w.alloc (zM #[J x,B N a P,J k,Q c,J n,B O b R] 97)).alloc (zM #[J 0,J 0,Q [],zN,J 0,J 0] 39)) (aY _ _ _) (by simp) (bc w _ _ _));clear K H;go_in;go_wp2_with ((first|go_at_call 66|go_at_call 67|go_at_call 49|go_at_call 68|go_at_call 69);refine mo (E.o _) ?_;rintro r f ⟨F,rfl,D,L⟩);obtain ⟨⟨T,U,V,W,Y,Z⟩,⟨f0,f1,f2,f3,f4,f5⟩,S⟩:=bJ D;have M:=I L;clear D L E;apply I;go_wp2;refine aK (v:=zd #[J F,J 0,Q [],zN,J 0,J 0]) (by simp [results,results47,go_sem,T,U,V,W,Y,Z,S]) rfl ?_;exact ⟨F,rfl,C.o _ _ _ _ (C.o _ _ _ _ (C.o _ _ _ _ (C.o _ _ _ _ (C.o _ _ _ _ (C.o _ _ _ _ M.o)))))⟩
def K2:pk 8 69:=by intro e N a P k c n O b R w d H K;have C:=I H;have E:=I (λx:Int=>K ((w.alloc (zM #[J x,B N a P,J k,Q c,J n,B O b R] 97)).alloc (zM #[J 0,J 0,Q [],zN,J 0,J 0] 39)) (aY _ _ _) (by simp) (bc w _ _ _));clear K H;go_in;go_wp2_with ((first|go_at_call 66|go_at_call 67|go_at_call 49|go_at_call 68|go_at_call 69);refine mo (E.o _) ?_;rintro r f ⟨F,rfl,D,L⟩);obtain ⟨⟨T,U,V,W,Y,Z⟩,⟨f0,f1,f2,f3,f4,f5⟩,S⟩:=bJ D;have M:=I L;clear D L E;apply I;go_wp2;refine aK (v:=zd #[J F,J 0,Q [],zN,J 0,J 0]) (by simp [results,results47,go_sem,T,U,V,W,Y,Z,S]) rfl ?_;exact ⟨F,rfl,C.o _ _ _ _ (C.o _ _ _ _ (C.o _ _ _ _ (C.o _ _ _ _ (C.o _ _ _ _ (C.o _ _ _ _ M.o)))))⟩
variable {S S' S1 O:Nat->Prop} {e k:Nat} {D V F Z P R T:Nat->Prop} {σ σ0 σ1:bg} {w w' W w1 w2 w3 U:zW} {a:Ab} {nm:List By} {bn:Option zD} {ln cn:Nat}
def oq (a:Ab):Nat × Ab:=match a.dV with
 | some _=>(9,a)
 | none=>(0,⟨a.M,a.fs,a.past,a.jr,A a.fs⟩)
def mh (a:Ab):Nat × Ab:=match a.dV with
 | some g=>(0,⟨a.M,a.fs,(g::a.past).take a.M,[],none⟩)
 | none=>(10,a)
def mg (a:Ab):Nat × Ab:=match a.dV with
 | some g=>(0,⟨a.M,g,a.past,a.jr,none⟩)
 | none=>(10,a)
def uk (e k:Nat) (F:Nat->Prop) (x:Nat × Ab) (w:zW) (r:Ending) (w':zW):Prop:=r=zP (J (x.1:Int))/\Ks F w w'/\∃ Z,eG w' e Z k x.2/\∀ q,Z q->F q\/w.heap.size<=q
def gm.uh {S:Nat->Prop} {g j f:zV} {d b a:List (List Wr)} {m:bg} {M:Nat} {x:Nat × Ab} {r:Ending} (i:gm e (Ft S e D g j f) (jd e D g j f) m M d b a x.2.dV.isSome w w') (o:x.2.M=M) (s:r=zP (J (x.1:Int))) (c:mE x.2 D m d b a) (t:G a<=k) (l:∀ q,Ft S e D g j f q->F q):uk e k F x w r w':=by
 subst o;obtain ⟨p,Z,u,n⟩:=i.at rfl c t;exact ⟨s,p.wide λq h=>l q (zZ h),Z,u,λq h=>(n q h).imp_left (l q)⟩
def eG.pS (h:eG w e F k a):zC prog 68 #[zK (A (X e 1))] w (uk e k F (mb a) w):=by
 obtain ⟨S,D,σ,u,y,t,j,f,p,g,m,d,s,x⟩:=h;refine (wI g).m ?_;rintro r w' ⟨n,b⟩;obtain ⟨i,l,v,q,o⟩:=m.pS;rw [q] at b;have c:(kE ⟨σ,j,f,p,a.dV.isSome⟩).2.gr.length<=k:=by
  unfold kE;split
  .exact d
  .split
   .exact d
   .exact d
 exact b.uh l (by rw [n,i]) o c s
def eG.pT (h:eG w e F k a):zC prog 69 #[zK (A (X e 1))] w (uk e k F (mf a) w):=by
 obtain ⟨S,D,σ,u,y,t,j,f,p,g,m,d,s,x⟩:=h;refine (wL g).m ?_;rintro r w' ⟨n,b⟩;obtain ⟨i,l,v,q,o⟩:=m.pT;rw [q] at b;have c:(kF ⟨σ,j,f,p,a.dV.isSome⟩).2.gr.length<=k:=by
  unfold kF;split
  .exact d
  .split
   .exact d
   .exact d
 exact b.uh l (by rw [n,i]) o c s
def eG.ach (h:eG w e F k a) (s:k<1000000000000):zC prog 49 #[zK (A (X e 1))] w (uk e k F (mg a) w):=by
 obtain ⟨S,D,σ,o,t,n,m,l,p,b,f,j,i,q⟩:=h;unfold mg;cases c:a.dV with
 | none=>
  rw [c] at b;refine (Ao b).m ?_;rintro r w' ⟨rfl,d⟩;exact gm.uh (x:=(10,a)) (by rw [c];exact d) rfl rfl f j i
 | some g=>
  rw [c] at b;refine (Am b (by omega)).m ?_;rintro r w' ⟨rfl,d⟩;exact gm.uh (x:=(0,⟨a.M,g,a.past,a.jr,none⟩)) d rfl rfl (f.cancel c) (by simp) i
def eG.aci (h:eG w e F k a) (Q4:k<1000000000000):zC prog 67 #[zK (A (X e 1))] w (uk e k F (mh a) w):=by
 have K:=h;obtain ⟨S,D,σ,y,E,u,t,p,z,b,l,C,m,M⟩:=h;unfold mh;cases d:a.dV with
 | none=>
  rw [d] at b;obtain ⟨G,s,_,_,_,f⟩:=b.ph.row;obtain ⟨v,j,c⟩:=b.rg;obtain ⟨H,i,o,rfl⟩:=b7 c.own;refine (KS f H i o rfl).m ?_;rintro r w' ⟨rfl,rfl⟩;exact ⟨rfl,Ks.refl _ _,F,K,λq L=>zR L⟩
 | some g=>
  rw [d] at b;refine (KQ b (by omega)).m ?_;rintro r w' ⟨rfl,n⟩;exact gm.uh (x:=(0,⟨a.M,a.fs,(g::a.past).take a.M,[],none⟩)) n rfl rfl (l.kW d (by have:=b.len;omega)) (by simp) m
def eG.afc (h:eG w e F k a):zC prog 66 #[zK (A (X e 1))] w (uk e k F (oq a) w):=by
 have E:=h;obtain ⟨S,D,σ,o,u,n,l,j,p,c,m,t,f,s⟩:=h;obtain ⟨x,v,_,_,_,i⟩:=c.ph.row;refine (GP i).m ?_;intro r w' b;unfold xb at b;unfold oq;cases d:a.dV with
 | some g=>
  rw [d] at b;obtain ⟨rfl,rfl⟩:=b;exact ⟨rfl,Ks.refl _ _,F,E,λq C=>zR C⟩
 | none=>
  rw [d] at b c;obtain ⟨rfl,rfl⟩:=b;exact ⟨rfl,(Ks.refl _ _).set e 4 _ (f e (zZ (zR rfl))),F,⟨S,D,σ,o,u,n,l,j,p,c.begin,m.begin d,t,f,λq C=>by simpa using s q C⟩,λq C=>zR C⟩
def eG.afd (h:eG w e F k a) (s:By) (f:Int) (t:rT f=false) (N:Nat) (i:pk f N) (x:Nat × Ab) (L:∀ W,eG W e F k a->zC prog N #[zK (A (X e 1))] W (uk e k F x W))
  (z:zC prog 46 #[Q s] (w.alloc bM) λr w1=>Below (w.heap.size+1) (w.alloc bM) w1/\∃ g ln cn,r=zP (zp #[j7 f g ln cn 0 [] 0 none 0 0,J 0,J 0])) :
  zC prog 20 #[zJ e,Q s] w λr w'=>r=zP (Ik (x.1:Int) 0 [] none 0 0 0 0)/\jI F (λ_=>False) e k x.2 [] w none 0 0 w':=by
 have hF:=h.lt;refine (PV e s w (λM h3 tx bn ln cn kd nn w'=>M=(x.1:Int)/\h3=0/\tx=[]/\kd=0/\nn=0/\(bn=none/\ln=0/\cn=0)/\jI F (λq=>q=w.heap.size) e k x.2 [] w none 0 0 w') (z.m ?_)).m ?_
 rotate_left
 .rintro r w' ⟨M,h3,tx,bn,ln,cn,kd,nn,rfl,rfl,rfl,rfl,rfl,rfl,⟨rfl,rfl,rfl⟩,p⟩;exact ⟨rfl,p.less λ_ h=>h.elim⟩
 rintro r w1 ⟨l,g,b,c,rfl⟩;refine ⟨l,f,g,b,c,0,[],0,none,0,0,rfl,?_⟩;have Rc:w.heap.size+1<=w1.heap.size:=(by have:=l.size;simpa using this);have er:zB w w1:=((aM _ _).alloc (aG _) bM).t (l.m (by omega));generalize n:(w1.alloc (jx f g b c 0 [] 0 none 0 0)).alloc bM=w2;have aa:w2.heap.size=w1.heap.size+2:=(by rw [<- n];simp);have v:zB w1 w2:=(by rw [<- n];exact aY _ _ _);have z0:w2.heap[w.heap.size]?=A bM:=(by rw [v.block _ (by omega),l.block _ (by omega)];exact bL w bM);have hp:w2.heap[w1.heap.size+1]?=A bM:=(by rw [<- n];exact bc w1 _ _ _);have hq:w2.heap[w1.heap.size]?=A (jx f g b c 0 [] 0 none 0 0):=(by rw [<- n];exact fX w1 _ _ _);have y:zB w w2:=er.t (v.m (by omega));refine (i e g b c 0 [] 0 none 0 0 w2 (λM w'=>M=(x.1:Int)/\jI F (λq=>q=w.heap.size\/q=w1.heap.size\/q=w1.heap.size+1\/q=w2.heap.size+1) e k x.2 [] w2 none 0 0 w') ?_ ?_).m ?_
 .rintro M w' j u ⟨m,Y⟩;exact ⟨m,Y.set (by simp) (by omega) j u⟩
 .intro W o h2 G;have Q4:=o.size;refine (L W (h.next (y.t (o.m (by omega))))).m ?_;rintro r w3 ⟨rfl,m,Q0,Y,C⟩;refine ⟨(x.1:Int),rfl,(m.block _ h2 λK=>by have:=hF _ K;omega).t G,rfl,rfl,?_,eW _ _ _ _,Q0,Y,λq H=>(C q H).imp_right λh=>by omega,λq H=>by simp [Value.ownBlock] at H,λq H QT=>?_⟩
  .exact (Ks.of o).t m
  .rcases C q QT with E|E
   .have:=hF q E;omega
   .omega
 .rintro r w3 ⟨M,rfl,rfl,Y⟩;have d:=Y.2.1;refine ⟨_,0,[],none,0,0,0,0,λW=>jI F (λq=>q=w.heap.size\/q=w1.heap.size+1) e k x.2 [] w none 0 0 W,rfl,?_,?_,?_,⟨?_,?_⟩,?_,?_,?_⟩
  .exact (d.block _ (by omega) λK=>by have:=hF _ K;omega).t z0
  .exact (d.block _ (by omega) λK=>by have:=hF _ K;omega).t hp
  .exact (d.block _ (by omega) λK=>by have:=hF _ K;omega).t hq
  .intro W j u E;exact E.set (by simp) (by omega) j u
  .intro W j u E;exact E.set (by simp) (by omega) j u
  .refine (Y.base y λq H=>zR H).less ?_;rintro q (C|C)
   .exact zR C
   .exact zZ (zZ (zR C))
  .rintro W j u ⟨C,E,D,QV,p,h4,Jz⟩;exact ⟨C,E,D,QV,p,h4,Jz.set rfl (aG _) j u⟩
  .rw [aA (by rintro ⟨_,C⟩;rw [t] at C;cases C)];intro W E;exact ⟨rfl,rfl,rfl,rfl,rfl,⟨rfl,rfl,rfl⟩,E.less λq H=>zR H⟩
end
section
variable {S S1 O:Nat->Prop} {e:Nat} {D Z:Nat->Prop} {σ σ0 σ1:bg} {v1 v2 v3 v4 v5:zV} {te:TypeId} {w w' W w1 w2:zW} {ws0 us:List Wr} {b N:Nat} {cs:Array zV} {U:AR} {r:Ending}
def cK.less (h:cK w S e Z σ1 v1 v2 v3 v4 v5 te) (f:∀ q,D q->Z q) (l:∀ q,D q->σ1.mem q=σ.mem q) (n:σ1.ord=σ.ord) (hs:∀ b,b∈σ.ord->D b):cK w S e D σ v1 v2 v3 v4 v5 te:=by
 obtain ⟨a,c,d,j,m,i⟩:=h.row;rw [n] at d j i;exact ⟨h.still,h.eS,λk=>h.eD (f e k),λq g=>by rw [<- l q g];exact h.bX q (f q g),hs,a,c,d,j,m,i⟩
def eB.lift (u:∀ q,S q->S1 q) (v:∀ q,S1 q->S q\/w.heap.size<=q) (g:∀ q,D q->Z q) (l:∀ q,Z q->D q\/w.heap.size<=q) (f:Ks (λq=>q=e\/D q) w w1) (y:∀ q,D q->σ1.mem q=σ.mem q) (z:σ1.ord=σ.ord) (m:∀ b,b∈σ.ord->D b)
  (h:eB S1 e Z σ1 v1 v2 v3 v4 v5 te U w1 r w'):eB S e D σ v1 v2 v3 v4 v5 te U w r w':=by
 have o:∀ {K n:Nat->Prop} {M:List By} {i:Option zD} {L:Nat},Hh S1 e Z K n M i L w1 w'->Hh S e D K n M i L w w':=λ{K n M i L} hc=>by
  refine ⟨λq d=>hc.s0 q (u q d),λq d=>?_,λq d=>hc.d0 q (g q d),λq d=>?_,⟨hc.ks.os.t f.os,hc.ks.tape.t f.tape,hc.ks.output.t f.output,bf f.size hc.ks.size,λk p t=>?_⟩,dS hc.own f.size,hc.ob⟩
  .rcases hc.s1 q d with a|a
   .exact v q a
   .exact zZ (bf f.size a)
  .rcases hc.d1 q d with a|a
   .exact l q a
   .exact zZ (bf f.size a)
  .refine (hc.ks.block k (bG p f.size) ?_).t (f.block k p t);rintro (a|a)
   .exact t (zR a)
   .rcases l k a with j|j
    .exact t (zZ j)
    .omega
 cases U with
 | ok T M=>
  obtain ⟨i,L,K,n,R,s,H,C,a,j,x,E,G,F,P⟩:=h;exact ⟨i,L,K,n,R,s,H,C,o a,j,λq d=>(x q (g q d)).t (y q d),E.t z,G,F,P⟩
 | err c M=>
  obtain ⟨i,L,K,a,j,x⟩:=h;refine ⟨i,L,K,?_,j,x.less g y z m⟩;have:=o a;exact ⟨this.s0,this.s1,λ_ h=>h,λ_ h=>zR h,this.ks,this.own,this.ob⟩
def eB.shape (h:eB S e D σ v1 v2 v3 v4 v5 te U w r w'):∃ (a:Option zD) (ln cn:Nat) (bk:zV) (er:Int),r=zP (zp #[B a ln cn,bk,J er])/\eB S e D σ v1 v2 v3 v4 v5 te U w (zP (zp #[B a ln cn,bk,J er])) w':=by
 cases U with
 | ok F E=>
  obtain ⟨a,cn,C,i,g,d,k,j,b,rfl,f⟩:=h;exact ⟨a,_,cn,_,_,rfl,a,cn,C,i,g,d,k,j,b,rfl,f⟩
 | err c E=>
  obtain ⟨a,cn,C,b,rfl,f⟩:=h;exact ⟨a,_,cn,_,_,rfl,a,cn,C,b,rfl,f⟩
def BT (e c:Nat) (a:Option zD) (fs:List (Nat × Fd)) (x:By) (p:Pt) (al:Option zD) (i l:Nat) (w:zW) (hs:Sh w S a fs) (d:w.cell? (yh e)=A (B a (G fs) c)) (f:e<w.heap.size) (j:G fs=10) (b:ah fs x=none) :
  zC prog 133 #[zJ e,Q x,zd #[J p.k,Q p.nm,J p.n,B al i l]] w λr w'=>r=zP (zp #[zN,.nilFunc,J 7])/\zB w w':=by
 have h:=I (show ∀ W,zB w W->zC prog 137 #[zJ e,Q x] W λr w'=>r=zP (zK none)/\W=w' from λW g=>by
  have:=kQ x e c a fs W (hs.next g) ((g.cell (p:=yh e) f).t d) (by omega);rw [iQ,b] at this;exact this)
 rw [j] at d;have k:w.cell? (yh e)=A (B a 10 c):=d;clear hs d;go_in;go_wp2_with (go_at_call 137;refine (h.o _ (by first|exact aM _ _|exact (aM _ _).alloc (aG _) _|exact aY _ _ _)).m ?_;rintro r w1 ⟨rfl,rfl⟩);refine aK (v:=zp #[zN,.nilFunc,J 7]) (by simp [results,results133,go_sem]) (by simp [go_sem]) ?_;exact ⟨rfl,by first|exact (aM _ _).alloc (aG _) _|exact aY _ _ _|exact aM _ _⟩
def BU (h:cK w S e D σ v1 v2 v3 v4 v5 te) (M:σ.ord.Nodup) (hl:σ.ord.length<=10) (x:By) (p:Pt) (al:Option zD) (P U:Nat) (hP:dR w S p al P U) (yP:az p) (aa:Good p) (Q6:(ai p).length<=100) :
  zC prog 133 #[zJ e,Q x,zd #[J p.k,Q p.nm,J p.n,B al P U]] w (eB S e D σ v1 v2 v3 v4 v5 te (mK (σ.fs.map Prod.snd) x p) w):=by
 have od:=h.lt;have E:σ.fs.length=σ.ord.length:=(by simp [bg.fs]);obtain ⟨a,c,hs,a5,OP,d⟩:=h.sh;unfold mK;cases T:ah σ.fs x with
 | some f=>
  obtain ⟨i,Tw,bk⟩:=nk T;obtain ⟨w3,a2⟩:=OT bk;have a9:=(fE T).1;have s:D f.1:=h.sub f.1 (oG w3);have e1:(σ.fs.map Prod.snd)[i]?=A f.2:=by rw [kn,bk];rfl
  rw [Tw];simp only [e1];refine (yH e c a σ.fs f x p al P U w (λY z o j y w'=>eB S e D σ v1 v2 v3 v4 v5 te (fq ((σ.fs.map Prod.snd).set i ⟨f.2.nm,p,f.2.v⟩) i ⟨f.2.nm,p,f.2.v⟩) w (zP (zp #[B Y z o,j,J y])) w') hs (bJ d).1.1 od (by omega) T (λl=>h.eD (l▸s)) ?_).m (by
   rintro r w' ⟨Y,z,o,j,y,rfl,F⟩;exact F)
  intro v u w1 Q4 O yR;obtain ⟨fa,fl,fc,G,er,ln,_,N,n⟩:=yR;have an:f.2=σ.mem f.1:=by rw [a2]
  obtain ⟨q1,q2,q3,q4,ag,am,ak,r1,r2⟩:=h.bX f.1 s;rw [an] at Q4 G n;have ay:(fa,fl,fc)=(ag,am,ak):=by
   rw [r1] at G;simp at G;obtain ⟨e1,e2,e3⟩:=G;rw [e1,e2,e3]
  cases ay;have k:∀ q,S q->w1.heap[q]?=w.heap[q]?:=λq F=>O.block q (h.still q F) (λl=>q1 (l▸F));have a8:=(h.bX f.1 s).lt;have JT:cK w1 (S2 S v u) e D (σ.put f.1 ⟨(σ.mem f.1).nm,p,(σ.mem f.1).v⟩) v1 v2 v3 v4 v5 te:=h.Bb s _ ⟨by
   rintro (H|H|H)
   .exact q1 H
   .omega
   .omega,yP,aa,Q6,al,P,U,Q4,(hP.next k).wide gY⟩ O gY (Cu er ln N n)
  have ar:cO e D w1 (S2 S v u) 191 #[zJ v,zJ u] (dz [.rl f.1 p] σ):=.rl v u f.1 _ fa fl fc (zZ (zR rfl)) (zZ (zZ rfl)) N n ((r2.next k).wide gY) q2 q3 q4 s;have C:=CC (σ:=σ.put f.1 ⟨(σ.mem f.1).nm,p,(σ.mem f.1).v⟩) (b:=f.1) (σ0:=σ) (ws0:=[.rl f.1 p]) i _ _ JT rfl ar (by show σ.ord.length<=100;omega) w3 M;rw [Bp i M w3,fN] at C;refine C.m λr w' R=>?_;rw [an];exact (R.lift gY (λq F=>(uJ er ln N n q F).imp id λh=>h.1) (λ_ h=>h) (λ_ h=>zR h) (O.wide λq F=>zZ (by rw [show q=f.1 from F];exact s)) (λ_ _=>rfl) rfl h.sub).shape
 | none=>
  rw [qj T];simp only [fy];by_cases Q5:σ.fs.length=10
  .rw [aB Q5];refine (BT e c a σ.fs x p al P U w hs (bJ d).1.1 od Q5 T).m ?_;rintro r w' ⟨rfl,hb⟩;exact ⟨none,0,S,⟨λ_ h=>h,λ_ h=>zR h,λ_ h=>h,λ_ h=>zR h,Ks.of hb,eW _ _ _ _,λq F=>by simp [Value.ownBlock] at F⟩,rfl,h.next hb⟩
  .rw [aA Q5];refine (Tx e c a σ.fs x p al P U v1 v2 v3 v4 v5 te w (λY z o j y w'=>eB S e D σ v1 v2 v3 v4 v5 te (fq (σ.fs.map Prod.snd++[⟨x,p,(0,0)⟩]) σ.fs.length ⟨x,p,(0,0)⟩) w (zP (zp #[B Y z o,j,J y])) w') hs d (by omega) (λf ax l=>?_) h.eS OP hP yP aa Q6 T ?_).m (by
    rintro r w' ⟨Y,z,o,j,y,rfl,F⟩;exact F)
   .obtain ⟨q,F,rfl⟩:=bU.1 ax;exact h.eD (l▸h.sub q F)
   .intro b g af v u L m;have cn:∀ q,D q->q≠b:=λq F l=>by have:=(h.bX q F).lt;have:=m.hb;omega
    have h1:=m.ks;have k:∀ q,S q->L.heap[q]?=w.heap[q]?:=λq F=>h1.block q (h.still q F) (λl=>h.eS (l▸F));have aJ:∃ cc t Q0,L.heap[g]?=A (zM cc t Q0):=by
     obtain ⟨g',a4,l,_,K⟩:=m.sh.ptr 0 (by simp);cases l;unfold World.cell? at K;cases hh:L.heap[g]? with
     | none=>rw [hh] at K;simp at K
     | some ob=>
      rw [hh] at K;cases ob<;>simp at K;exact ⟨_,_,_,rfl⟩
    have hq:∀ q,(S2 S v u q\/q=g)->S q\/(w.heap.size<=q/\∃ c t Q0,L.heap[q]?=A (zM c t Q0)):=by
     rintro q (F|rfl)
     .exact uJ m.hg1 m.hg2 m.hc1 m.hc2 q F
     .exact zZ ⟨m.hg,aJ⟩
    have a1:∀ q,(S2 S v u q\/q=g)->q<L.heap.size:=λq F=>by
     rcases hq q F with H|⟨_,_,_,_,H⟩
     .exact bG (h.still q H) h1.size
     .exact (cz.1 H).1
    have QV:=m.sh.bX (b,⟨x,p,(0,0)⟩) (by simp);obtain ⟨fa,fl,fc,av,_⟩:=QV.open;have Z:∀ q c t,L.heap[q]?=A (zM c t (0,0))->t≠223->q≠b:=λq c t F ht l=>by
     rw [l,av] at F;simp at F;exact ht F.2.symm
    have ao:¬ (S2 S v u b\/b=g):=by
     rintro ((H|H|H)|H)
     .exact QV.1 (zR H)
     .exact Z v _ _ m.hc1 (by decide) H.symm
     .exact Z u _ _ m.hc2 (by decide) H.symm
     .exact QV.1 (zZ H)
    have wJ:cK L (λq=>S2 S v u q\/q=g) e (λq=>D q\/q=b) ⟨σ.ord++[b],(σ.put b ⟨x,p,(0,0)⟩).mem⟩ v1 v2 v3 v4 v5 te:=by
     refine ⟨a1,λF=>?_,λF=>?_,λq F=>?_,λq F=>?_,A (yh g),af,λQT hj=>?_,by simpa [E] using m.cp,λh=>(by cases h),?_⟩
     .rcases hq e F with H|H
      .exact h.eS H
      .omega
     .rcases F with H|H
      .exact h.eD H
      .have:=m.hb;omega
     .by_cases l:q=b
      .subst l;rw [show (⟨σ.ord++[q],(σ.put q ⟨x,p,(0,0)⟩).mem⟩:bg).mem q=(σ.put q ⟨x,p,(0,0)⟩).mem q from rfl,fN];refine QV.more ?_ ao;rintro a3 (H|H)
       .exact zR (zR H)
       .exact zZ H
      .have V:D q:=F.resolve_right l;rw [show (⟨σ.ord++[b],(σ.put b ⟨x,p,(0,0)⟩).mem⟩:bg).mem q=(σ.put b ⟨x,p,(0,0)⟩).mem q from rfl,dM _ _ _ _ l];refine ((h.bX q V).stays (h1.block q (h.bX q V).lt λl=>h.eD (l▸V)) k).more (λa3 hk=>zR (zR hk)) λH=>?_;rcases hq q H with h2|h2
       .exact (h.bX q V).1 h2
       .have:=(h.bX q V).lt;omega
     .rcases cG.1 F with H|H
      .exact zR (h.sub q H)
      .exact zZ (by simpa using H)
     .have ac:QT<(σ.fs++[(b,(⟨x,p,(0,0)⟩:Fd))]).length:=by simpa [E] using hj
      obtain ⟨g',a4,l,_,K⟩:=m.sh.ptr QT ac;cases l;refine ⟨g,0,rfl,zZ rfl,?_⟩;have e2:((σ.fs++[(b,(⟨x,p,(0,0)⟩:Fd))])[QT]).1=(σ.ord++[b])[QT]:=by
       have:((σ.fs++[(b,(⟨x,p,(0,0)⟩:Fd))]).map Prod.fst)=σ.ord++[b]:=by simp [Be]
       rw [<- kJ Prod.fst];simp only [this];exact (by simpa using ac)
      rw [e2] at K;exact K
     .have:=m.row;rw [E] at this;simpa using this
    have au:cO e (λq=>D q\/q=b) L (λq=>S2 S v u q\/q=g) 192 #[zJ v,zJ u] (dz [.ord (σ.ord++[b])] (σ.put b ⟨x,p,(0,0)⟩)):=by
     obtain ⟨a0,c0,k1,k2,k3,k4⟩:=h.row;have n:=m.hc2;rw [E] at n d;have ad:a=a0/\c=c0:=by
      rw [k4] at d;simp at d;exact ⟨d.1.symm,d.2.symm⟩
     obtain ⟨rfl,rfl⟩:=ad;exact .ord v u a c σ.ord (zR (zZ (zR rfl))) (zR (zZ (zZ rfl))) m.hc1 n ((k1.next k).wide λq F=>zR (zR F)) k2 k3 λq F=>zR (h.sub q F)
    have W:b∉σ.ord:=λhb=>cn b (h.sub b hb) rfl;have C:=CC (σ:=⟨σ.ord++[b],(σ.put b ⟨x,p,(0,0)⟩).mem⟩) (b:=b) (σ0:=σ.put b ⟨x,p,(0,0)⟩) (ws0:=[.ord (σ.ord++[b])]) σ.ord.length _ _ wJ rfl au (by simp;omega) (by simp) (by
     rw [List.nodup_append];refine ⟨M,(by simp),λq F r R=>?_⟩;simp at R;rw [R];exact λl=>W (l▸F))
    have e3:(⟨σ.ord++[b],(σ.put b ⟨x,p,(0,0)⟩).mem⟩:bg).fs.map Prod.snd=σ.fs.map Prod.snd++[⟨x,p,(0,0)⟩]:=by
     unfold bg.fs;simp only [fK,fM,fL,List.map_nil,fN];congr 1;refine sB λq F=>?_;simp only [Function.comp];exact dM _ _ _ _ λl=>W (l▸F)
    rw [e3,show (⟨σ.ord++[b],(σ.put b ⟨x,p,(0,0)⟩).mem⟩:bg).mem b=⟨x,p,(0,0)⟩ from fN _ _ _,<- E] at C;refine C.m λr w' R=>?_;refine (R.lift (S:=S) (D:=D) (σ:=σ) (w:=w) (λq F=>zR (zR F)) (λq F=>(hq q F).imp id λh=>h.1) (λq F=>zR F) (λq F=>F.imp id λl=>by rw [l];exact m.hb) (h1.wide λq F=>zR F) (λq F=>dM _ _ _ _ (cn q F)) rfl h.sub).shape
end
section
def Iq (e:Nat) (f:Int) (x:f=9\/f=10\/f=11\/f=12) (t:Option zD) (ln cn:Nat) (k:Int) (nm:By) (n:Int) (o:Option zD) (p s:Nat) (w:zW) (er at_:Int) (tx:By) (kd nn:Int) (L:Option zD->Nat->Nat->zW->Prop) (g:∀ a l c w1 j u,L a l c w1->L a l c (w1.setCell (X (w.heap.size+1) j) u))
  (z:∀ W,zB w W->w.heap.size+1<W.heap.size->zC prog 70 #[zJ e,zd #[J f,B t ln cn,J k,Q nm,J n,B o p s]] W λr M=>∃ K b d,r=zP (zd #[J er,J at_,Q tx,B K b d,J kd,J nn])/\(∀ q,q=w.heap.size+1->M.heap[q]?=W.heap[q]?)/\L K b d M) :
  zC prog 47 #[zJ e,zd #[J f,B t ln cn,J k,Q nm,J n,B o p s]] w λr M=>∃ K b d,r=zP (zd #[J er,J at_,Q tx,B K b d,J kd,J nn])/\L K b d M:=by
 have y:=I z;have C:(f == 1)=false:=(by simp;omega);have D:(f == 2)=false:=(by simp;omega);have F:(f == 3)=false:=(by simp;omega);have H:(f == 4)=false:=(by simp;omega);have Z:(f == 5)=false:=(by simp;omega);have G:(f == 6)=false:=(by simp;omega);have QV:(f == 7)=false:=(by simp;omega);have E:(f == 8)=false:=(by simp;omega);clear z x;go_in;have m:=I (y.o ((w.alloc (zM #[J f,B t ln cn,J k,Q nm,J n,B o p s] 97)).alloc (zM #[J 0,J 0,Q [],zN,J 0,J 0] 39)) (aY _ _ _) (by simp));have h:=I (bc w (zM #[J f,B t ln cn,J k,Q nm,J n,B o p s] 97) #[J 0,J 0,Q [],zN,J 0,J 0] 39);clear y;go_wp2_with (go_at_call 70;refine mo m.o ?_;rintro r w1 ⟨K,b,d,rfl,i,N⟩);obtain ⟨⟨R,S,T,U,V,Y⟩,⟨f0,f1,f2,f3,f4,f5⟩,P⟩:=bJ ((i (w.heap.size+1) rfl).t h.o);have O:=I N;clear i N m;apply I;go_wp2;refine aK (v:=zd #[J er,J at_,Q tx,B K b d,J kd,J nn]) (by simp [results,results47,go_sem,R,S,T,U,V,Y,P]) rfl ?_;exact ⟨K,b,d,rfl,g _ _ _ _ _ _ (g _ _ _ _ _ _ (g _ _ _ _ _ _ (g _ _ _ _ _ _ (g _ _ _ _ _ _ (g _ _ _ _ _ _ O.o)))))⟩
variable {e k:Nat} {F:Nat->Prop} {w w' W w1 w2 w3 Z:zW} {a:Ab} {nm:List By} {bn:Option zD} {ln cn:Nat}
def uY (er:Int) (tx:By) (kd nn:Int) (nm:List By) (W:zW) (r:Ending) (w':zW):Prop:=∃ bn ln cn,r=zP (zd #[J er,J 0,Q tx,B bn ln cn,J kd,J nn])/\ln=G nm/\w'.ownsRow W.heap.size 9 1 (B bn ln cn) ln (ab nm)/\zB W w'
def eG.afe (h:eG w e F k a) (s:By) (b:Int) (x:b=9\/b=10\/b=11\/b=12) (er:Int) (tx:By) (kd nn:Int) (nm:List By)
  (L:zC prog 46 #[Q s] (w.alloc bM) λr w1=>Below (w.heap.size+1) (w.alloc bM) w1/\∃ n ln cn,r=zP (zp #[j7 b n ln cn 0 [] 0 none 0 0,J 0,J 0])/\∀ W,zB w1 W->eG W e F k a->zC prog 70 #[zJ e,j7 b n ln cn 0 [] 0 none 0 0] W (uY er tx kd nn nm W)) :
  zC prog 20 #[zJ e,Q s] w λr w'=>∃ bn ln cn,r=zP (Ik er 0 tx bn ln cn kd nn)/\jI F (λ_=>False) e k a nm w bn ln cn w':=by
 have hF:=h.lt;have D:rT b=false:=by rcases x with rfl|rfl|rfl|rfl<;>rfl
 refine (PV e s w (λz p v bn ln cn o y w'=>z=er/\p=0/\v=tx/\o=kd/\y=nn/\jI F (λq=>q=w.heap.size) e k a nm w bn ln cn w') (L.m ?_)).m ?_
 rotate_left
 .rintro r w' ⟨z,p,v,bn,ln,cn,o,y,rfl,rfl,rfl,rfl,rfl,rfl,c⟩;exact ⟨bn,ln,cn,rfl,c.less λ_ h=>h.elim⟩
 rintro r w1 ⟨U,n,f,g,rfl,O⟩;refine ⟨U,b,n,f,g,0,[],0,none,0,0,rfl,?_⟩;have Q5:w.heap.size+1<=w1.heap.size:=(by have:=U.size;simpa using this);have h4:zB w w1:=((aM _ _).alloc (aG _) bM).t (U.m (by omega));generalize V:(w1.alloc (jx b n f g 0 [] 0 none 0 0)).alloc bM=w2;have hp:w2.heap.size=w1.heap.size+2:=(by rw [<- V];simp);have Y:zB w1 w2:=(by rw [<- V];exact aY _ _ _);have z0:w2.heap[w.heap.size]?=A bM:=(by rw [Y.block _ (by omega),U.block _ (by omega)];exact bL w bM);have h3:w2.heap[w1.heap.size+1]?=A bM:=(by rw [<- V];exact bc w1 _ _ _);have N:w2.heap[w1.heap.size]?=A (jx b n f g 0 [] 0 none 0 0):=(by rw [<- V];exact fX w1 _ _ _);have l:zB w w2:=h4.t (Y.m (by omega));refine (Iq e b x n f g 0 [] 0 none 0 0 w2 er 0 tx kd nn (λbn ln cn w'=>jI F (λq=>q=w.heap.size\/q=w1.heap.size\/q=w1.heap.size+1\/q=w2.heap.size+1) e k a nm w2 bn ln cn w') ?_ ?_).m ?_
 .intro Q0 Q4 Jz w' j u T;exact T.set (by simp) (by omega) j u
 .intro W S QT;have C:=S.size;have t:=h.next (l.t (S.m (by omega)));refine (O W (Y.t (S.m (by omega))) t).m ?_;rintro r w3 ⟨bn,ln,cn,rfl,E,d,m⟩;refine ⟨bn,ln,cn,rfl,λq H=>m.block q (by omega),E,(Ks.of S).t (Ks.of m),dS d C,F,t.next m,λq H=>zR H,λq H=>⟨λG=>?_,λh2=>?_⟩,λq H G=>?_⟩
  .have:=hF q G;have:=(d.lt q H).1;omega
  .have:=(d.lt q H).1;omega
  .have:=hF q G;omega
 .rintro r w3 ⟨bn,ln,cn,rfl,T⟩;have i:=T.2.1;refine ⟨er,0,tx,bn,ln,cn,kd,nn,λW=>jI F (λq=>q=w.heap.size\/q=w1.heap.size+1) e k a nm w bn ln cn W,rfl,?_,?_,?_,⟨?_,?_⟩,?_,?_,?_⟩
  .exact (i.block _ (by omega) λR=>by have:=hF _ R;omega).t z0
  .exact (i.block _ (by omega) λR=>by have:=hF _ R;omega).t h3
  .exact (i.block _ (by omega) λR=>by have:=hF _ R;omega).t N
  .intro W j u P;exact P.set (by simp) (by omega) j u
  .intro W j u P;exact P.set (by simp) (by omega) j u
  .refine (T.base l λq H=>zR H).less ?_;rintro q (K|K)
   .exact zR K
   .exact zZ (zZ (zR K))
  .rintro W j u ⟨K,P,M,hq,c,QV⟩;exact ⟨K,P,M,hq,c,QV.set rfl (aG _) j u⟩
  .rw [aA (by rintro ⟨_,K⟩;rw [D] at K;cases K)];intro W P;exact ⟨rfl,rfl,rfl,rfl,rfl,P.less λq H=>zR H⟩
def eG.PW (h:eG w e F k a) (Q0:k<1000000000000) (s:By) (b er at_:Int) (g:er≠0)
  (Q4:zC prog 46 #[Q s] (w.alloc bM) λr w1=>Below (w.heap.size+1) (w.alloc bM) w1/\r=zP (zp #[j7 b none 0 0 0 [] 0 none 0 0,J er,J at_])) :
  zC prog 20 #[zJ e,Q s] w λr w'=>r=zP (Ik er at_ [] none 0 0 0 0)/\jI F (λ_=>False) e k (if rT b=true then ma a else a) [] w none 0 0 w':=by
 have hF:=h.lt;refine (Go.Proofs.YtihgojcfpnhelaaGreatDoor.PW e s w (λl f w'=>l=er/\f=at_/\jI F (λq=>q=w.heap.size) e k (if rT b=true then ma a else a) [] w none 0 0 w') (Q4.m ?_)).m ?_
 rotate_left
 .rintro r w' ⟨l,f,rfl,rfl,rfl,t⟩;exact ⟨rfl,t.less λ_ h=>h.elim⟩
 rintro r w1 ⟨H,rfl⟩;have x:w.heap.size+1<=w1.heap.size:=(by have:=H.size;simpa using this);have i:zB w w1:=((aM _ _).alloc (aG _) bM).t (H.m (by omega));have d:zB w ((w1.alloc (jx b none 0 0 0 [] 0 none 0 0)).alloc (rW er at_)):=i.t ((aY w1 _ _).m (by omega));have c:∀ w2,zB w w2->jI F (λq=>q=w.heap.size\/q=w1.heap.size+1) e k a [] w none 0 0 w2:=λw2 o=>⟨rfl,Ks.of o,eW _ _ _ _,F,h.next o,λq C=>zR C,λq C=>by simp [Value.ownBlock] at C,λq C z=>by have:=hF q z;omega⟩;refine ⟨H,b,er,at_,λW=>w1.heap.size+2<=W.heap.size/\jI F (λq=>q=w.heap.size\/q=w1.heap.size+1) e k a [] w none 0 0 W,g,rfl,?_,⟨(by simp),c _ d⟩,?_,?_⟩
 .rintro W j u ⟨E,D⟩;exact ⟨by simpa using E,D.set (by simp) (by omega) j u⟩
 .rintro W j u ⟨E,D,y⟩;exact ⟨E,D,y.set rfl (aG _) j u⟩
 .by_cases m:rT b=true
  .rw [aB ⟨g,m⟩];rintro W ⟨E,D⟩;refine (D.cancel Q0 (by rintro q (rfl|rfl)<;>omega)).m ?_;rintro r w' ⟨p,n,v⟩;rw [aB m];exact ⟨p,n _ (zR rfl),n _ (zZ rfl),rfl,rfl,v.less λq C=>zR C⟩
  .rw [aA (λh=>m h.2)];rintro W ⟨E,D⟩;rw [aA m];exact ⟨rfl,rfl,D.less λq C=>zR C⟩
end
section
variable {S S1 O C:Nat->Prop} {e:Nat} {D U:Nat->Prop} {σ σ0 σ1 T:bg} {v1 v2 v3 v4 v5:zV} {te:TypeId} {w w' W R w1 w2 w3 Q6:zW} {ws0 ws1 us:List Wr} {b N H:Nat} {cs Z:Array zV} {V:AR} {r:Ending} {hs gs:List (Nat × Fd)}
def BZ (x y:By) (E:Ending->zW->Prop) (k m:Option zD) (u:zC prog 137 #[zJ e,Q x] w λr w'=>r=zP (zK k)/\w=w') (z:zC prog 137 #[zJ e,Q y] w λr w'=>r=zP (zK m)/\w=w')
  (t:k=none->E (zP (zp #[zN,.nilFunc,J 5])) w) (Q4:∀ a b,k=A a->m=A b->E (zP (zp #[zN,.nilFunc,J 6])) w)
  (Q0:∀ a,k=A a->m=none->(zC prog 168 #[zJ e,zK (A a),Q y] w λr w1=>r=zP (zp #[.nilFunc,J 7])/\E (zP (zp #[zN,.nilFunc,J 7])) w1)\/zC prog 168 #[zJ e,zK (A a),Q y] w λr w1=>∃ N cs,r=zP (zp #[.func (.func N) #[] cs,J 0])/\zC prog 161 #[zJ e,zK (A a),.func (.func N) #[] cs] w1 λr w2=>∃ (q:Option zD) (ln cn:Nat) (bk:zV) (er:Int),r=zP (zp #[B q ln cn,bk,J er])/\E r w2) :
  zC prog 135 #[zJ e,Q x,Q y] w E:=by
 have f:=I u;have g:=I z;have n:=I Q0;have l:=I t;have o:=I Q4;clear u z Q0 t Q4;cases k with
 | none=>
  go_in;go_wp2_with (go_at_call 137;refine f.o.m ?_;rintro r w1 ⟨rfl,rfl⟩);refine aK (v:=zp #[zN,.nilFunc,J 5]) (by simp [results,results135,go_sem]) (by simp [go_sem]) ?_
  first|exact l.o rfl|exact l.o trivial
 | some a=>
  cases m with
  | some c=>
   go_in;go_wp2_with (first|(go_at_call 137;refine f.o.m ?_;clear f;rintro r w1 ⟨rfl,rfl⟩)|(go_at_call 137;refine g.o.m ?_;clear g;rintro r w1 ⟨rfl,rfl⟩));refine aK (v:=zp #[zN,.nilFunc,J 6]) (by simp [results,results135,go_sem]) (by simp [go_sem]) ?_;exact o.o a c rfl rfl
  | none=>
   rcases n.o a rfl rfl with h|h
   .have d:=I h;clear n l o h;go_in;go_wp2_with (first|(go_at_call 137;refine f.o.m ?_;clear f;rintro r w1 ⟨rfl,rfl⟩)|(go_at_call 137;refine g.o.m ?_;clear g;rintro r w1 ⟨rfl,rfl⟩)|(go_at_call 168;refine d.o.m ?_;clear d;rintro r w1 ⟨rfl,j⟩;have p:=I j;clear j));refine aK (v:=zp #[zN,.nilFunc,J 7]) (by simp [results,results135,go_sem]) (by simp [go_sem]) ?_;exact p.o
   .have d:=I h;clear n l o h;go_in;go_wp2_with (first|(go_at_call 137;refine f.o.m ?_;clear f;rintro r w1 ⟨rfl,rfl⟩)|(go_at_call 137;refine g.o.m ?_;clear g;rintro r w1 ⟨rfl,rfl⟩)|(go_at_call 168;refine d.o.m ?_;clear d;rintro r w1 ⟨N,cs,rfl,i⟩;have s:=I i;clear i)|(go_at_call 161;refine s.o.m ?_;rintro r w2 ⟨q,ln,cn,bk,er,rfl,j⟩;have p:=I j;clear j));refine aK (v:=zp #[B q ln cn,bk,J er]) (by simp [results,results135,go_sem]) (by simp [go_sem]) ?_;exact p.o
def Tz (x y:By) (σ:bg):((σ.fs.map Prod.snd).any λf=>aC x f.p&&decide (100<(ai (aR x y f.p)).length))=σ.ord.any λq=>pM x y (σ.mem q).p:=by
 simp only [bg.fs,List.any_map,ry,pM]
def B8 (h:cK w S e D σ v1 v2 v3 v4 v5 te) (hE:∀ W,Ks (λq=>q=e\/D q) w W->Env W) (m:σ.ord.Nodup) (V:(σ.fs.map λg=>g.2.nm).Nodup) (hl:σ.ord.length<=10) (x y:By) (O:x≠[]) (hy:G y<=100) :
  zC prog 135 #[zJ e,Q x,Q y] w (eB S e D σ v1 v2 v3 v4 v5 te (kr (σ.fs.map Prod.snd) x y) w):=by
 have Z:σ.fs.length=σ.ord.length:=(by simp [bg.fs]);obtain ⟨a,c,hs,QV,OP,l⟩:=h.sh;have j:∀ (n:Nat),eB S e D σ v1 v2 v3 v4 v5 te (.err n []) w (zP (zp #[zN,.nilFunc,J n])) w:=λn=>
  ⟨none,0,S,⟨λ_ h=>h,λ_ h=>zR h,λ_ h=>h,λ_ h=>zR h,Ks.refl _ _,eW _ _ _ _,λq K=>by simp [Value.ownBlock] at K⟩,rfl,h⟩
 have v:(σ.fs.map Prod.snd).find? (λf=>f.nm == y)=(ah σ.fs y).map Prod.snd:=by
  rw [oI];rfl
 refine BZ x y _ (iQ σ.fs x) (iQ σ.fs y) (kQ x e c a σ.fs w hs (bJ l).1.1 (by omega)) (kQ y e c a σ.fs w hs (bJ l).1.1 (by omega)) (λh5=>?_) (λax ay L Q6=>?_) λax L T=>?_
 .have u:ah σ.fs x=none:=by simpa [iQ] using h5
  unfold kr;rw [qj u];exact j 5
 .obtain ⟨f,u,_⟩:=oF.1 L;obtain ⟨g,M,_⟩:=oF.1 Q6;obtain ⟨i,p,s⟩:=nk u;unfold kr;rw [p,v,M];exact j 6
 .obtain ⟨f,u,Q5⟩:=oF.1 L;subst Q5;have M:ah σ.fs y=none:=by simpa [iQ] using T
  obtain ⟨i,p,s⟩:=nk u;obtain ⟨H,C⟩:=OT s;have Y:f.1∈σ.ord:=oG H;have o:(σ.mem f.1).nm=x:=by
   have:=(fE u).2;rw [C] at this;exact this
  have e1:(σ.fs.map Prod.snd)[i]?=A (σ.mem f.1):=by rw [kn,s,C];rfl
  have R:kr (σ.fs.map Prod.snd) x y=if σ.ord.any (λq=>pM x y (σ.mem q).p) then .err 7 [] else fq ((σ.fs.map Prod.snd).map (dN x y)) i (dN x y (σ.mem f.1)):=by
   unfold kr;rw [p];simp only [v,M,Tz,e1,Option.map_none,Option.isSome_none,sY,k8]
  rw [R];have F:=Hi x y h hE m (by omega) Y o O hy;by_cases d:σ.ord.any (λq=>pM x y (σ.mem q).p)=true
  .refine zR (F.m ?_);rw [aB d];rintro r w1 (⟨_,rfl,S1,s0,s1,U,QT⟩|⟨z,_⟩)
   .exact ⟨rfl,none,0,S1,⟨s0,s1,λ_ h=>h,λ_ h=>zR h,QT,eW _ _ _ _,λq K=>by simp [Value.ownBlock] at K⟩,rfl,U⟩
   .obtain ⟨q,t,k⟩:=rD.1 d;rw [z q t] at k;cases k
  .refine zZ (F.m ?_);rw [aA d];rintro r w1 (⟨⟨q,t,k⟩,_⟩|⟨z,N,cs,S1,rfl,E⟩)
   .exact absurd (rD.2 ⟨q,t,k⟩) d
   .refine ⟨N,cs,rfl,?_⟩;obtain ⟨P,Q0,k3⟩:=BP x y m V Y o;have hq:=CC (b:=f.1) (σ0:=σ) i N cs E.ph rfl E.bk (by rw [P];omega) (by rw [P];exact H) (by rw [P];exact m);rw [Q0,k3] at hq;refine hq.m λr w' hr=>?_;have Q4:=hr.lift (S:=S) (D:=D) (σ:=σ) (w:=w) E.s0 E.s1 (λ_ h=>h) (λ_ h=>zR h) E.ks (λ_ _=>rfl) rfl h.sub;obtain ⟨an,ln,cn,bk,er,rfl,K⟩:=Q4.shape;exact ⟨an,ln,cn,bk,er,rfl,K⟩
end
def qV (fs:List Fd):mW (aT fs)=eN fs:=by
 funext x;rw [Uz,cW]
def GF.nn {fs:List Fd} (h:GF fs):(fs.map λg=>g.nm).Nodup:=by
 have:=GS.nn h;have e:(aT fs).map (λg=>g.2.nm)=((aT fs).map Prod.snd).map λg=>g.nm:=(by simp);rw [e,cW] at this;exact this
def zi {fs:List Fd} {f:Fd} (h:f∈fs):∃ i,(i,f)∈aT fs:=by
 rw [<- cW fs] at h;obtain ⟨g,a,rfl⟩:=bU.1 h;exact ⟨g.1,a⟩
def GF.self {fs:List Fd} (h:GF fs):∀ g,g∈fs->aC g.nm g.p=false:=λg a=>by
 obtain ⟨i,b⟩:=zi a;exact h.vT.2 _ b
def GF.shape {fs:List Fd} (h:GF fs):∀ g,g∈fs->az g.p:=λg a=>by
 obtain ⟨i,b⟩:=zi a;exact h.shp _ b
def GF.vals {fs:List Fd} (h:GF fs):∀ g,g∈fs->g.v=cD (eN fs) g.p:=λg a=>by
 obtain ⟨i,b⟩:=zi a;have:=h.val _ b;rw [qV] at this;exact this
def R4 (L b:List Fd) (k:Nat) (n:G L=G b) (H:Fd->Fd) (a:∀ i (h:i<G L) (o:i<G b),i≠k->b[i]=H L[i]) (m:∀ i j (C:i<G L) (F:j<G L),i≠k->j≠k->i<j->aC L[j].nm L[i].p=false->aC (H L[j]).nm (H L[i]).p=false) (h:(aT L).Pairwise NM):(aT b).Pairwise (λg h=>g.1=k\/h.1=k\/NM g h):=by
 rw [sW] at h ⊢;intro i j C F d;rw [eA] at C F;have e:∀ (M:List Fd) (i:Nat) (C:i<(aT M).length) (K:i<G M),(aT M)[i]=(i,M[i]):=λM i C K=>(by have:=qE M i K;rw [cU C] at this;simpa using this);rw [e b i (by rw [eA];exact C) C,e b j (by rw [eA];exact F) F];by_cases f:i=k
 .exact zR f
 .by_cases l:j=k
  .exact zZ (zR l)
  .refine zZ (zZ ?_);have D:i<G L:=(by omega);have E:j<G L:=(by omega);have c:=h i j (by rw [eA];exact D) (by rw [eA];exact E) d;rw [e L i (by rw [eA];exact D) D,e L j (by rw [eA];exact E) E] at c;show aC b[j].nm b[i].p=false;rw [a i D C f,a j E F l];exact m i j D E f l d c
def qO {l:List Fd} {i:Nat} {f:Fd} (h:l[i]?=A f):l=l.take i++f::l.drop (i+1)/\(l.take i).length=i:=by obtain ⟨C,rfl⟩:=fI.1 h;refine ⟨?_,by simp;omega⟩;rw [List.getElem_cons_drop,wa]
def ft {fs:List Fd} {x:By} {i:Nat} (h:fs.findIdx? (λf=>f.nm == x)=A i):∃ f,fs[i]?=A f/\f.nm=x:=by
 rw [FZ] at h;obtain ⟨a,C,_⟩:=h;exact ⟨fs[i],cU a,by simpa using C⟩
def PX (Q0 Q4:List Fd) (f a:Fd) (b:a.nm=f.nm) (c:a.v=f.v):eN (Q0++a::Q4)=eN (Q0++f::Q4):=by
 funext z;unfold eN;rw [List.find?_append,List.find?_append];cases Q0.find? (λg=>g.nm == z) with
 | some g=>rfl
 | none=>
  simp only [Option.none_or,List.find?_cons,b];by_cases h:(f.nm == z)=true
  .simp [h,c]
  .simp [h]
def Ag {fs:List Fd} {x:By} {p:Pt} {a:List Fd} {d:List By} (b:GF fs) (t:az p) (h:mK fs x p=.ok a d) :
  GF a/\((∃ K f U,fs=K++f::U/\f.nm=x/\(a.map λg=>(g.nm,g.p)).Perm ((K++(⟨x,p,f.v⟩:Fd)::U).map λg=>(g.nm,g.p)))\/((∀ f,f∈fs->f.nm≠x)/\G fs≠10/\(a.map λg=>(g.nm,g.p)).Perm ((fs++[(⟨x,p,(0,0)⟩:Fd)]).map λg=>(g.nm,g.p)))):=by
 unfold mK at h;cases w:fs.findIdx? (λf=>f.nm == x) with
 | some i=>
  rw [w] at h;obtain ⟨f,V,L⟩:=ft w;simp only [V] at h;obtain ⟨Y,Q4⟩:=qO V;generalize Nw:fs.take i=K at *;generalize hj:fs.drop (i+1)=U at *;subst Q4;have hg:fs.set (G K) ⟨f.nm,p,f.v⟩=K++⟨f.nm,p,f.v⟩::U:=(by rw [Y];simp);rw [hg] at h;have c:∀ g,g∈K++U->g∈fs:=λg T=>(by
    rw [Y];simp at T ⊢;rcases T with h|h
    .exact zR h
    .exact zZ (zZ h));have y:((K++(⟨f.nm,p,f.v⟩:Fd)::U).map λg=>g.nm).Nodup:=by
   have:=b.nn;rw [Y] at this;simpa using this
  obtain ⟨H,u,q⟩:=qp K U ⟨f.nm,p,f.v⟩ a d y (by
   refine R4 fs _ (G K) (by rw [Y];simp) id (λj Z D h3=>?_) (λ_ _ _ _ _ _ _ h=>h) b.vT.1;have:(K++f::U)[j]?=(K++(⟨f.nm,p,f.v⟩:Fd)::U)[j]?:=by
    by_cases W:j<G K
    .rw [sy W,sy W]
    .rw [qx (by omega),qx (by omega)];obtain ⟨m,F⟩:∃ m,j - G K=m+1:=⟨j - G K - 1,by omega⟩;rw [F];rfl
   rw [<- Y,cU Z,cU D] at this;simpa using this.symm) (λg T=>b.self g (c g T)) (λg T=>by
   simp at T;rcases T with W|rfl|W
   .exact b.shape g (c g (by simp [W]))
   .exact t
   .exact b.shape g (c g (by simp [W]))) (λg T _=>by
   rw [qV,PX K U f ⟨f.nm,p,f.v⟩ rfl rfl,<- Y];exact b.vals g (c g T)) h
  refine ⟨H,zR ⟨K,f,U,Y,L,?_⟩⟩;rw [<- L];exact q
 | none=>
  rw [w] at h;simp only at h;by_cases k:G fs=10
  .rw [aB k] at h;cases h
  .rw [aA k] at h;have s:∀ f,f∈fs->f.nm≠x:=λf C Q0=>by
    have:=Br.1 w f C;simp [Q0] at this
   obtain ⟨H,u,q⟩:=qp fs [] ⟨x,p,(0,0)⟩ a d (by
    rw [fK,List.nodup_append];refine ⟨b.nn,(by simp),λNx S QV N=>?_⟩;simp at N;obtain ⟨hi,O,rfl⟩:=bU.1 S;rw [N];exact s hi O) (by
    rw [sW];intro i j V Z E;have v:∀ (M:List Fd) (i:Nat) (V:i<(aT M).length) (r:i<G M),(aT M)[i]=(i,M[i]):=λM i V r=>(by have:=qE M i r;rw [cU V] at this;simpa using this);rw [eA] at V Z;rw [v _ i (by rw [eA];exact V) V,v _ j (by rw [eA];exact Z) Z];simp at V Z;by_cases P:j=G fs
    .exact zZ (zR P)
    .refine zZ (zZ ?_);have e:i<G fs:=(by omega);have o:j<G fs:=(by omega);have l:=sW.1 b.vT.1 i j (by rw [eA];exact e) (by rw [eA];exact o) E;rw [v _ i (by rw [eA];exact e) e,v _ j (by rw [eA];exact o) o] at l;show aC _ _=false;rw [yj e,yj o];exact l) (λg T=>b.self g (by simpa using T)) (λg T=>by
    simp at T;rcases T with W|rfl
    .exact b.shape g W
    .exact t) (λg T F=>by
    have n:g∈fs:=(by simpa using T);rw [qV,b.vals g n];refine (gR x _ _ (λz R=>?_) g.p (b.shape g n) F).symm;unfold eN;rw [List.find?_append];cases fs.find? (λf=>f.nm == z) with
    | some f=>rfl
    | none=>
     have:((⟨x,p,(0,0)⟩:Fd).nm == z)=false:=by simpa using nM R
     simp [List.find?_cons,this]) h
   exact ⟨H,zZ ⟨s,k,q⟩⟩
section
variable {S S' S1 O:Nat->Prop} {e k:Nat} {D H F Q6 P R T:Nat->Prop} {σ σ0 σ1:bg} {v0 v1 v2 v3 v4 v5 v v':zV} {te:TypeId} {w w' W w1 w2 w3:zW} {M:Nat} {Z V U:zV} {dn ud gr:List (List Wr)} {op:Bool} {N1:Nat} {cs1:Array zV} {us:List Wr} {a:Ab} {nm:List By} {bn:Option zD} {ln cn:Nat}
def Df {base n z:Nat} {C:List zV} (i:w.ownsRow base 9 z v n C) {f:Fd} {b:Nat} (m:fB w S b f):v.ownBlock≠A b:=by
 intro d;obtain ⟨q,e⟩:=i;rcases e with e|⟨g,k,o,p,r,j,s⟩
 .rw [e.1] at d;simp [Value.ownBlock] at d
 .obtain ⟨_,_,_,_,a,l,c,h,_⟩:=m;rw [p] at d;simp only [Value.ownBlock,rB] at d;subst d;rw [j] at h;simp at h
structure kt (fs:List Fd):Prop where
 gf:GF fs
 len:G fs<=10
 xX:∀ f,f∈fs->f.nm≠[]/\G f.nm<=6
def kt.st {fs:List Fd} (h:kt fs) (hs:∀ b,b∈σ.ord->D b) (a:σ.fs.map Prod.snd=fs):xe D σ:=by
 subst a;refine ⟨?_,hs,h.gf,by have:=h.len;simpa [bg.fs] using this,h.xX⟩;have:=h.gf.nn;unfold bg.fs at this;rw [fM,fM] at this;unfold List.Nodup at this ⊢;rw [jz] at this;exact this.imp λh e=>h (by rw [e])
def eG.change (h:eG w e F k a) (hk:k<1000000000000) (p:AR) (AU:∀ fs n,p=.ok fs n->kt fs) (Q5:∀ c n,p=.err c n->c≠0) (hb:zB w W) (hR:∀ q,R q->w.heap.size<=q/\q<W.heap.size) (r:∀ q,T q->w.heap.size<=q/\q<W.heap.size/\¬ R q) (t:Nat) (ht:T t) (o:W.heap[t]?=A bM) (L:zV)
  (hC:∀ S D σ v1 v2 v3 v4 v5,cK W S e D σ v1 v2 v3 v4 v5 108->(∀ q,R q->S q)->(∀ q,q=e\/D q->F q)->xe D σ->σ.fs.map Prod.snd=a.fs->zC prog 98 #[zJ e,L] W (eB S e D σ v1 v2 v3 v4 v5 108 p W)) :
  zC prog 98 #[zJ e,L] W (xZ e (λer bn ln cn w'=>er=(p.code:Int)/\jI (λq=>F q\/R q) T e (k+1) (JB a p) p.names W bn ln cn w') t bM):=by
 have hF:=h.lt;have af:=hb.size;have h':=h.next hb;obtain ⟨S,D,σ,Z,V,U,dn,ud,gr,h1,z,h3,y,h6⟩:=h';have b:∀ q,jd e D Z V U q->F q:=λq E=>y q (zZ E);have ac:∀ q,R q->¬ jd e D Z V U q:=λq E f=>by have:=hF q (b q f);have:=(hR q E).1;omega
 have hx:=h1.PQ (S':=λq=>S q\/R q) (λq E=>zR E) (λq E=>E.imp_right λhr=>⟨(hR q hr).2,ac q hr⟩);have gU:=r t ht;refine (hC _ _ _ _ _ _ _ _ hx.ph (λq E=>zZ E) (λq E=>b q (E.imp_right zR)) z.gs z.fs.symm).m ?_;rintro h4 w1 g;cases p with
 | ok fs n=>
  obtain ⟨O,cn,S2,u,N',aa,P,ws,N,rfl,hm,ho,l,hh,QT⟩:=g;have i:=hx.ui l N.s0 N.s1 N.d0 N.d1 N.ks;have ad:xe u (aU ws P):=(AU fs n rfl).st l.sub QT;have h7:=z.ae8 (σ1:=P) N.d0 ⟨ho.symm,λq E=>(hm q E).symm⟩ ad hh.Fm (by have:=h1.len;omega);rw [QT] at h7;have d:Ks (λq=>F q\/R q) W w1:=N.ks.wide λq E=>zR (b q (E.imp_right zR));have H:=d.size;have QV:∀ q,T q->¬ Ft S2 e u Z V U q:=by
   intro q E v;obtain ⟨t1,t2,t3⟩:=r q E;have f:∀ q,jd e D Z V U q->q<w.heap.size:=λq E=>hF q (b q E);rcases v with K|K|K|K
   .rcases N.s1 q K with (Y|Y)|Y
    .have:=hF q (y q (zR Y));omega
    .exact t3 Y
    .omega
   .have:=f q (zR K);omega
   .rcases N.d1 q K with Y|Y
    .have:=f q (zZ (zR Y));omega
    .omega
   .have:=f q (zZ (zZ K));omega
  have Q4:∀ q,(B O (G n) cn).ownBlock=A q->¬ Ft S2 e u Z V U q:=by
   intro q E v;have Mh:=N.own.lt q E;have f:∀ q,jd e D Z V U q->q<W.heap.size:=λq E=>by have:=hF q (b q E);omega
   rcases v with K|K|K|K
   .exact N.ob q E K
   .have:=f q (zR K);omega
   .exact Df N.own (l.bX q K) E
   .have:=f q (zZ (zZ K));omega
  refine ⟨O,_,cn,_,0,rfl,(d.block t (by omega) λg=>?_).t o,zR ⟨rfl,N',aa,rfl,?_⟩⟩
  .rcases g with g|g
   .have:=hF t g;omega
   .exact gU.2.2 g
  have fin:∀ (C:Ab) (Q0 hp hq:List (List Wr)) (w2:zW),C.M=a.M->gm e (Ft S2 e u Z V U) (jd e u Z V U) (aU ws P) a.M Q0 hp hq C.dV.isSome w1 w2->mE C u (aU ws P) Q0 hp hq->G hq<=k+1->w2.heap[t]?=A bM/\jI (λq=>F q\/R q) T e (k+1) C n W O (G n) cn w2:=by
   intro C Q0 hp hq w2 hM j M hl;rw [<- hM] at j;obtain ⟨s,Q6,k2,k3⟩:=j.at rfl M hl;have Cm:=s.size;refine ⟨(s.block t (by omega) λf=>QV t ht (zZ f)).t ((d.block t (by omega) λg=>?_).t o),rfl,⟨s.os.t d.os,s.tape.t d.tape,s.output.t d.output,by omega,λq E hn=>(s.block q (by omega) λf=>hn ?_).t (d.block q E hn)⟩,iy N.own s (λq E f=>Q4 q E (zZ f)),Q6,k2,λq E=>?_,λq E=>⟨λm=>?_,λm=>?_⟩,λq E m=>?_⟩
   .rcases g with g|g
    .have:=hF t g;omega
    .exact gU.2.2 g
   .rcases f with K|K|K
    .exact zR (b q (zR K))
    .rcases N.d1 q K with Y|Y
     .exact zR (b q (zZ (zR Y)))
     .omega
    .exact zR (b q (zZ (zZ K)))
   .rcases k3 q E with h6|h6
    .rcases h6 with K|K|K|K
     .rcases N.s1 q K with (Y|Y)|Y
      .exact zR (zR (y q (zR Y)))
      .exact zR (zZ Y)
      .exact zZ Y
     .exact zR (zR (b q (zR K)))
     .rcases N.d1 q K with Y|Y
      .exact zR (zR (b q (zZ (zR Y))))
      .exact zZ Y
     .exact zR (zR (b q (zZ (zZ K))))
    .exact zZ (by omega)
   .rcases k3 q m with K|K
    .exact Q4 q E K
    .have:=(N.own.lt q E).2;omega
   .have:=(N.own.lt q E).1;have:=(r q m).2.1;omega
   .rcases k3 q m with K|K
    .exact QV q E K
    .have:=(r q E).2.1;omega
  cases x:a.dV with
  | none=>
   rw [x] at i;refine (wH i hh).m ?_;rintro h4 w2 ⟨rfl,j⟩;have hT:=h7.1 x;obtain ⟨f1,f2⟩:=fin ⟨a.M,fs,(a.fs::a.past).take a.M,[],none⟩ _ _ _ w2 rfl j hT (by omega);refine ⟨rfl,f1,rfl,?_⟩;simp only [JB,wM,x];exact f2
  | some hg=>
   rw [x] at i;refine (ww i hh (by omega)).m ?_;rintro h4 w2 ⟨rfl,j⟩;have hT:=h7.2 hg x;obtain ⟨f1,f2⟩:=fin ⟨a.M,fs,a.past,a.jr,A hg⟩ _ _ _ w2 rfl j hT (by simp;omega);refine ⟨rfl,f1,rfl,?_⟩;simp only [JB,wM,x];exact f2
 | err c n=>
  obtain ⟨O,cn,S2,N,rfl,l⟩:=g;have i:=hx.ui l N.s0 N.s1 N.d0 N.d1 N.ks;have d:Ks (λq=>F q\/R q) W w1:=N.ks.wide λq E=>zR (b q (E.imp_right zR));have H:=d.size;have f:∀ q,jd e D Z V U q->q<w.heap.size:=λq E=>hF q (b q E);refine ⟨O,_,cn,_,(c:Int),rfl,(d.block t (by omega) λg=>?_).t o,zZ ⟨by have:=Q5 c n rfl;omega,rfl,rfl,rfl,d,N.own,Ft S2 e D Z V U,⟨S2,D,σ,Z,V,U,dn,ud,gr,i,z,by omega,λ_ h=>h,i.agX⟩,λq E=>?_,λq E=>⟨λm=>?_,λm=>?_⟩,λq E m=>?_⟩⟩
  .rcases g with g|g
   .have:=hF t g;omega
   .exact gU.2.2 g
  .rcases E with K|K
   .rcases N.s1 q K with (Y|Y)|Y
    .exact zR (zR (y q (zR Y)))
    .exact zR (zZ Y)
    .exact zZ Y
   .exact zR (zR (b q K))
  .rcases m with K|K
   .exact N.ob q E K
   .have:=f q K;have:=(N.own.lt q E).1;omega
  .have:=(N.own.lt q E).1;have:=(r q m).2.1;omega
  .rcases m with K|K
   .rcases N.s1 q K with (Y|Y)|Y
    .have:=hF q (y q (zR Y));have:=(r q E).1;omega
    .exact (r q E).2.2 Y
    .have:=(r q E).2.1;omega
   .have:=f q K;have:=(r q E).1;omega
def xZ.imp {C f:Int->Option zD->Nat->Nat->zW->Prop} {q:Nat} {row:Obj} {r:Ending} (h:xZ e C q row r w1) (d:∀ er bn ln cn w',C er bn ln cn w'->f er bn ln cn w'):xZ e f q row r w1:=by
 obtain ⟨bn,ln,cn,E,er,i,k,m⟩:=h;refine ⟨bn,ln,cn,E,er,i,k,?_⟩;rcases m with ⟨a,N,K,c,b⟩|⟨a,c,b⟩
 .refine zR ⟨a,N,K,c,b.m ?_⟩;rintro r w2 ⟨g,j,l⟩;exact ⟨g,j,d _ _ _ _ _ l⟩
 .exact zZ ⟨a,c,d _ _ _ _ _ b⟩
def x6 (e:Nat) (F:Nat->Prop) (a:Ab) (g:AR) (w:zW) (r:Ending) (w1:zW):Prop:=
 Below (w.heap.size+1) (w.alloc bM) w1/\∃ (b:Int) (f:Option zD) (ln cn:Nat) (k:Int) (nm:By) (n:Int) (C:Option zD) (c d:Nat) (R:Nat->Prop),r=zP (zp #[j7 b f ln cn k nm n C c d,J 0,J 0])/\(b=1\/b=2\/b=3)/\(∀ q,R q->w.heap.size+1<=q/\q<w1.heap.size) /\
  ∀ W,zB w1 W->∀ S D σ v1 v2 v3 v4 v5,cK W S e D σ v1 v2 v3 v4 v5 108->(∀ q,R q->S q)->(∀ q,q=e\/D q->F q)->xe D σ->σ.fs.map Prod.snd=a.fs->zC prog 98 #[zJ e,j7 b f ln cn k nm n C c d] W (eB S e D σ v1 v2 v3 v4 v5 108 g W)
def Ca {a:Int} (h:a=1\/a=2\/a=3):rT a=true:=by
 rcases h with rfl|rfl|rfl<;>rfl
def eG.afb (h:eG w e F k a) (hk:k+1<1000000000000) (s:By) (b:AR) (hW:∀ fs n,b=.ok fs n->kt fs) (v:∀ c n,b=.err c n->c≠0)
  (hR:zC prog 46 #[Q s] (w.alloc bM) (x6 e F a b w)) :
  zC prog 20 #[zJ e,Q s] w λr w'=>∃ bn ln cn,r=zP (Ik (b.code:Int) 0 [] bn ln cn 0 0)/\jI F (λ_=>False) e (k+1) (PZ a b) b.names w bn ln cn w':=by
 have hF:=h.lt;refine (PV e s w (λE Q4 tx bn ln cn kd nn w'=>E=(b.code:Int)/\Q4=0/\tx=[]/\kd=0/\nn=0/\jI F (λq=>q=w.heap.size) e (k+1) (PZ a b) b.names w bn ln cn w') (hR.m ?_)).m ?_
 rotate_left
 .rintro r w' ⟨E,Q4,tx,bn,ln,cn,kd,nn,rfl,rfl,rfl,rfl,rfl,rfl,QT⟩;exact ⟨bn,ln,cn,rfl,QT.less λ_ h=>h.elim⟩
 rintro r w1 ⟨h3,l,p,f,g,D,m,i,t,y,G,R,rfl,Q0,o,hC⟩;refine ⟨h3,l,p,f,g,D,m,i,t,y,G,rfl,?_⟩;have Z:w.heap.size+1<=w1.heap.size:=(by have:=h3.size;simpa using this);have ad:zB w w1:=((aM _ _).alloc (aG _) bM).t (h3.m (by omega));generalize er:(w1.alloc (jx l p f g D m i t y G)).alloc bM=w2;have S:w2.heap.size=w1.heap.size+2:=(by rw [<- er];simp);have h2:zB w1 w2:=(by rw [<- er];exact aY _ _ _);have z0:w2.heap[w.heap.size]?=A bM:=by
  rw [h2.block _ (by omega),h3.block _ (by omega)];show (w.heap.push bM)[w.heap.size]?=A bM;exact yi
 have z1:w2.heap[w1.heap.size+1]?=A bM:=(by rw [<- er];exact bc w1 _ _ _);have V:w2.heap[w1.heap.size]?=A (jx l p f g D m i t y G):=(by rw [<- er];exact fX w1 _ _ _);have QV:zB w w2:=ad.t (h2.m (by omega));have z:∀ q,F q\/R q->q<w.heap.size\/(w.heap.size+1<=q/\q<w1.heap.size):=λq d=>d.imp (hF q) (o q);refine (KX e l Q0 p f g D m i t y G w2 (λE bn ln cn w'=>E=(b.code:Int)/\jI (λq=>F q\/R q) (λq=>q=w.heap.size\/q=w1.heap.size\/q=w1.heap.size+1\/q=w2.heap.size+1) e (k+1) (JB a b) b.names w2 bn ln cn w') ?_ ?_).m ?_
 .rintro E a' ac c w' j u ⟨L,N⟩;exact ⟨L,N.set (by simp) (by omega) j u⟩
 .intro W x af;refine (yJ e l p f g D m i t y G W (λE bn ln cn w'=>E=(b.code:Int)/\jI (λq=>F q\/R q) (λq=>(q=w.heap.size\/q=w1.heap.size\/q=w1.heap.size+1\/q=w2.heap.size+1)\/q=W.heap.size+1) e (k+1) (JB a b) b.names W bn ln cn w') ?_ ?_).m ?_
  .rintro E a' ac c w' j u ⟨L,N⟩;exact ⟨L,N.set (by simp) (by omega) j u⟩
  .intro M hp Q5 Q6;have al:zB w M:=(QV.t (x.m (by omega))).t (hp.m (by have:=x.size;omega));have H:zB w1 M:=(h2.t (x.m (by omega))).t (hp.m (by have:=x.size;omega));refine (h.change (R:=R) (T:=λq=>(q=w.heap.size\/q=w1.heap.size\/q=w1.heap.size+1\/q=w2.heap.size+1)\/q=W.heap.size+1) (by omega) b hW v al (λq d=>⟨by have:=(o q d).1;omega,by have:=(o q d).2;omega⟩) (λq d=>⟨by omega,by omega,λO=>by have:=o q O;omega⟩) (W.heap.size+1) (zZ rfl) Q6 _ (hC M H)).m ?_;intro r w3 C;refine C.imp ?_;rintro E bn ln cn w' ⟨K,h1⟩;exact ⟨K,h1.base hp λq d=>zR d⟩
  .rintro r w' ⟨E,bn,ln,cn,rfl,L,N⟩;refine ⟨E,bn,ln,cn,rfl,?_,L,(N.base x λq d=>zR d).less λq d=>zR d⟩;rintro q rfl;exact N.2.1.block _ (by omega) λY=>by have:=z _ Y;omega
 .rintro r w3 ⟨E,bn,ln,cn,rfl,L,N⟩;have h4:=N.2.1;refine ⟨E,0,[],bn,ln,cn,0,0,λW=>w1.heap.size+2<=W.heap.size/\jI F (λq=>q=w.heap.size\/q=w1.heap.size+1) e (k+1) (JB a b) b.names w bn ln cn W,rfl,?_,?_,?_,⟨?_,?_⟩,⟨by have:=h4.size;omega,?_⟩,?_,?_⟩
  .exact (h4.block _ (by omega) λY=>by have:=z _ Y;omega).t z0
  .exact (h4.block _ (by omega) λY=>by have:=z _ Y;omega).t z1
  .exact (h4.block _ (by omega) λY=>by have:=z _ Y;omega).t V
  .rintro W j u ⟨C,K⟩;exact ⟨by simpa using C,K.set (by simp) (by omega) j u⟩
  .rintro W j u ⟨C,K⟩;exact ⟨by simpa using C,K.set (by simp) (by omega) j u⟩
  .refine (N.base QV λq d=>d.imp_right λO=>?_).less ?_
   .have:=o q O;omega
   .rintro q (C|C)
    .exact zR C
    .exact zZ (zZ (zR C))
  .rintro W j u ⟨C,K,h1,h6,QT,U⟩;exact ⟨C,K,h1,h6,QT,U.set rfl (aG _) j u⟩
  .cases b with
   | ok fs n=>
    rw [aA (by rintro ⟨C,_⟩;exact C L)];rintro W ⟨C,K⟩;exact ⟨L,rfl,rfl,rfl,rfl,K.less λq d=>zR d⟩
   | err c n=>
    have hc:=v c n rfl;rw [aB ⟨by rw [L];simp only [AR.code];omega,Ca Q0⟩];rintro W ⟨C,K⟩;refine (K.cancel (by omega) (by rintro q (rfl|rfl)<;>omega)).m ?_;rintro r w' ⟨k1,P,aa⟩;exact ⟨k1,P _ (zR rfl),P _ (zZ rfl),L,rfl,rfl,rfl,rfl,aa.less λq d=>zR d⟩
end
def Ah {fs:List Fd} {x:By} {k:List Fd} {q:List By} (p:GF fs) (h:mL fs x=.ok k q) :
  GF k/\∃ K f P,fs=K++f::P/\f.nm=x/\(k.map λg=>(g.nm,g.p))=(K++P).map λg=>(g.nm,g.p):=by
 unfold mL at h;cases t:fs.findIdx? (λf=>f.nm == x) with
 | none=>rw [t] at h;cases h
 | some i=>
  rw [t] at h;obtain ⟨f,M,w⟩:=ft t;obtain ⟨S,F⟩:=qO M;have s:fs.eraseIdx i=fs.take i++fs.drop (i+1):=EB _ _;generalize O:fs.take i=K at *;generalize N:fs.drop (i+1)=P at *;simp only [AR.ok.injEq,s] at h;obtain ⟨C,_⟩:=h;have j:∀ g,g∈K++P->g∈fs:=λg R=>(by
    rw [S];simp at R ⊢;rcases R with h|h
    .exact zR h
    .exact zZ (zZ h));have d:=xQ (K++P);obtain ⟨V,v,r⟩:=j8 (aT (K++P)) d;have e:List.Sublist (K++P) fs:=by
   rw [S];exact List.Sublist.append (yr _) (List.sublist_cons_self _ _)
  have a:Db (aT (K++P)):=by
   refine ⟨?_,λg R=>?_⟩
   .have H:(fs.Pairwise λg h=>aC h.nm g.p=false):=by
     have T:=p.vT.1;rw [<- cW fs];exact jz.2 (T.imp λh=>h)
    have E:=H.sublist e;rw [<- cW (K++P)] at E;exact (jz.1 E).imp λh=>h
   .have:=iJ (f:=Prod.snd) R;rw [cW] at this;exact p.self g.2 (j _ this)
  have b:∀ g,g∈aT (K++P)->az g.2.p:=λg R=>by
   have:=iJ (f:=Prod.snd) R;rw [cW] at this;exact p.shape g.2 (j _ this)
  have m:mW (aT (K++P))=pc (aT (K++P)) V:=by
   conv=>lhs;rw [<- v]
   exact pd _ V
  have c:=pY (aT (K++P)) d a b (aT (K++P)) [] V [x] rfl (λg R=>by simp at R) λg R L=>by
   have G:aC x g.2.p=false:=by simpa [aF] using L
   have n:=iJ (f:=Prod.snd) R;rw [cW] at n;unfold iz;rw [r g R,<- m,qV,p.vals g.2 (j _ n)];refine gR x _ _ (λz U=>?_) g.2.p (b g R) G;rw [S];unfold eN;rw [List.find?_append,List.find?_append];have:(f.nm == z)=false:=by rw [w];simpa using nM U
   simp only [List.find?_cons,this]
  have D:=rX (aT (K++P)) d (aO [x] (aT (K++P))) V λg R=>mX _ _ g R;rw [v] at D;rw [D] at C;subst C;have u:((K++P).map λg=>g.nm).Nodup:=p.nn.sublist (e.map _);have l:GS (eR (aT (K++P)) (pg (aT (K++P)) V (aO [x] (aT (K++P))))):=by
   refine ⟨?_,?_,⟨?_,?_⟩,?_,?_⟩
   .have:(eR (aT (K++P)) (pg (aT (K++P)) V (aO [x] (aT (K++P))))).map Prod.fst=(aT (K++P)).map Prod.fst:=(by simp [eR]);rw [this];exact d
   .have:(eR (aT (K++P)) (pg (aT (K++P)) V (aO [x] (aT (K++P))))).map (λg=>g.2.nm)=((aT (K++P)).map Prod.snd).map λg=>g.nm:=(by simp [eR]);rw [this,cW];exact u
   .unfold eR;exact jz.2 (a.1.imp λh=>h)
   .intro g R;obtain ⟨y,o,rfl⟩:=bU.1 R;exact a.2 y o
   .intro g R;obtain ⟨y,o,rfl⟩:=bU.1 R;exact b y o
   .intro g R;obtain ⟨y,o,rfl⟩:=bU.1 R;rw [pd];exact c y o
  refine ⟨(RZ l.nb).1 l,K,f,P,S,w,?_⟩;rw [vV,cW]
def UA (fs:List Fd) (x y z:By) (b:z≠x) (a:z≠y):eN (fs.map (dN x y)) z=eN fs z:=by
 unfold eN;rw [oI];have:((λf:Fd=>f.nm == z) ∘ dN x y)=λf=>f.nm == z:=by
  funext f;simp only [Function.comp,dN];by_cases h:f.nm=x
  .rw [aB h,h,bo.2 (nM a),bo.2 (nM b)]
  .rw [aA h]
 rw [this];cases fs.find? (λf=>f.nm == z)<;>rfl
def Ai {fs:List Fd} {x y:By} {t:List Fd} {O:List By} (a:GF fs) (E:∀ f,f∈fs->f.nm≠[]) (D:y≠[]) (h:kr fs x y=.ok t O) :
  GF t/\(∃ f,f∈fs/\f.nm=x)/\(∀ f,f∈fs->f.nm≠y)/\(t.map λg=>(g.nm,g.p)).Perm ((fs.map (dN x y)).map λg=>(g.nm,g.p)):=by
 unfold kr at h;cases U:fs.findIdx? (λf=>f.nm == x) with
 | none=>rw [U] at h;cases h
 | some hg=>
  rw [U] at h;obtain ⟨f,W,P⟩:=ft U;simp only [W] at h;split at h
  .cases h
  .rename_i w;split at h
   .cases h
   .have l:∀ g,g∈fs->g.nm≠y:=λg K e=>by
     cases r:fs.find? (λf=>f.nm == y) with
     | some aa=>rw [r] at w;simp at w
     | none=>
      have:=rp.1 r g K;simp [e] at this
    have C:f∈fs:=oG W;have N:x≠[]:=by rw [<- P];exact E f C
    have F:y≠x:=λe=>l f C (by rw [P,e]);obtain ⟨i,JA⟩:=qO W;generalize hA:fs.take hg=R at *;generalize hB:fs.drop (hg+1)=Z at *;subst JA;have c:fs.map (dN x y)=R.map (dN x y)++dN x y f::Z.map (dN x y):=(by rw [i];simp);have L:(R.map (dN x y)).length=G R:=(by simp);rw [c,<- L] at h;have d:∀ g,g∈R++Z->g∈fs/\g.nm≠x:=λg K=>by
     have s:=a.nn;rw [i,fK,fL] at s;have q:=(sZ (a:=f.nm) (l₁:=R.map λg=>g.nm) (l₂:=Z.map λg=>g.nm)).nodup_iff.1 s;rw [jB] at q;refine ⟨?_,λe=>q.1 ?_⟩
     .rw [i];simp at K ⊢;rcases K with h|h
      .exact zR h
      .exact zZ (zZ h)
     .rw [P,<- e,<- fK];exact iJ K
    have k:∀ g,g∈R++Z->(dN x y g).nm=g.nm:=λg K=>by
     unfold dN;rw [aA (d g K).2]
    have m:(dN x y f).nm=y:=by unfold dN;rw [aB P]
    have Q4:∀ z p,z≠[]->z≠x->z≠y->aC z (aR x y p)=aC z p:=λz p n q V=>by
     rw [j9 x y z N D n F,aA q,aA V]
    have QT:∀ v,v∈R.map (dN x y)++Z.map (dN x y)->∃ g,g∈R++Z/\dN x y g=v:=λv K=>by
     rw [<- fK] at K;obtain ⟨g,n,q⟩:=bU.1 K;exact ⟨g,n,q⟩
    obtain ⟨r1,r2,r3⟩:=qp (R.map (dN x y)) (Z.map (dN x y)) (dN x y f) t O (by
     have s:=a.nn;rw [i,fK,fL] at s;have q:=(sZ (a:=f.nm) (l₁:=R.map λg=>g.nm) (l₂:=Z.map λg=>g.nm)).nodup_iff.1 s;rw [jB] at q;rw [fK,fL,m];have e1:(R.map (dN x y)).map (λg=>g.nm)=R.map λg=>g.nm:=(by rw [fM];exact sB λg K=>k g (by simp [K]));have e2:(Z.map (dN x y)).map (λg=>g.nm)=Z.map λg=>g.nm:=(by rw [fM];exact sB λg K=>k g (by simp [K]));rw [e1,e2];refine (sZ (a:=y) (l₁:=R.map λg=>g.nm) (l₂:=Z.map λg=>g.nm)).nodup_iff.2 ?_;rw [jB];refine ⟨λH=>?_,q.2⟩;rw [<- fK] at H;obtain ⟨g,K,e⟩:=bU.1 H;exact l g (d g K).1 e) (by
     rw [<- c,L];have QV:∀ j (Y:j<G fs),j≠G R->fs[j]∈R++Z:=λj Y hh=>by
      have e:fs[j]?=(R++f::Z)[j]?:=by rw [<- i]
      rw [cU Y] at e;by_cases V:j<G R
      .rw [sy V] at e;have:=oG e.symm;simp [this]
      .rw [qx (by omega)] at e;obtain ⟨Q0,H⟩:∃ Q0,j - G R=Q0+1:=⟨j - G R - 1,by omega⟩;rw [H,List.getElem?_cons_succ] at e;have:=oG e.symm;simp [this]
     refine R4 fs _ (G R) (by simp) (dN x y) (λj Y hy _=>by simp) (λQ5 b ha hb n q _ h4=>?_) a.vT.1;have u:=QV b hb q;rw [k _ u];show aC fs[b].nm (aR x y fs[Q5].p)=false;rw [Q4 _ _ (E _ (d _ u).1) (d _ u).2 (l _ (d _ u).1)];exact h4) (λv K=>by
     obtain ⟨g,n,rfl⟩:=QT v K;rw [k g n];show aC g.nm (aR x y g.p)=false;rw [Q4 _ _ (E _ (d _ n).1) (d _ n).2 (l _ (d _ n).1)];exact a.self g (d g n).1) (λv K=>by
     rw [<- c] at K;obtain ⟨g,n,rfl⟩:=bU.1 K;exact iN x y g.p (a.shape g n)) (λv K H=>by
     obtain ⟨g,n,rfl⟩:=QT v K;rw [m] at H;have o:aC y (aR x y g.p)=false:=H;rw [j9 x y y N D D F,aA F,aB rfl] at o;have S:aC x g.p=false:=by simp at o;exact o.1
     have Q6:aC y g.p=false:=by simp at o;exact o.2
     show g.v=cD _ (aR x y g.p);rw [ig x y g.p S,<- c,qV,a.vals g (d g n).1];have M:=a.shape g (d g n).1;rw [gR x (eN fs) (λz=>if z=x then eN (fs.map (dN x y)) z else eN fs z) (λz T=>by simp [T]) g.p M S];refine gR y _ _ (λz T=>?_) g.p M Q6;by_cases e:z=x
     .simp [e]
     .simp [e,UA fs x y z e T]) h
    refine ⟨r1,⟨f,C,P⟩,l,?_⟩;rw [c];exact r3
section
variable {e k:Nat} {F:Nat->Prop} {w w' W w1 w2 w3 Z:zW} {a:Ab} {nm:List By} {bn:Option zD} {ln cn:Nat} {x:By}
def pX (fs:List Fd) (x:By):Int × Int × Int:=match fs.find? (λf=>f.nm == x) with
 | some f=>(0,f.v.1,f.v.2)
 | none=>(5,0,0)
def vU (fs:List Fd) (x:By):Int × By:=match fs.find? (λf=>f.nm == x) with
 | some f=>(0,ai f.p)
 | none=>(5,[])
def Fp (fs:List (Nat × Fd)) (x:By):(fs.map Prod.snd).find? (λf=>f.nm == x)=(ah fs x).map Prod.snd:=by
 rw [oI];rfl
def eG.ui (h:eG w e F k a):∃ S d c C,Sh w S d C/\C.map Prod.snd=a.fs/\G C<=10/\w.cell? (yh e)=A (B d (G C) c)/\e<w.heap.size:=by
 obtain ⟨S,D,K,l,p,j,i,g,m,f,E,q,n,o⟩:=h;obtain ⟨d,c,H,_,_,b⟩:=f.ph.sh;exact ⟨S,d,c,K.fs,H,E.fs.symm,by have:=E.gs.len;simpa [bg.fs] using this,(bJ b).1.1,f.ph.lt⟩
def eG.value (h:eG W e F k a) {b cn:Nat} (m:W.cell? (yh b)=A (Q x)) (j:b<W.heap.size):zC prog 70 #[zJ e,j7 9 (A (yh b)) 1 cn 0 [] 0 none 0 0] W (uY (pX a.fs x).1 [] (pX a.fs x).2.1 (pX a.fs x).2.2 [] W):=by
 refine (K3 e b cn x (pX a.fs x).2.1 (pX a.fs x).2.2 (pX a.fs x).1 W m j λi d=>?_).m ?_
 .obtain ⟨S,o,c,D,f,g,p,l,n⟩:=(h.next d).ui;refine (Cp x e c o D i f l n (by omega)).m ?_;rintro r w' ⟨rfl,C⟩;refine ⟨?_,C⟩;unfold pX;rw [<- g,Fp];cases ah D x<;>rfl
 .rintro r w' ⟨rfl,C⟩;exact ⟨none,0,0,rfl,rfl,eW _ _ _ _,C⟩
def eG.rule (h:eG W e F k a) (o:Env W) {d cn:Nat} (q:W.cell? (yh d)=A (Q x)) (n:d<W.heap.size):zC prog 70 #[zJ e,j7 10 (A (yh d)) 1 cn 0 [] 0 none 0 0] W (uY (vU a.fs x).1 (vU a.fs x).2 0 0 [] W):=by
 refine (P2 e d cn x (vU a.fs x).2 (vU a.fs x).1 W q n λm b=>?_).m ?_
 .obtain ⟨S,t,c,D,j,l,u,p,s⟩:=(h.next b).ui;refine (Cq x e c t D m j (o.next b) p s (by omega)).m ?_;rintro r w' ⟨C,g⟩;refine ⟨?_,C⟩;unfold vU;rw [<- l,Fp];cases i:ah D x with
  | none=>rw [i] at g;exact g
  | some f=>rw [i] at g;exact g
 .rintro r w' ⟨rfl,C⟩;exact ⟨none,0,0,rfl,rfl,eW _ _ _ _,C⟩
def eG.order (h:eG W e F k a) (j:Option zD) (i m:Nat):zC prog 70 #[zJ e,j7 12 j i m 0 [] 0 none 0 0] W (uY 0 [] 0 0 (a.fs.map λf=>f.nm) W):=by
 refine (P3 e j i m (a.fs.map λf=>f.nm) W λs n=>?_).m ?_
 .obtain ⟨S,w,c,C,d,p,z,t,y⟩:=(h.next n).ui;refine (Cs e c w C s d t (by omega)).m ?_;rintro r w' ⟨v,rfl,b,o⟩;obtain ⟨bn,ln,cn,rfl⟩:=b7 b;have e1:cJ C=a.fs.map λf=>f.nm:=by
   rw [<- p,fM];rfl
  have q:G C=(a.fs.map λf=>f.nm).length:=by rw [<- p];simp
  rw [e1,q] at b;exact ⟨bn,ln,cn,rfl,b,o⟩
 .rintro r w' ⟨bn,ln,cn,rfl,b,o⟩;have l:ln=(a.fs.map λf=>f.nm).length:=by
   rcases b.2 with d|⟨g,u,x,d,_⟩
   .have:=d.1;cases this;exact d.2.symm
   .cases d;rfl
  rw [<- l] at b;exact ⟨bn,ln,cn,rfl,l,b,o⟩
def Cb (M:Nat) (d:M<=6) (w:zW):zC prog 45 #[J M] w λr w'=>∃ e,r=zP (zp #[zJ e,J 0])/\zB w w'/\eG w' e (λq=>w.heap.size<=q/\q<w'.heap.size) 0 ⟨M,[],[],[],none⟩:=by
 refine (Bd M d w).m ?_;rintro r w' ⟨rfl,rfl⟩;have a:=bL w (zM #[zN,J M,zN,zN,zF false,zN] 108);refine ⟨w.heap.size,rfl,(aM _ _).alloc (aG _) _,λ_=>False,λ_=>False,⟨[],λ_=>⟨[],.atom 0 [] 0,(0,0)⟩⟩,zN,zN,zN,[],[],[],⟨⟨λ_ h=>h.elim,λh=>h,λh=>h,λ_ h=>h.elim,λb c=>by simp at c,none,0,λj D=>(by simp at D),aG _,λ_=>rfl,a⟩,⟨_,_,dP.nil _ _ _ _⟩,⟨_,_,dP.nil _ _ _ _⟩,⟨_,_,dP.nil _ _ _ _⟩,λq C=>by simp [Value.ownBlock] at C,λq C=>by simp [Value.ownBlock] at C,λq C=>by simp [Value.ownBlock] at C,d,by simp⟩,⟨⟨(by simp),λb c=>by simp at c,?_,(by simp),λf i=>by simp [bg.fs] at i⟩,rfl,λu g=>by simp [fY] at g,rfl,trivial,trivial⟩,aG _,?_,λq C=>C.2⟩
 .exact ⟨by simp [bg.fs,aT],by simp [bg.fs,aT],by simp [bg.fs,aT,Db],by simp [bg.fs,aT],by simp [bg.fs,aT]⟩
 .rintro q (h|h|h|h|h|h)
  .exact h.elim
  .subst h;exact ⟨aG _,by simp⟩
  .exact h.elim
  .simp [Value.ownBlock] at h
  .simp [Value.ownBlock] at h
  .simp [Value.ownBlock] at h
variable {S S' S1 O:Nat->Prop} {D C Q6 P R T:Nat->Prop} {σ σ0 σ1:bg} {v0 v1 v2 v3 v4 v5 v v':zV} {te:TypeId} {U:zW} {M:Nat} {V QT H:zV} {dn ud gr:List (List Wr)} {op:Bool} {fs Z:List Fd} {y:By} {p:Pt} {aJ:List By}
def Dg:∀ {l:List (By × Int)} {t:By} {m:Int},iA l t=A m->∃ x,x∈l/\x.2=m
 | [],_,_,h=>by cases h
 | (x,k)::r,t,m,h=>by
  unfold iA at h;split at h
  .exact ⟨(x,k),(by simp),dp h⟩
  .obtain ⟨y,E,a⟩:=Dg h;exact ⟨y,by simp [E],a⟩
def P0:∀ x,x∈dX->x.2≠2:=by decide
def Cc {K:List (By × Nat)} (e:fV K) {i:Nat} (h:kN K i=2):nT K i≠[]/\(nT K i).length<=6:=by
 have g:=CJ (K:=K) (i:=i) (by rw [h];decide);obtain ⟨a,c,r,k,o,n⟩:=e.get g;unfold kN at h;unfold nT;rw [aB g] at h ⊢;rw [k] at h a ⊢;unfold fU at h;unfold ej eh;by_cases b:ae (c::r)=true
 .rw [aB b] at h;cases h
 .rw [aA b] at h ⊢;rw [aA b];cases f:fH (c::r) with
  | some m=>
   rw [f] at h;obtain ⟨x,l,j⟩:=Dg f;exact absurd (j.t h) (P0 x l)
  | none=>
   simp only [Option.isSome_none,sY,k8];refine ⟨(by simp),?_⟩;unfold di at a;rw [aA b] at a;by_cases d:j6 (c::r)=true
   .rw [aB d] at a;simpa using a
   .rw [aA d] at a;have:=pj c r (by simpa [j6] using d);rw [f,a] at this;cases this
def uX (h:(fs.map λg=>(g.nm,g.p)).Perm (Z.map λg=>(g.nm,g.p))):G fs=G Z:=by
 have:=h.length_eq;simpa using this
def x7 (h:(fs.map λg=>(g.nm,g.p)).Perm (Z.map λg=>(g.nm,g.p))):∀ f,f∈fs->∃ g,g∈Z/\g.nm=f.nm:=λf b=>by
 obtain ⟨g,c,a⟩:=bU.1 (h.mem_iff.1 (bU.2 ⟨f,b,rfl⟩));exact ⟨g,c,eL Prod.fst a⟩
def kt.set (h:kt fs) (c:az p) (i:x≠[]/\G x<=6) (hs:mK fs x p=.ok Z aJ):kt Z:=by
 obtain ⟨j,d⟩:=Ag h.gf c hs;refine ⟨j,?_,λf e=>?_⟩
 .have k:=h.len;rcases d with ⟨K,f,L,rfl,_,a⟩|⟨_,a,m⟩
  .have:=uX a;simp at this k;omega
  .have:=uX m;simp at this;omega
 .rcases d with ⟨K,f0,L,rfl,l,a⟩|⟨_,_,a⟩
  .obtain ⟨g,E,b⟩:=x7 a f e;rw [<- b];simp only [cG,bQ] at E;rcases E with E|rfl|E
   .exact h.xX g (by simp [E])
   .exact i
   .exact h.xX g (by simp [E])
  .obtain ⟨g,E,b⟩:=x7 a f e;rw [<- b];simp only [cG,iB] at E;rcases E with E|rfl
   .exact h.xX g E
   .exact i
def kt.del (h:kt fs) (hs:mL fs x=.ok Z aJ):kt Z:=by
 obtain ⟨c,K,f0,L,rfl,_,i⟩:=Ah h.gf hs;have a:=List.Perm.of_eq i;refine ⟨c,?_,λf e=>?_⟩
 .have:=uX a;have d:=h.len;simp at this d;omega
 .obtain ⟨g,E,b⟩:=x7 a f e;rw [<- b];simp only [cG] at E;rcases E with E|E
  .exact h.xX g (by simp [E])
  .exact h.xX g (by simp [E])
def kt.ren (h:kt fs) (i:y≠[]/\G y<=6) (hs:kr fs x y=.ok Z aJ):kt Z:=by
 obtain ⟨k,_,_,e⟩:=Ai h.gf (λf a=>(h.xX f a).1) i.1 hs;refine ⟨k,?_,λf a=>?_⟩
 .have:=uX e;have m:=h.len;simp at this;omega
 .obtain ⟨g,l,j⟩:=x7 e f a;rw [<- j];obtain ⟨c,b,rfl⟩:=bU.1 l;unfold dN;by_cases d:c.nm=x
  .rw [aB d];exact i
  .rw [aA d];exact h.xX c b
def xG {i:Nat} {f:Fd} {c:Nat} (h:fq fs i f=.err c aJ):c≠0:=by
 unfold fq at h;split at h
 .cases h
 .cases h;decide
def UC {c:Nat} (h:mK fs x p=.err c aJ):c≠0:=by
 unfold mK at h;split at h
 .split at h
  .exact xG h
  .cases h;decide
 .split at h
  .cases h;decide
  .exact xG h
def UD {c:Nat} (h:mL fs x=.err c aJ):c≠0:=by
 unfold mL at h;split at h
 .cases h;decide
 .cases h
def UE {c:Nat} (h:kr fs x y=.err c aJ):c≠0:=by
 unfold kr at h;split at h
 .cases h;decide
 .split at h
  .cases h;decide
  .split at h
   .cases h;decide
   .split at h
    .exact xG h
    .cases h;decide
def Ks.low {Q4:Nat} (h:Ks P w w') (a:∀ q,P q->Q4<=q) (c:Q4<=w.heap.size):Below Q4 w w':=⟨h.os,h.tape,h.output,h.size,λq d=>h.block q (by omega) λb=>by have:=a q b;omega⟩
def eB.up {d:AR} {r:Ending} (f:zB w w1) (a:∀ b,b∈σ.ord->D b) (h:eB S e D σ v1 v2 v3 v4 v5 te d w1 r w'):Il (eB S e D σ v1 v2 v3 v4 v5 te d w) r w':=by
 have c:=eB.lift (S:=S) (D:=D) (w:=w) (λ_ h=>h) (λ_ h=>zR h) (λ_ h=>h) (λ_ h=>zR h) (Ks.of f) (λ_ _=>rfl) rfl a h;obtain ⟨g,ln,cn,E,K,rfl,i⟩:=c.shape;exact ⟨g,ln,cn,E,K,rfl,c⟩
def Il.o {E:Ending->zW->Prop} {r:Ending} (h:Il E r w'):E r w':=by
 obtain ⟨_,_,_,_,_,_,h⟩:=h;exact h
def KY {r:Ending} (i:sL (.ok 1 [x] (A p)) (w.alloc bM) r w1) (v:Below (w.alloc bM).heap.size (w.alloc bM) w1) (u:az p) (n:Good p) (o:(ai p).length<=100):x6 e F a (mK a.fs x p) w r w1:=by
 have e1:(w.alloc bM).heap.size=w.heap.size+1:=(by simp);obtain ⟨al,ln,cn,E,k,l,rfl,b,y⟩:=i;obtain ⟨g,Q4,z,C,Y⟩:=b.form (by simp);simp at z;obtain ⟨rfl,rfl,rfl⟩:=z;have N:=b.cellAt 0 (by simp);rw [e1] at v y;refine ⟨v,1,A (yh g),1,cn,p.k,p.nm,p.n,E,k,l,_,rfl,zR rfl,λq j=>j,?_⟩;intro W K S D σ v1 v2 v3 v4 v5 d s _ f m;rw [<- m];refine (KT e g cn x p.k p.nm p.n E k l W (eB S e D σ v1 v2 v3 v4 v5 108 (mK (σ.fs.map Prod.snd) x p) W) ?_ ?_ ?_).m λr w' h=>h.o
 .rw [nu (a:=yh g) (K.block g Y)];simpa [ab] using N
 .have:=K.size;omega
 .intro L c;have t:dR L S p E k l:=((y.next λq j=>K.block q j.2).wide s).next λq j=>c.block q (d.still q j);exact (BU (d.next c) f.nd f.len x p E k l t u n o).m λr w' h=>h.up c d.sub
def KZ {r:Ending} (c:sL (.ok 2 [x] none) (w.alloc bM) r w1) (k:Below (w.alloc bM).heap.size (w.alloc bM) w1):x6 e F a (mL a.fs x) w r w1:=by
 have e1:(w.alloc bM).heap.size=w.heap.size+1:=(by simp);obtain ⟨t,ln,cn,rfl,b⟩:=c;obtain ⟨g,n,l,s,L⟩:=b.form (by simp);simp at l;obtain ⟨rfl,rfl,rfl⟩:=l;have K:=b.cellAt 0 (by simp);rw [e1] at k;refine ⟨k,2,A (yh g),1,cn,0,[],0,none,0,0,λ_=>False,rfl,zZ (zR rfl),λq m=>m.elim,?_⟩;intro W E S D σ v1 v2 v3 v4 v5 i o _ f j;rw [<- j];refine (KU e g cn x 0 [] 0 none 0 0 W (eB S e D σ v1 v2 v3 v4 v5 108 (mL (σ.fs.map Prod.snd) x) W) ?_ ?_ ?_).m λr w' h=>h.o
 .rw [nu (a:=yh g) (E.block g L)];simpa [ab] using K
 .have:=E.size;omega
 .intro p d;exact (BN (i.next d) f.nd f.len x).m λr w' h=>h.up d i.sub
def K0 {r:Ending} (k:Env U) (d:zB U w) (hF:∀ q,F q->U.heap.size<=q) (l:sL (.ok 3 [x,y] none) (w.alloc bM) r w1) (n:Below (w.alloc bM).heap.size (w.alloc bM) w1) (C:x≠[]) (E:G y<=100):x6 e F a (kr a.fs x y) w r w1:=by
 have e1:(w.alloc bM).heap.size=w.heap.size+1:=(by simp);obtain ⟨O,ln,cn,rfl,b⟩:=l;obtain ⟨g,L,N,hW,Y⟩:=b.form (by simp);simp at N;obtain ⟨rfl,rfl,rfl⟩:=N;have z:=b.cellAt 0 (by simp);have p:=b.cellAt 1 (by simp);rw [e1] at n;have s:=n.size;have QV:=d.size;rw [e1] at s;have i:zB U w1:=d.t (((aM _ _).alloc (by omega) bM).t (n.m (by omega)));refine ⟨n,3,A (yh g),2,cn,0,[],0,none,0,0,λ_=>False,rfl,zZ (zZ rfl),λq t=>t.elim,?_⟩;intro W K S D σ v1 v2 v3 v4 v5 m QT v f o;have Q4:=K.size;rw [<- o];refine (KV e g cn x y 0 [] 0 none 0 0 W (eB S e D σ v1 v2 v3 v4 v5 108 (kr (σ.fs.map Prod.snd) x y) W) ?_ ?_ ?_ ?_).m λr w' h=>h.o
 .rw [nu (a:=yh g) (K.block g Y)];simpa [ab] using z
 .rw [nu (a:=X g 1) (K.block g Y)];simpa [ab] using p
 .omega
 .intro H c;have Q0:=c.size;have j:zB U H:=(i.t (K.m (by omega))).t (c.m (by omega));have u:(σ.fs.map λg=>g.2.nm).Nodup:=by
   have:=f.gf.nn;rw [fM] at this;exact this
  exact (B8 (m.next c) (λP M=>k.below (j.t (M.low (λq t=>hF q (v q t)) (by omega))) k.size) f.nd u f.len x y C E).m λr w' h=>h.up c m.sub
end
section
inductive Ln where
 | err (vb er:Int) (p:Nat)
 | set (x:By) (p:Pt)
 | del (x:By)
 | ren (x y:By)
 | begin
 | kW
 | cancel
 | pS
 | pT
 | value (x:By)
 | rule (x:By)
 | list
 | order
def Ln.r:Ln->tR
 | .err a C p=>.err a C p
 | .set x p=>.ok 1 [x] (A p)
 | .del x=>.ok 2 [x] none
 | .ren x y=>.ok 3 [x,y] none
 | .begin=>.ok 4 [] none
 | .kW=>.ok 5 [] none
 | .cancel=>.ok 6 [] none
 | .pS=>.ok 7 [] none
 | .pT=>.ok 8 [] none
 | .value x=>.ok 9 [x] none
 | .rule x=>.ok 10 [x] none
 | .list=>.ok 11 [] none
 | .order=>.ok 12 [] none
def Lj (x:By):Prop:=x≠[]/\G x<=6
def Ln.Ok:Ln->Prop
 | .err _ C _=>C≠0
 | .set x p=>Lj x/\az p/\Good p/\(ai p).length<=100
 | .del x=>Lj x
 | .ren x y=>Lj x/\Lj y
 | .value x=>Lj x
 | .rule x=>Lj x
 | _=>True
variable {len n:Nat} {K:List (By × Nat)} {vb:Int} {rl:Bool} {r Z:tR} {s:By}
def mZ.form (h:mZ len K vb n rl r) (a:fV K):(∃ C p,C≠0/\r=.err vb C p)\/((∀ i,i<n->Lj (nT K (1+i)))/\((rl=false/\r=.ok vb (fC K 1 n) none)\/(rl=true/\∃ t,az t/\Good t/\(ai t).length<=100/\r=.ok vb (fC K 1 n) (A t)))):=by
 rcases h with ⟨j,_,_,_,rfl⟩|⟨f,h⟩
 .exact zR ⟨3,_,by decide,rfl⟩
 .have d:∀ i,i<n->Lj (nT K (1+i)):=λi g=>Cc a (f i g);rcases h with ⟨_,_,rfl⟩|⟨b,_,rfl⟩|⟨_,_,rfl⟩|⟨b,_,C,p,k,_,_,h⟩
  .exact zR ⟨3,_,by decide,rfl⟩
  .exact zZ ⟨d,zR ⟨b,rfl⟩⟩
  .exact zR ⟨3,_,by decide,rfl⟩
  .rcases h with ⟨e,rfl⟩|⟨_,_,_,rfl⟩|⟨_,_,t,c,_,l,rfl⟩
   .exact zR ⟨C,_,e,rfl⟩
   .exact zR ⟨7,_,by decide,rfl⟩
   .refine zZ ⟨d,zZ ⟨b,t,c.shape,c.good (a.drop _),by omega,rfl⟩⟩
def Cd (h:ew s r):∃ l:Ln,r=l.r/\l.Ok:=by
 rcases h with ⟨_,rfl⟩|⟨_,p,_,rfl⟩|⟨_,K,d,h⟩
 .exact ⟨.err 0 1 0,rfl,by simp [Ln.Ok]⟩
 .exact ⟨.err 0 2 p,rfl,by simp [Ln.Ok]⟩
 .have c:fV K:=by
   have:=xI s;rw [d] at this;exact this
  rcases h with ⟨k,o,_,h⟩|⟨_,rfl⟩
  .rcases h.form c with ⟨C,p,b,rfl⟩|⟨g,h⟩
   .exact ⟨.err _ C p,rfl,b⟩
   .have a:=g 0;have f:=g 1;have m:fC K 1 0=[]:=rfl;have e1:fC K 1 1=[nT K 1]:=rfl;have i:fC K 1 2=[nT K 1,nT K 2]:=rfl;rcases (show k=0\/k=1\/k=2\/k=3\/k=4\/k=5\/k=6\/k=7\/k=8\/k=9\/k=10\/k=11 by omega) with e|e|e|e|e|e|e|e|e|e|e|e<;>subst e<;>simp only [aQ,List.getElem_cons_zero,List.getElem_cons_succ,m,e1,i,sY,Bool.true_eq_false,reduceCtorEq,false_and,iK,false_or,true_and] at h a f
    .obtain ⟨t,b,j,n,rfl⟩:=h;exact ⟨.set _ t,rfl,a (by decide),b,j,n⟩
    .subst h;exact ⟨.del _,rfl,a (by decide)⟩
    .subst h;exact ⟨.ren _ _,rfl,a (by decide),f (by decide)⟩
    .subst h;exact ⟨.begin,rfl,trivial⟩
    .subst h;exact ⟨.kW,rfl,trivial⟩
    .subst h;exact ⟨.cancel,rfl,trivial⟩
    .subst h;exact ⟨.pS,rfl,trivial⟩
    .subst h;exact ⟨.pT,rfl,trivial⟩
    .subst h;exact ⟨.value _,rfl,a (by decide)⟩
    .subst h;exact ⟨.rule _,rfl,a (by decide)⟩
    .subst h;exact ⟨.list,rfl,trivial⟩
    .subst h;exact ⟨.order,rfl,trivial⟩
  .exact ⟨.err 0 3 _,rfl,by simp [Ln.Ok]⟩
def Qh {n a:Nat} {C:List By} {x b:Int × Nat} (h:cF len n C K=A x) (e:cF len a C K=A b):x=b:=by
 have d:=r9 len n C K x h a;have c:=r9 len a C K b e n;rw [mP a n] at c;rw [d] at c;exact dp c
def mZ.uniq (h:mZ len K vb n rl r) (d:mZ len K vb n rl Z):r=Z:=by
 rcases h with ⟨j,w,E,b,rfl⟩|⟨y,h⟩
 .rcases d with ⟨q,i,l,e,rfl⟩|⟨m,_⟩
  .rcases Nat.lt_trichotomy j q with o|o|o
   .exact absurd (l j o) b
   .rw [o]
   .exact absurd (E q o) e
  .exact absurd (m j w) b
 .rcases d with ⟨q,i,l,e,rfl⟩|⟨m,d⟩
  .exact absurd (y q i) e
  .rcases h with ⟨E,b,rfl⟩|⟨E,b,rfl⟩|⟨E,b,rfl⟩|⟨E,b,L,p,H,_,k,x⟩
   .rcases d with ⟨D,a,rfl⟩|⟨D,a,rfl⟩|⟨D,a,rfl⟩|⟨D,a,_⟩
    .rfl
    .exact absurd a b
    .exact absurd (E.symm.t D) (by decide)
    .exact absurd (E.symm.t D) (by decide)
   .rcases d with ⟨D,a,rfl⟩|⟨D,a,rfl⟩|⟨D,a,rfl⟩|⟨D,a,_⟩
    .exact absurd b a
    .rfl
    .exact absurd (E.symm.t D) (by decide)
    .exact absurd (E.symm.t D) (by decide)
   .rcases d with ⟨D,a,rfl⟩|⟨D,a,rfl⟩|⟨D,a,rfl⟩|⟨D,a,_⟩
    .exact absurd (E.symm.t D) (by decide)
    .exact absurd (E.symm.t D) (by decide)
    .rfl
    .exact absurd a b
   .rcases d with ⟨D,a,rfl⟩|⟨D,a,rfl⟩|⟨D,a,rfl⟩|⟨D,a,F,C,v,_,c,g⟩
    .exact absurd (E.symm.t D) (by decide)
    .exact absurd (E.symm.t D) (by decide)
    .exact absurd b a
    .have s:=Qh k c;simp only [mI] at s;obtain ⟨rfl,rfl⟩:=s;rcases x with ⟨c1,rfl⟩|⟨c1,_,c2,rfl⟩|⟨c1,_,t,z,c2,c3,rfl⟩
     .rcases g with ⟨d1,rfl⟩|⟨d1,_,d2,rfl⟩|⟨d1,_,u,f,d2,d3,rfl⟩
      .rfl
      .exact absurd d1 c1
      .exact absurd d1 c1
     .rcases g with ⟨d1,rfl⟩|⟨d1,_,d2,rfl⟩|⟨d1,_,u,f,d2,d3,rfl⟩
      .exact absurd c1 d1
      .rfl
      .rw [d2] at d3;exact absurd c2 d3
     .rcases g with ⟨d1,rfl⟩|⟨d1,_,d2,rfl⟩|⟨d1,_,u,f,d2,d3,rfl⟩
      .exact absurd c1 d1
      .rw [c2] at c3;exact absurd d2 c3
      .rw [z.uniq f]
def Qi:∀ k (h:k<12) j (a:j<12),(aQ[k]'h).1=(aQ[j]'a).1->k=j:=by decide
def ew.uniq (h:ew s r) (a:ew s Z):r=Z:=by
 rcases h with ⟨j,rfl⟩|⟨j,p,f,rfl⟩|⟨j,K,f,h⟩
 .rcases a with ⟨c,rfl⟩|⟨c,p,b,rfl⟩|⟨c,K,b,a⟩
  .rfl
  .omega
  .omega
 .rcases a with ⟨c,rfl⟩|⟨c,m,b,rfl⟩|⟨c,K,b,a⟩
  .omega
  .rw [f] at b;cases b;rfl
  .rw [b] at f;cases f
 .rcases a with ⟨c,rfl⟩|⟨c,m,b,rfl⟩|⟨c,C,b,a⟩
  .omega
  .rw [f] at b;cases b
  .rw [f] at b;simp only [mI,and_true] at b;subst b;rcases h with ⟨k,l,e,h⟩|⟨h,rfl⟩
   .rcases a with ⟨i,d,g,a⟩|⟨a,rfl⟩
    .obtain rfl:=Qi k l i d (e.t g.symm);exact h.uniq a
    .exact absurd e (a k l)
   .rcases a with ⟨i,d,g,a⟩|⟨a,rfl⟩
    .exact absurd g (h i d)
    .rfl
end
def ex (s:By) (l:Ln):Prop:=l.Ok/\∀ r,ew s r->r=l.r
def Ce (i:Nat):UInt8:=UInt8.ofNat (48+i)
def dg (i:Nat):By:=[Ce i]
end Go.Proofs.YtihgojcfpnhelaaGreatDoor
