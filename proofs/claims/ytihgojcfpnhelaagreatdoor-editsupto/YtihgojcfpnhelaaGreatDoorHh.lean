import Derived.Test.YtihgojcfpnhelaaGreatDoorNh
import Derived.Test.YtihgojcfpnhelaaGreatDoorGa
set_option maxRecDepth 100000
set_option maxHeartbeats 4000000
set_option linter.all false
namespace Go.Proofs.YtihgojcfpnhelaaGreatDoor
open Value renaming slice->B,tuple->zp,bool->zF,pointer->zK
open Obj renaming cells->zM
open Ending renaming returned->zP
open Option renaming some->A
open Or renaming inl->zR,inr->zZ
open Go renaming World->zW,Value->zV,Calls->zC,Addr->zD
open Go.RowKit Go.Proofs.Tryz
open List renaming length→G
section
variable {S S1 O:Nat->Prop} {e:Nat} {D:Nat->Prop} {σ σ0:bg} {v1 v2 v3 v4 v5:zV} {te:TypeId} {w W Z U:zW} {ws0 us:List Wr} {b N:Nat} {cs:Array zV}
def Cz (h:cO e D w S N cs us):∀ (W:zW) (S1:Nat->Prop) (σ:bg),(∀ q,S q->S1 q/\W.heap[q]?=w.heap[q]?)->cK W S1 e D σ v1 v2 v3 v4 v5 te->zC prog N cs W (gX S1 e D σ us v1 v2 v3 v4 v5 te W):=by
 induction h with
 | ord y u a c l k s t f m K z G=>
  intro W S1 σ d r;exact GL r y u l a c ((d _ k).2.t t) ((d _ s).2.t f) G ((m.next λq j=>(d q j).2).wide λq j=>(d q j).1) K z
 | nm y u b x k s t f m=>
  intro W S1 σ d r;exact GM r y u x ((d _ k).2.t t) ((d _ s).2.t f) m
 | rl y u b p a l c k s t f m K z G T=>
  intro W S1 σ d r;exact GN r y u p a l c ((d _ k).2.t t) ((d _ s).2.t f) T ((m.next λq j=>(d q j).2).wide λq j=>(d q j).1) K z G
 | vl y u b v k s t f m=>
  intro W S1 σ d r;exact GO r y u v ((d _ k).2.t t) ((d _ s).2.t f) m
 | all g a n c N cs us k s t f m K z R=>
  intro W S1 σ d r;refine GJ r g a n c (d _ k).1 ((d _ k).2.t s) (f.imp id λ⟨h,o,e1,e2⟩=>⟨h,o,e1,(d h e2).1⟩) (by unfold maxLen;omega) m (λi C h o H=>?_) (λi C=>(z i C).enters) λi C L S2 V P E=>R i C L S2 V (λq j=>⟨(P q (d q j).1).1,(P q (d q j).1).2.t (d q j).2⟩) E;rcases f with f|⟨M,O,f,F⟩
  .omega
  .rw [H] at f;cases f;exact (nu (a:=X h (o+i)) (d h F).2).t (K i C h o H)
def wv (S:Nat->Prop) (e:Nat) (D:Nat->Prop) (σ0:bg) (v1 v2 v3 v4 v5:zV) (te:TypeId) (a:List (Nat × Fd)) (w:zW) (r:Ending) (w':zW):Prop:=
 ∃ (b:Option zD) (E:Nat) (C:Nat->Prop),r=zP (zp #[B b (G a) E,.nilFunc,J 8])/\w'.ownsRow w.heap.size 9 1 (B b (G a) E) (G a) (ab (cJ a))/\(∀ q,(B b (G a) E).ownBlock=A q->¬ C q) /\
  (∀ q,S q->C q)/\(∀ q,C q->S q\/(w.heap.size<=q/\∃ c t z,w'.heap[q]?=A (zM c t z)))/\cK w' C e D σ0 v1 v2 v3 v4 v5 te/\Ks (λq=>q=e\/D q) w w'
def Hg (at_ R:Nat) (C:Array zV) (n:List (Nat × Fd)) (h:cK w S e D σ v1 v2 v3 v4 v5 te) (hσ:aU ws0 σ0=σ) (z:cO e D w S R C (dz ws0 σ0)) (hl:σ.ord.length<=100) (O:σ.ord[at_]?=A b) (T:σ.ord.Nodup) (s:dL σ.fs at_ (b,σ.mem b)=.dZ n) (aa:G n<=100) :
  zC prog 161 #[zJ e,zJ b,.func (.func R) #[] C] w (wv S e D σ0 v1 v2 v3 v4 v5 te n w):=by
 obtain ⟨c,P⟩:=fI.1 O;have Q5:σ.fs.length=σ.ord.length:=(by simp [bg.fs]);have j:at_<σ.fs.length:=(by omega);have f:σ.fs[at_]=(b,σ.mem b):=(by simp [bg.fs,P]);have W:∀ i (h:i<σ.fs.length),i<at_->(σ.fs[i]).1≠b:=λi hi Q6=>(by have:=sW.1 T i at_ (by omega) c Q6;simpa [bg.fs,<- P] using this);have od:e<w.heap.size:=h.lt;obtain ⟨HM,Jx,k,v,U,Q4⟩:=h.sh;obtain ⟨⟨e0,e1,e2,e3,e4,e5⟩,⟨z0,z1,z2,z3,z4,z5⟩,_⟩:=bJ Q4;obtain ⟨Q0,QT⟩:=zY σ.fs n at_ (b,σ.mem b) j f s;have w1:∀ x,x∈σ.fs->x.1<w.heap.size:=λx hx=>(k.bX x hx).lt;have a:=I ((Cx HM Jx at_ σ.fs (b,σ.mem b) w k (by omega) j f v W).m (R':=λr M=>∃ L c2,r=zP (zp #[zN,zS L (G n) c2])/\Hid (M.ownsRow w.heap.size 220 1 (zS L (G n) c2) (G n) (cA n))/\zB w M) (by
  rintro r M ⟨hb,h⟩;rw [s] at h;obtain ⟨ad,p,K⟩:=h;obtain ⟨L,c2,rfl,_,_⟩:=K.form (by have:=BB.2 QT;omega);exact ⟨L,c2,p,K,hb⟩))
 have ac:=z.enters;have HS:=I k;have m:=I h;have Eb:=I z;clear k Q4 h z W s O P c j f T Q5 v U;go_in;go_wp2_with (go_at_call 190;refine mo a.o ?_;rintro r M ⟨L,c2,rfl,N,y⟩);have u:=I y;have V:=I (uK _ c2 _ M ((HS.o.next y).OS Q0 N.o w1) (by omega));clear y a;apply I;go_wp2_with (go_at_call 142;refine mo V.o ?_;rintro r w2 ⟨vn,rfl,d,F⟩);have l:zB w w2:=u.o.t (F.m u.o.size);have E:=I l;have o:=I (Cz Eb.o w2 S σ (λq g=>⟨g,l.block q (m.o.still q g)⟩) (m.o.next l));have H:=I (dS d u.o.size);obtain ⟨an,cn,rfl⟩:=eM d;clear F d V l;apply I;go_wp2_with (go_at_fn R;refine mo o.o ?_;rintro r w3 ⟨fv,QV,S',rfl,g⟩);have HQ:=I g;clear g o;apply I;go_wp2;refine aK (v:=zp #[B an (G n) cn,.nilFunc,J 8]) (by simp [results,results161,go_sem]) (by simp [go_sem]) ?_;obtain ⟨p0,p1,Y,_,Z⟩:=HQ.o;have t:=λq g=>H.o.lt q g;have xF:=E.o.size;refine ⟨an,cn,S',rfl,iy H.o Z ?_,λq g p=>?_,p0,λq g=>(p1 q g).imp id λh=>⟨bf xF h.1,h.2⟩,?_,(Ks.of E.o).t Z⟩
 .intro q g p;have:=(t q g).1;rcases p with p|p
  .omega
  .have:=(m.o.bX q p).lt;omega
 .rcases p1 q p with K|K
  .have:=m.o.still q K;have:=(t q g).1;omega
  .have:=(t q g).2;have:=K.1;omega
 .rw [<- hσ,lV] at Y;exact Y
variable {S':Nat->Prop} {Q6:Nat->Prop} {σ1:bg} {v0 v v':zV} {w' w1 w2 w3:zW} {V:List (List Wr)} {N:Nat->Nat} {cs:Nat->Array zV} {M:Nat} {U R Z:zV} {dn ud gr:List (List Wr)} {op:Bool} {N1:Nat} {cs1:Array zV}
def fY (gr:List (List Wr)):List Wr:=gr.reverse.flatten
def KP (gr:List (List Wr)):(List.range (G gr)).reverse.flatMap (λj=>gr.getD j [])=fY gr:=by
 unfold fY;have:(List.range (G gr)).map (λj=>gr.getD j [])=gr:=by
  apply rC
  .simp
  .intro i b a;simp [a]
 rw [List.flatMap_def,<- List.map_reverse.symm,this]
def fx.PQ (h:fx w e S D σ M U R Z dn ud gr op) (d:∀ q,S q->S' q) (g:∀ q,S' q->S q\/(q<w.heap.size/\¬ jd e D U R Z q)):fx w e S' D σ M U R Z dn ud gr op:=by
 have f:∀ q,S' q->∀ P:Prop,(P->jd e D U R Z q)->(S q->¬ P)->¬ P:=λq b P j C i=>by
  rcases g q b with a|a
  .exact C a i
  .exact a.2 (j i)
 refine ⟨h.ph.wide d λq b=>(g q b).imp id λa=>⟨a.1,λk=>a.2 (zR k),λl=>a.2 (zZ (zR l))⟩,?_,?_,?_,h.du,h.dg,h.ug,h.hM,h.len⟩
 .obtain ⟨N,cs,c⟩:=h.rd;refine ⟨N,cs,c.wide d (λ_ h=>h) λq b=>⟨λC=>?_,(c.ob q b).2.2⟩⟩;exact f q C _ (λa=>zZ (zZ (zR a))) (λa _=>(c.ob q b).1 a) b
 .obtain ⟨N,cs,c⟩:=h.ru;refine ⟨N,cs,c.wide d (λ_ h=>h) λq b=>⟨λC=>?_,(c.ob q b).2.2⟩⟩;exact f q C _ (λa=>zZ (zZ (zZ (zR a)))) (λa _=>(c.ob q b).1 a) b
 .obtain ⟨N,cs,c⟩:=h.rg;refine ⟨N,cs,c.wide d (λ_ h=>h) λq b=>⟨λC=>?_,(c.ob q b).2.2⟩⟩;exact f q C _ (λa=>zZ (zZ (zZ (zZ a)))) (λa _=>(c.ob q b).1 a) b
def fx.ui (h:fx w e S D σ M U R Z dn ud gr op) (g:cK w' S' e Q6 σ1 (J M) U R (zF op) Z 108) (j:∀ q,S q->S' q) (f:∀ q,S' q->S q\/w.heap.size<=q) (d0:∀ q,D q->Q6 q) (d1:∀ q,Q6 q->D q\/w.heap.size<=q) (d:Ks (λq=>q=e\/D q) w w'):fx w' e S' Q6 σ1 M U R Z dn ud gr op:=by
 have E:∀ q,S q->w'.heap[q]?=w.heap[q]?:=λq b=>d.block q (h.ph.still q b) (h.ph.notP q b);have C:∀ {v:zV} {V:List (List Wr)},(∃ N cs,dP w S e D v V N cs)->∃ N cs,dP w' S' e Q6 v V N cs:=by
  rintro v V ⟨N,cs,c⟩;refine ⟨N,cs,(c.keep d E λq b a=>?_).wide j d0 λq b=>⟨λF=>?_,λi=>?_⟩⟩
  .rcases a with a|a
   .exact (c.ob q b).2.1 a
   .exact (c.ob q b).2.2 a
  .rcases f q F with a|a
   .exact (c.ob q b).1 a
   .have:=c.lt q b;omega
  .rcases d1 q i with a|a
   .exact (c.ob q b).2.2 a
   .have:=c.lt q b;omega
 exact ⟨g,C h.rd,C h.ru,C h.rg,h.du,h.dg,h.ug,h.hM,h.len⟩
def fx.called (h:fx w e S D σ M U R Z dn ud gr op) (d:cO e D w S N1 cs1 us) (W:zW) (f:zB w W):zC prog N1 cs1 W λr w'=>∃ c a S',r=zP (.func (.func c) #[] a)/\(∀ q,S q->S' q)/\(∀ q,S' q->S q\/W.heap.size<=q)/\fx w' e S' D (aU us σ) M U R Z dn ud gr op/\cO e D w' S' c a (dz us σ)/\Ks (λq=>q=e\/D q) W w':=by
 refine (Cz d W S σ (λq b=>⟨b,f.block q (h.ph.still q b)⟩) (h.ph.next f)).m ?_;rintro r w' ⟨c,a,S',rfl,i,j,l,k,g⟩;exact ⟨c,a,S',rfl,i,λq b=>(j q b).imp id λh=>h.1,(h.next f).ui l i (λq b=>(j q b).imp id λh=>h.1) (λ_ h=>h) (λ_ h=>zR h) g,k,g⟩
def allRow (m:dP w S e D v V N cs) (u:∀ q,S q->q<w.heap.size) (z:(G V)*8<=140737488355328) :
  zC prog 72 #[v] w λr w'=>∃ p f S',r=zP (.func (.func p) #[] f)/\zB w w'/\w'.heap.size=w.heap.size+1/\(∀ q,S q->S' q)/\(∀ q,S' q->S q\/v.ownBlock=A q\/q=w.heap.size)/\cO e D w' S' p f (fY V):=by
 obtain ⟨a,l,c,rfl⟩:=b7 m.own;refine (Ru a l c w).m ?_;rintro r w' ⟨rfl,rfl⟩;have n:zB w (w.alloc (zM #[B a l c] 104)):=(aM _ _).alloc (aG _) _;have b:=bL w (zM #[B a l c] 104);refine ⟨_,_,λq=>S q\/(B a l c).ownBlock=A q\/q=w.heap.size,rfl,n,(by simp),λq d=>zR d,λq d=>d,?_⟩;rw [<- KP];have k:∀ i,i<G V->cO e D (w.alloc (zM #[B a l c] 104)) (λq=>S q\/(B a l c).ownBlock=A q\/q=w.heap.size) (N i) (cs i) (V.getD i []):=λi j=>((m.bk i j).next λq d=>n.block q (u q d)).wide (λq d=>zR d) λ_ h=>h;have s:=aZ m.own n;rcases s.2 with ⟨o,t⟩|⟨g,L,C,o,t,P,K,H,y,E⟩
 .cases o;rw [t];exact .all _ none 0 0 N cs _ (zZ (zZ rfl)) b (aG _) (zR rfl) (by omega) (λi j=>by omega) λi j=>by omega
 .cases o;refine .all _ (A (yh g)) (G V) _ N cs _ (zZ (zZ rfl)) b K (zZ ⟨g,0,rfl,zZ (zR rfl)⟩) z (λi j T F x=>?_) k;cases x;have:=s.cellAt i (by omega);rw [cS,this,kn,List.getElem?_range j];rfl
def fx.kept (h:fx w e S D σ M U R Z dn ud gr false) {r:Ending} {v0:zV} (p:∀ a c,w.heap[e]?=A (zM #[B a σ.ord.length c,J M,U,R,zF false,Z] 108 (0,0))->v0=B a σ.ord.length c) (j:Ij S e D M v0 U (zF false) Z 108 V w r w') (Q4:G V<=M) :
  ∃ d,fx w' e S D σ M d (zN) Z V [] gr false/\(∀ q,jd e D d (zN) Z q->jd e D U R Z q\/w.heap.size<=q)/\Ks (jd e D U R Z) w w':=by
 obtain ⟨d,z,l,rfl,s,m,t,j⟩:=j;have f:∀ q,S q->w'.heap[q]?=w.heap[q]?:=λq b=>j.block q (h.ph.still q b) (by
  rintro (F|F)
  .exact h.agW q b (zR F)
  .exact h.agW q b (zZ (zZ (zR F))))
 have o:∀ q,D q->w'.heap[q]?=w.heap[q]?:=λq b=>j.block q (h.ph.bX q b).lt (by
  rintro (F|F)
  .exact h.ph.eD (F▸b)
  .obtain ⟨N,cs,m⟩:=h.rd;exact (m.ob q F).2.2 b)
 obtain ⟨a,c,x,y,E,C⟩:=h.ph.row;rw [p a c C] at s;have v:cK w' S e D σ (J M) d (zN) (zF false) Z 108:=⟨λq b=>bG (h.ph.still q b) j.size,h.ph.eS,h.ph.eD,λq b=>(h.ph.bX q b).stays (o q b) f,h.ph.sub,a,c,x.next f,y,E,s⟩;obtain ⟨H,k,n⟩:=h.rg;refine ⟨d,⟨v,⟨z,l,m⟩,⟨_,_,dP.nil _ _ _ _⟩,⟨H,k,n.keep j f ?_⟩,λq _ F=>by simp [Value.ownBlock] at F,λq b F=>?_,λq F=>by simp [Value.ownBlock] at F,h.hM,by simpa using Q4⟩,?_,j.wide ?_⟩
 .rintro q b (F|F)
  .exact (n.ob q b).2.1 F
  .exact h.dg q F b
 .rcases t with i|⟨g,i,u⟩
  .exact h.dg q (i▸b) F
  .rw [i] at b;cases b;have:=n.lt _ F;omega
 .rintro q (F|F|F|F|F)
  .exact zR (zR F)
  .exact zR (zZ (zR F))
  .rcases t with i|⟨g,i,u⟩
   .exact zR (zZ (zZ (zR (i▸F))))
   .rw [i] at F;cases F;exact zZ u
  .simp [Value.ownBlock] at F
  .exact zR (zZ (zZ (zZ (zZ F))))
 .rintro q (F|F)
  .exact zR F
  .exact zZ (zZ (zR F))
def C9 (M:Nat) (dn:List (List Wr)) (us:List Wr) (h:G dn<=M):(kD M dn us).length<=M:=by
 unfold kD;split
 .rw [List.length_eraseIdx,aB (by simp)];simp;omega
 .simp;omega
def Ft (S:Nat->Prop) (e:Nat) (D:Nat->Prop) (Z R U:zV) (q:Nat):Prop:=S q\/jd e D Z R U q
def gm (e:Nat) (F i:Nat->Prop) (j:bg) (M:Nat) (h d f:List (List Wr)) (g:Bool) (w w':zW):Prop:=
 ∃ S' Q6 a c b,fx w' e S' Q6 j M a c b h d f g/\(∀ q,Ft S' e Q6 a c b q->F q\/w.heap.size<=q)/\Ks i w w'
def fx.agX (h:fx w e S D σ M Z R U dn ud gr op):∀ q,Ft S e D Z R U q->q<w.heap.size:=by
 rintro q (a|a)
 .exact h.ph.still q a
 .exact h.ltW q a
def fx.self (h:fx w e S D σ M Z R U dn ud gr op) (a:zB w w'):gm e (Ft S e D Z R U) (jd e D Z R U) σ M dn ud gr op w w':=
 ⟨S,D,Z,R,U,h.next a,λ_ h=>zR h,Ks.of a⟩
def ww (h:fx w e S D σ M Z R U dn ud gr true) (Q4:cO e D w S N1 cs1 us) (h8:G gr<1000000000000) :
  zC prog 99 #[zK (A (X e 1)),.func (.func N1) #[] cs1] w λQ0 w'=>Q0=zP (zp #[])/\gm e (Ft S e D Z R U) (jd e D Z R U) σ M dn ud (gr++[us]) true w w':=by
 obtain ⟨QT,HO,r1,r2,r3,T⟩:=h.ph.row;obtain ⟨⟨e0,e1,e2,e3,e4,e5⟩,⟨z0,z1,z2,z3,z4,z5⟩,y⟩:=bJ T;obtain ⟨i1,gi,O,W,ag⟩:=fe mV;obtain ⟨Ng,QV,x⟩:=h.rg;obtain ⟨P,o,n,rfl⟩:=b7 x.own;have hq:(B P o n).ownBlock≠A e:=λH=>(x.ob e H).2.1 rfl;have r:=I x.own;have t:=I (show ∀ g b w2,w2.ownsRow 0 151 1 (zS g (G gr+1) b) (G gr+1) (((List.range (G gr)).map λj=>jt (Ng j) (QV j))++[.func (.func N1) #[] cs1])->(w.alloc (zM #[.func (.func N1) #[] cs1] 151)).grownBy w2 (B P o n).ownBlock->((B P o n).ownBlock=A g\/g=w.heap.size+1)->w2.heap[e]?=w.heap[e]?/\gm e (Ft S e D Z R (B P o n)) (jd e D Z R (B P o n)) σ M dn ud (gr++[us]) true w (w2.setCell (X e 5) (zS g (G gr+1) b)) from λg b w2 d Y m=>by
  have h2:=Y.size;simp at h2;have f:Ks (λq=>(B P o n).ownBlock=A q) w w2:=(by refine ⟨Y.os,Y.tape,Y.output,by omega,λq K hn=>?_⟩;rw [Y.block q (by simp;omega) (λh=>hn h.symm),cj _ _ _ K]);have k:w2.heap[e]?=w.heap[e]?:=f.block e y hq;have tA:g≠e:=by
   rcases m with H|H
   .intro c;rw [c] at H;exact hq H
   .omega
  have Q6:∀ q,S q->q≠e:=λq K c=>h.ph.eS (c▸K);have i:∀ q,S q->w2.heap[q]?=w.heap[q]?:=λq K=>f.block q (h.ph.still q K) λH=>(x.ob q H).1 K;have h1:Ks (λq=>q=e) w2 (w2.setCell (X e 5) (zS g (G gr+1) b)):=(Ks.refl (λq=>q=e) w2).set e 5 _ rfl;have F:(B P o n).ownBlock=(B (A (yh g)) (G gr+1) b).ownBlock\/∃ C,(B (A (yh g)) (G gr+1) b).ownBlock=A C/\w.heap.size<=C:=by
   rcases m with H|H
   .exact zR H
   .exact zZ ⟨g,rfl,by omega⟩
  have Q5:=(x.snoc Q4 h.ph.still y (λq K=>(h.ph.bX q K).lt) Y d F).tF Q6 5 (zS g (G gr+1) b);have p:∀ {v:zV} {V:List (List Wr)},(∃ N cs,dP w S e D v V N cs)->(∀ q,v.ownBlock=A q->(B P o n).ownBlock≠A q)->∃ N cs,dP (w2.setCell (X e 5) (zS g (G gr+1) b)) S e D v V N cs:=by
   rintro v V ⟨N,cs,E⟩ hd;exact ⟨N,cs,(E.keep f i hd).tF Q6 5 _⟩
  refine ⟨k,S,D,Z,R,zS g (G gr+1) b,⟨?_,p h.rd h.dg,p h.ru h.ug,⟨_,_,Q5⟩,h.du,λq K H=>?_,λq K H=>?_,h.hM,h.len⟩,?_,?_⟩
  .refine (h.ph.same (w':=w2) ?_ f.size).beside h1 λQT HO H=>(aj H 5 _).t rfl;rintro q (H|rfl|H)
   .exact i q H
   .exact k
   .exact f.block q (h.ph.bX q H).lt λL=>(x.ob q L).2.2 H
  .rcases F with L|⟨C,L,a⟩
   .exact h.dg q K (by rw [L];exact H)
   .rw [L] at H;cases H;obtain ⟨N,cs,E⟩:=h.rd;have:=E.lt _ K;omega
  .rcases F with L|⟨C,L,a⟩
   .exact h.ug q K (by rw [L];exact H)
   .rw [L] at H;cases H;obtain ⟨N,cs,E⟩:=h.ru;have:=E.lt _ K;omega
  .rintro q (H|H|H|H|H|H)
   .exact zR (zR H)
   .exact zR (zZ (zR H))
   .exact zR (zZ (zZ (zR H)))
   .exact zR (zZ (zZ (zZ (zR H))))
   .exact zR (zZ (zZ (zZ (zZ (zR H)))))
   .rcases F with L|⟨C,L,a⟩
    .exact zR (zZ (zZ (zZ (zZ (zZ (by rw [L];exact H))))))
    .rw [L] at H;cases H;exact zZ a
  .exact (f.wide λq K=>zZ (zZ (zZ (zZ K)))).t (h1.wide λq K=>zR K))
 have HE:=I T;clear T h Q4 x r1 r2 r3;go_in;go_wp2_with (at_builtin;refine rq _ rfl (.tmp 12) (.tmp 14) 104 rfl 0 151 i1 .nilFunc 1 8 underlying104 gi O W ag rfl (by decide) (B P o n) (G gr) _ rfl (r.o.alloc _) (yh w.heap.size) 1 1 [.func (.func N1) #[] cs1] rfl rfl (λq u K=>bC w [.func (.func N1) #[] cs1] 151 q u K) (λu z=>by simp at z;subst z;rfl) (by omega) (by unfold maxLen;omega) (by omega) (by omega) (w.heap.size+1) (by simp) ?_;intro g b w2 d l m aa;apply Hid.o);obtain ⟨k,s⟩:=t.o g b w2 d l m;obtain ⟨⟨p0,p1,p2,p3,p4,p5⟩,⟨x0,x1,x2,x3,x4,x5⟩,hu⟩:=bJ (k.t HE.o);have HF:=I s;clear d l m k s t r;apply I;go_wp2;refine aK (v:=zp #[]) (by simp [results,results99,go_sem]) rfl ?_;exact ⟨rfl,HF.o⟩
def wH (h:fx w e S D σ M Z R U dn ud gr false) (j:cO e D w S N1 cs1 us) :
  zC prog 99 #[zK (A (X e 1)),.func (.func N1) #[] cs1] w λr w'=>r=zP (zp #[])/\gm e (Ft S e D Z R U) (jd e D Z R U) σ M (kD M dn us) [] gr false w w':=by
 obtain ⟨a,c,G,H,Y,f⟩:=h.ph.row;obtain ⟨T,P,u⟩:=h.rd;obtain ⟨L,x,z⟩:=h.ru;obtain ⟨p,o,l,rfl⟩:=b7 u.own;obtain ⟨n,m,i,rfl⟩:=b7 z.own;have t:=h.len;refine Ba e (.func N1) cs1 w (λ_ w'=>gm e (Ft S e D (B p o l) (B n m i) U) (jd e D (B p o l) (B n m i) U) σ M (kD M dn us) [] gr false w w') (bJ f).1.2.2.2.2.1 ?_;refine (iS M p o l n m i N1 cs1 us f u j (λq d=>⟨h.ph.still q d,λy=>h.ph.eS (y▸d)⟩) (λq d=>(h.ph.bX q d).lt) h.hM (by omega)).m ?_;intro r w' v;refine ⟨by obtain ⟨_,_,_,b,_⟩:=v;exact b,?_⟩;obtain ⟨g,C,K,s⟩:=h.kept (λF E b=>by
  rw [f] at b;simp at b;obtain ⟨b,k⟩:=b;rw [b,k]) v (C9 M dn us (by omega))
 refine ⟨S,D,g,_,U,C,?_,s⟩;rintro q (b|b)
 .exact zR (zR b)
 .exact (K q b).imp (λk=>zZ k) id
variable {R:Nat->Prop} {Q6:zV}
def nr (n:Nat) (h:n<=100):wrap64 ((n:Int)+1 - 1)=(n:Int)/\wrap64 ((n:Int)+1)=(n:Int)+1:=by
 unfold wrap64;omega
def PR (l d:List (List Wr)) (gf cf P:Nat) (at_:Option zD) (h:fx w e S D σ M (zS gf (G l+1) cf) (B at_ (G d) P) Z (l++[us]) d gr false) :
  zC prog 101 #[zK (A (X e 1)),zK (A (X e 2)),zK (A (X e 3))] w λr w'=>r=zP (J 0)/\gm e (Ft S e D (zS gf (G l+1) cf) (B at_ (G d) P) Z) (jd e D (zS gf (G l+1) cf) (B at_ (G d) P) Z) (aU us σ) M l (d++[dz us σ]) gr false w w':=by
 obtain ⟨hf,Nf,r1,r2,r3,he⟩:=h.ph.row;obtain ⟨⟨e0,e1,e2,e3,e4,e5⟩,⟨z0,z1,z2,z3,z4,z5⟩,od⟩:=bJ he;obtain ⟨i1,gi,qh,qi,pD⟩:=fe mV;obtain ⟨o,y,g⟩:=h.rd;obtain ⟨Nt,g',ht⟩:=h.ru;have hM:=h.hM;have JX:=h.len;simp only [b6,sA] at JX;have R:cO e D w S (o (G l)) (y (G l)) us:=(by have:=g.bk (G l) (by simp);rw [lC,qx (aG _)] at this;simpa using this);have Tb:w.ownsRow 0 151 1 (zS gf (G l+1) cf) (G l+1) ((List.range (G l+1)).map λj=>jt (o j) (y j)):=(by have:=g.own;rw [b6,sA] at this;exact this);have yR:w.cell? (X gf (G l))=A (.func (.func (o (G l))) #[] (y (G l))):=(by have:=Tb.cellAt (G l) (by simp);rw [this,kn,List.getElem?_range (by simp)];rfl);have bl:=R.enters;have ct:gf≠e:=(g.ob gf rfl).2.1;have an:at_≠none->(B at_ (G d) P).ownBlock≠A gf:=λ_ E=>h.du gf rfl E;have U:=g.lt gf rfl;have iL:=I (show ∀ (s:Nat) (f:Array zV) (w2:zW),(∃ S':Nat->Prop,(∀ q,S q->S' q)/\(∀ q,S' q->S q\/w.heap.size<=q)/\fx w2 e S' D (aU us σ) M (zS gf (G l+1) cf) (B at_ (G d) P) Z (l++[us]) d gr false/\cO e D w2 S' s f (dz us σ)/\Ks (λq=>q=e\/D q) w w2)->∀ (L b:Nat) (w3:zW),w3.ownsRow 0 151 1 (zS L (G d+1) b) (G d+1) (((List.range (G d)).map λj=>jt (Nt j) (g' j))++[.func (.func s) #[] f])->(w2.alloc (zM #[.func (.func s) #[] f] 151)).grownBy w3 (B at_ (G d) P).ownBlock->((B at_ (G d) P).ownBlock=A L\/L=w2.heap.size+1)->w2.ownsRow 0 151 1 (B at_ (G d) P) (G d) ((List.range (G d)).map λj=>jt (Nt j) (g' j)) ->
   ∃ Y c2,w3.heap[e]?=A (zM #[B Y (aU us σ).ord.length c2,J M,(zS gf (G l+1) cf),(B at_ (G d) P),zF false,Z] 108 (0,0))/\(∀ q,q≠e->True)/\zC prog 136 #[zS gf (G l+1) cf,J (G l),J ((G l:Int)+1)] (w3.setCell (X e 3) (zS L (G d+1) b)) λr T=>r=zP (zS gf (G l) cf)/\Hid (T.heap[e]?=A (zM #[B Y (aU us σ).ord.length c2,J M,(zS gf (G l+1) cf),(zS L (G d+1) b),zF false,Z] 108 (0,0)))/\Hid (gm e (Ft S e D (zS gf (G l+1) cf) (B at_ (G d) P) Z) (jd e D (zS gf (G l+1) cf) (B at_ (G d) P) Z) (aU us σ) M l (d++[dz us σ]) gr false w (T.setCell (X e 2) (zS gf (G l) cf))) by
  rintro s f w2 ⟨S',s0,s1,a,ao,C⟩ L b w3 hq n c br;obtain ⟨Y,c2,k1,k2,k3,p⟩:=a.ph.row;have Cm:=C.size;have oU:=n.size;simp at oU;have k:Ks (λq=>(B at_ (G d) P).ownBlock=A q) w2 w3:=(by refine ⟨n.os,n.tape,n.output,by omega,λq F hn=>?_⟩;rw [n.block q (by simp;omega) (λh=>hn h.symm),cj _ _ _ F]);have D9:∀ q,S q->¬ (q=e\/D q):=h.ph.notP;have al:∀ q,S q->w2.heap[q]?=w.heap[q]?:=λq F=>C.block q (h.ph.still q F) (D9 q F);have mv:∀ {v:zV} {V:List (List Wr)} {N:Nat->Nat} {cs:Nat->Array zV},dP w S e D v V N cs->dP w2 S' e D v V N cs:=λ{v V N cs} H=>(H.keep C al λq F K=>by
   rcases K with K|K
   .exact (H.ob q F).2.1 K
   .exact (H.ob q F).2.2 K).wide s0 (λ_ h=>h) λq F=>⟨λhs=>by
    rcases s1 q hs with K|K
    .exact (H.ob q F).1 K
    .have:=H.lt q F;omega,(H.ob q F).2.2⟩
  have QT:=mv ht;have ax:=mv g;obtain ⟨Ng,bj,hg⟩:=h.rg;have Jy:=mv hg;have t:∀ q,S' q->q≠e:=λq F e'=>a.ph.eS (e'▸F);have aa:(B at_ (G d) P).ownBlock≠A e:=λE=>(ht.ob e E).2.1 rfl;have h2:e<w2.heap.size:=(by omega);have hv:(B at_ (G d) P).ownBlock=(B (A (yh L)) (G d+1) b).ownBlock\/∃ q,(B (A (yh L)) (G d+1) b).ownBlock=A q/\w2.heap.size<=q:=(by
    rcases c with E|E
    .exact zR E
    .exact zZ ⟨L,rfl,by omega⟩);have ac:(B at_ (G d) P).ownBlock≠A gf:=λE=>h.du gf rfl E;have Rs:L≠gf:=λE=>(by
    rcases c with K|K
    .exact ac (by rw [K,E])
    .omega);have ar:Z.ownBlock≠A L:=λE=>by
   rcases c with K|K
   .exact h.ug L K E
   .have:=Jy.lt L E;omega
  have z:w3.heap[e]?=A (zM #[B Y (aU us σ).ord.length c2,J M,(zS gf (G l+1) cf),(B at_ (G d) P),zF false,Z] 108 (0,0)):=(k.block e h2 aa).t p;have Q4:∀ q,S' q->w3.heap[q]?=w2.heap[q]?:=λq F=>k.block q (a.ph.still q F) λE=>(QT.ob q E).1 F;have a3:=(QT.snoc ao a.ph.still h2 (λq F=>(a.ph.bX q F).lt) n hq hv).tF t 3 (zS L (G d+1) b);have x:=(ax.keep k Q4 (λq F E=>by simp [Value.ownBlock] at F;subst F;exact ac E)).tF t 3 (zS L (G d+1) b);have ay:=(Jy.keep k Q4 (λq F E=>h.ug q E F)).tF t 3 (zS L (G d+1) b);have wJ:cK w3 S' e D (aU us σ) (J M) (zS gf (G l+1) cf) (B at_ (G d) P) (zF false) Z 108:=a.ph.same (by
   rintro q (E|rfl|E)
   .exact Q4 q E
   .exact k.block _ h2 aa
   .exact k.block q (a.ph.bX q E).lt λK=>(QT.ob q K).2.2 E) k.size
  have a0:Ks (λq=>q=e) w3 (w3.setCell (X e 3) (zS L (G d+1) b)):=(Ks.refl (λq=>q=e) w3).set e 3 _ rfl;have O:cK (w3.setCell (X e 3) (zS L (G d+1) b)) S' e D (aU us σ) (J M) (zS gf (G l+1) cf) (zS L (G d+1) b) (zF false) Z 108:=wJ.beside a0 λhf Nf E=>(aj E 3 _).t rfl;have k4:(w3.setCell (X e 3) (zS L (G d+1) b)).heap[e]?=A (zM #[B Y (aU us σ).ord.length c2,J M,(zS gf (G l+1) cf),(zS L (G d+1) b),zF false,Z] 108 (0,0)):=(aj z 3 _).t rfl;generalize a5:w3.setCell (X e 3) (zS L (G d+1) b)=u at *;refine ⟨Y,c2,z,λ_ _=>trivial,?_⟩;have am:u.ownsRow 0 151 1 (zS gf (G l+1) cf) (G l+1) ((List.range (G l+1)).map λj=>jt (o j) (y j)):=(by have:=x.own;rw [b6,sA] at this;exact this);refine (zf 0 gf cf (G l) (G l) _ u am (aG _) (by omega) (λv hv=>by
   obtain ⟨j,_,rfl⟩:=bU.1 hv;rfl)).m ?_
  rintro r T ⟨rfl,m,a1⟩;have Q5:e<u.heap.size:=(cz.1 k4).1;have au:=(m.block e Q5 (λE=>ct E.symm)).t k4;have h1:∀ q,S' q->T.heap[q]?=u.heap[q]?:=λq F=>m.block q (O.still q F) λE=>(x.ob gf rfl).1 (E▸F);have JV:cK T S' e D (aU us σ) (J M) (zS gf (G l+1) cf) (zS L (G d+1) b) (zF false) Z 108:=O.same (by
   rintro q (E|rfl|E)
   .exact h1 q E
   .exact m.block _ Q5 (λE=>ct E.symm)
   .exact m.block q (O.bX q E).lt λK=>(x.ob gf rfl).2.2 (K▸E)) m.size
  have Q6:Ks (λq=>q=e) T (T.setCell (X e 2) (zS gf (G l) cf)):=(Ks.refl (λq=>q=e) T).set e 2 _ rfl;have av:(l++[us]).eraseIdx (G l)=l:=(by simp [List.eraseIdx_append_of_length_le]);have w4:=(x.erase (w2:=T) (v':=zS gf (G l) cf) (i:=G l) (by simp) h1 (by
   rw [b6,sA,Nat.add_sub_cancel];exact a1) rfl).tF t 2 (zS gf (G l) cf)
  rw [av] at w4;have a4:=(a3.keep m h1 (λq F E=>by simp [Value.ownBlock] at F;subst F;exact Rs E)).tF t 2 (zS gf (G l) cf);have aJ:=(ay.keep m h1 (λq F E=>h.dg q (by rw [E];rfl) F)).tF t 2 (zS gf (G l) cf);refine ⟨rfl,au,S',D,(zS gf (G l) cf),(zS L (G d+1) b),Z,⟨JV.beside Q6 λhf Nf E=>(aj E 2 _).t rfl,⟨_,_,w4⟩,⟨_,_,a4⟩,⟨_,_,aJ⟩,λq F E=>?_,λq F E=>?_,λq F E=>?_,hM,by simp;omega⟩,?_,?_⟩
  .simp [Value.ownBlock] at F E;exact Rs (by omega)
  .exact h.dg q F E
  .simp [Value.ownBlock] at F;subst F;exact ar E
  .rintro q (E|E|E|E|E|E)
   .exact (s1 q E).imp (λK=>zR K) id
   .exact zR (zZ (zR E))
   .exact zR (zZ (zZ (zR E)))
   .exact zR (zZ (zZ (zZ (zR E))))
   .rcases hv with K|⟨bv,K,h3⟩
    .exact zR (zZ (zZ (zZ (zZ (zR (by rw [K];exact E))))))
    .rw [K] at E;cases E;exact zZ (by omega)
   .exact zR (zZ (zZ (zZ (zZ (zZ E)))))
  .have kk:Ks (jd e D (zS gf (G l+1) cf) (B at_ (G d) P) Z) w w3:=(C.wide λq F=>by
    rcases F with E|E
    .exact zR E
    .exact zZ (zR E)).t (k.wide λq F=>zZ (zZ (zZ (zR F))))
   have a8:Ks (jd e D (zS gf (G l+1) cf) (B at_ (G d) P) Z) w u:=by rw [<- a5];exact kk.t (((Ks.refl (λq=>q=e) w3).set e 3 _ rfl).wide λq F=>zR F)
   exact (a8.t (m.wide λq F=>zZ (zZ (zR (by rw [show q=gf from F];rfl))))).t (Q6.wide λq F=>zR F))
 have W:=I (h.called R w.drew (aM _ _).drew);have HT:=I ht;have ak:=I h;have ag:=I Tb;have bn:G l<=6:=(by omega);have bs:G d<=6:=(by omega);have bu:wrap64 ((G l:Int)+1 - 1)=(G l:Int):=(nr (G l) (by omega)).1;have a9:wrap64 ((G l:Int)+1)=(G l:Int)+1:=(nr (G l) (by omega)).2;have N4:(G l:Int)<(G l:Int)+1:=Int.lt_succ _;have PS:¬ (G l:Int)<0:=Int.not_lt.2 (mF _);have HE:=I he;generalize bk:o (G l)=N1 at *;generalize ba:y (G l)=cs1 at *;clear h g ht R Tb r1 r2 r3 he JX an hM;go_in;go_wp2_with fail;have BI:=I (W.o.m (R':=λr w2=>∃ s f,r=zP (.func (.func s) #[] f)/\Hid (∃ S':Nat->Prop,(∀ q,S q->S' q)/\(∀ q,S' q->S q\/w.heap.size<=q)/\fx w2 e S' D (aU us σ) M (zS gf (G l+1) cf) (B at_ (G d) P) Z (l++[us]) d gr false/\cO e D w2 S' s f (dz us σ)/\Ks (λq=>q=e\/D q) w w2)/\Hid (w2.ownsRow 0 151 1 (B at_ (G d) P) (G d) ((List.range (G d)).map λj=>jt (Nt j) (g' j)))/\Hid (w2.cell? (X e 2)=A (zS gf (G l+1) cf)/\w2.cell? (X e 3)=A (B at_ (G d) P))/\w2.cell? (X gf (G l))=A (.func (.func N1) #[] cs1)/\w.heap.size<=w2.heap.size) (by
  rintro r w2 ⟨s,f,S',rfl,q0,q1,q2,q3,q4⟩;have C:Ks (λq=>q=e\/D q) w w2:=(Ks.of (aM _ _).drew).t q4;obtain ⟨Y,c2,_,_,_,p⟩:=q2.ph.row;refine ⟨s,f,rfl,⟨S',q0,q1,q2,q3,C⟩,iy HT.o.own C λq F K=>?_,⟨(bJ p).1.2.2.1,(bJ p).1.2.2.2.1⟩,?_,C.size⟩
  .rcases K with K|K
   .exact (HT.o.ob q F).2.1 K
   .exact (HT.o.ob q F).2.2 K
  .refine (nu (a:=X gf (G l)) (C.block gf U ?_)).t yR;rintro (K|K)
   .exact ct K
   .obtain ⟨N,cs,H⟩:=ak.o.rd;exact (H.ob gf rfl).2.2 K))
 clear W ag
 go_region_law (first|(refine yw _ (by rfl) (.tmp 24) (.tmp 32) 104 (by rfl) 0 151 i1 .nilFunc 1 8 underlying104 gi qh qi pD rfl (by decide) (B at_ (G d) P) (G d) _ (by rfl) (B2.o.alloc _) (yh w2.heap.size) 1 1 [.func (.func s) #[] f] (by rfl) rfl (λq ad F=>bC w2 [.func (.func s) #[] f] 151 q ad F) (λad hu=>by simp at hu;subst hu;rfl) (by omega) (by unfold maxLen;omega) (by omega) (by omega) (w2.heap.size+1) (by simp) ?_;intro L b w3 hq Q0 c vQ;obtain ⟨Y,c2,z,_,QV⟩:=iL.o s f w2 B1.o L b w3 hq Q0 c B2.o;obtain ⟨⟨p0,p1,p2,p3,p4,p5⟩,⟨x0,x1,x2,x3,x4,x5⟩,EM⟩:=bJ z;have af:=I QV;clear hq Q0 c QV z)|(go_simp;go_at_fn N1;refine BI.o.m ?_;rintro r w2 ⟨s,f,rfl,B1,B2,B3,n2,a2⟩;obtain ⟨m2,m3⟩:=B3.o;have h2:=bG od a2))
 all_goals go_wp2_with (go_at_call 136;refine af.o.m ?_;rintro r T ⟨rfl,E5,F5⟩;obtain ⟨⟨k0,k1,k2,k3,p,k5⟩,⟨t0,t1,t2,t3,t4,t5⟩,bb⟩:=bJ E5.o)
 all_goals refine aK (v:=J 0) (by simp [results,results101,go_sem]) (by simp [go_sem]) ?_
 all_goals exact ⟨rfl,F5.o⟩
def PU (l d:List (List Wr)) (gf cf P:Nat) (at_:Option zD) (h:fx w e S D σ M (B at_ (G d) P) (zS gf (G l+1) cf) Z d (l++[us]) gr false) :
  zC prog 101 #[zK (A (X e 1)),zK (A (X e 3)),zK (A (X e 2))] w λr w'=>r=zP (J 0)/\gm e (Ft S e D (B at_ (G d) P) (zS gf (G l+1) cf) Z) (jd e D (B at_ (G d) P) (zS gf (G l+1) cf) Z) (aU us σ) M (d++[dz us σ]) l gr false w w':=by
 obtain ⟨hf,Nf,r1,r2,r3,he⟩:=h.ph.row;obtain ⟨⟨e0,e1,e2,e3,e4,e5⟩,⟨z0,z1,z2,z3,z4,z5⟩,od⟩:=bJ he;obtain ⟨i1,gi,qh,qi,pD⟩:=fe mV;obtain ⟨o,y,g⟩:=h.ru;obtain ⟨Nt,g',ht⟩:=h.rd;have hM:=h.hM;have JX:=h.len;simp only [b6,sA] at JX;have R:cO e D w S (o (G l)) (y (G l)) us:=(by have:=g.bk (G l) (by simp);rw [lC,qx (aG _)] at this;simpa using this);have Tb:w.ownsRow 0 151 1 (zS gf (G l+1) cf) (G l+1) ((List.range (G l+1)).map λj=>jt (o j) (y j)):=(by have:=g.own;rw [b6,sA] at this;exact this);have yR:w.cell? (X gf (G l))=A (.func (.func (o (G l))) #[] (y (G l))):=(by have:=Tb.cellAt (G l) (by simp);rw [this,kn,List.getElem?_range (by simp)];rfl);have bl:=R.enters;have ct:gf≠e:=(g.ob gf rfl).2.1;have an:at_≠none->(B at_ (G d) P).ownBlock≠A gf:=λ_ E=>h.du gf E rfl;have U:=g.lt gf rfl;have iL:=I (show ∀ (s:Nat) (f:Array zV) (w2:zW),(∃ S':Nat->Prop,(∀ q,S q->S' q)/\(∀ q,S' q->S q\/w.heap.size<=q)/\fx w2 e S' D (aU us σ) M (B at_ (G d) P) (zS gf (G l+1) cf) Z d (l++[us]) gr false/\cO e D w2 S' s f (dz us σ)/\Ks (λq=>q=e\/D q) w w2)->∀ (L b:Nat) (w3:zW),w3.ownsRow 0 151 1 (zS L (G d+1) b) (G d+1) (((List.range (G d)).map λj=>jt (Nt j) (g' j))++[.func (.func s) #[] f])->(w2.alloc (zM #[.func (.func s) #[] f] 151)).grownBy w3 (B at_ (G d) P).ownBlock->((B at_ (G d) P).ownBlock=A L\/L=w2.heap.size+1)->w2.ownsRow 0 151 1 (B at_ (G d) P) (G d) ((List.range (G d)).map λj=>jt (Nt j) (g' j)) ->
   ∃ Y c2,w3.heap[e]?=A (zM #[B Y (aU us σ).ord.length c2,J M,(B at_ (G d) P),(zS gf (G l+1) cf),zF false,Z] 108 (0,0))/\(∀ q,q≠e->True)/\zC prog 136 #[zS gf (G l+1) cf,J (G l),J ((G l:Int)+1)] (w3.setCell (X e 2) (zS L (G d+1) b)) λr T=>r=zP (zS gf (G l) cf)/\Hid (T.heap[e]?=A (zM #[B Y (aU us σ).ord.length c2,J M,(zS L (G d+1) b),(zS gf (G l+1) cf),zF false,Z] 108 (0,0)))/\Hid (gm e (Ft S e D (B at_ (G d) P) (zS gf (G l+1) cf) Z) (jd e D (B at_ (G d) P) (zS gf (G l+1) cf) Z) (aU us σ) M (d++[dz us σ]) l gr false w (T.setCell (X e 3) (zS gf (G l) cf))) by
  rintro s f w2 ⟨S',s0,s1,a,ao,C⟩ L b w3 hq n c br;obtain ⟨Y,c2,k1,k2,k3,p⟩:=a.ph.row;have Cm:=C.size;have oU:=n.size;simp at oU;have k:Ks (λq=>(B at_ (G d) P).ownBlock=A q) w2 w3:=(by refine ⟨n.os,n.tape,n.output,by omega,λq F hn=>?_⟩;rw [n.block q (by simp;omega) (λh=>hn h.symm),cj _ _ _ F]);have D9:∀ q,S q->¬ (q=e\/D q):=h.ph.notP;have al:∀ q,S q->w2.heap[q]?=w.heap[q]?:=λq F=>C.block q (h.ph.still q F) (D9 q F);have mv:∀ {v:zV} {V:List (List Wr)} {N:Nat->Nat} {cs:Nat->Array zV},dP w S e D v V N cs->dP w2 S' e D v V N cs:=λ{v V N cs} H=>(H.keep C al λq F K=>by
   rcases K with K|K
   .exact (H.ob q F).2.1 K
   .exact (H.ob q F).2.2 K).wide s0 (λ_ h=>h) λq F=>⟨λhs=>by
    rcases s1 q hs with K|K
    .exact (H.ob q F).1 K
    .have:=H.lt q F;omega,(H.ob q F).2.2⟩
  have QT:=mv ht;have ax:=mv g;obtain ⟨Ng,bj,hg⟩:=h.rg;have Jy:=mv hg;have t:∀ q,S' q->q≠e:=λq F e'=>a.ph.eS (e'▸F);have aa:(B at_ (G d) P).ownBlock≠A e:=λE=>(ht.ob e E).2.1 rfl;have h2:e<w2.heap.size:=(by omega);have hv:(B at_ (G d) P).ownBlock=(B (A (yh L)) (G d+1) b).ownBlock\/∃ q,(B (A (yh L)) (G d+1) b).ownBlock=A q/\w2.heap.size<=q:=(by
    rcases c with E|E
    .exact zR E
    .exact zZ ⟨L,rfl,by omega⟩);have ac:(B at_ (G d) P).ownBlock≠A gf:=λE=>h.du gf E rfl;have Rs:L≠gf:=λE=>(by
    rcases c with K|K
    .exact ac (by rw [K,E])
    .omega);have ar:Z.ownBlock≠A L:=λE=>by
   rcases c with K|K
   .exact h.dg L K E
   .have:=Jy.lt L E;omega
  have z:w3.heap[e]?=A (zM #[B Y (aU us σ).ord.length c2,J M,(B at_ (G d) P),(zS gf (G l+1) cf),zF false,Z] 108 (0,0)):=(k.block e h2 aa).t p;have Q4:∀ q,S' q->w3.heap[q]?=w2.heap[q]?:=λq F=>k.block q (a.ph.still q F) λE=>(QT.ob q E).1 F;have a3:=(QT.snoc ao a.ph.still h2 (λq F=>(a.ph.bX q F).lt) n hq hv).tF t 2 (zS L (G d+1) b);have x:=(ax.keep k Q4 (λq F E=>by simp [Value.ownBlock] at F;subst F;exact ac E)).tF t 2 (zS L (G d+1) b);have ay:=(Jy.keep k Q4 (λq F E=>h.dg q E F)).tF t 2 (zS L (G d+1) b);have wJ:cK w3 S' e D (aU us σ) (J M) (B at_ (G d) P) (zS gf (G l+1) cf) (zF false) Z 108:=a.ph.same (by
   rintro q (E|rfl|E)
   .exact Q4 q E
   .exact k.block _ h2 aa
   .exact k.block q (a.ph.bX q E).lt λK=>(QT.ob q K).2.2 E) k.size
  have a0:Ks (λq=>q=e) w3 (w3.setCell (X e 2) (zS L (G d+1) b)):=(Ks.refl (λq=>q=e) w3).set e 2 _ rfl;have O:cK (w3.setCell (X e 2) (zS L (G d+1) b)) S' e D (aU us σ) (J M) (zS L (G d+1) b) (zS gf (G l+1) cf) (zF false) Z 108:=wJ.beside a0 λhf Nf E=>(aj E 2 _).t rfl;have k4:(w3.setCell (X e 2) (zS L (G d+1) b)).heap[e]?=A (zM #[B Y (aU us σ).ord.length c2,J M,(zS L (G d+1) b),(zS gf (G l+1) cf),zF false,Z] 108 (0,0)):=(aj z 2 _).t rfl;generalize a5:w3.setCell (X e 2) (zS L (G d+1) b)=u at *;refine ⟨Y,c2,z,λ_ _=>trivial,?_⟩;have am:u.ownsRow 0 151 1 (zS gf (G l+1) cf) (G l+1) ((List.range (G l+1)).map λj=>jt (o j) (y j)):=(by have:=x.own;rw [b6,sA] at this;exact this);refine (zf 0 gf cf (G l) (G l) _ u am (aG _) (by omega) (λv hv=>by
   obtain ⟨j,_,rfl⟩:=bU.1 hv;rfl)).m ?_
  rintro r T ⟨rfl,m,a1⟩;have Q5:e<u.heap.size:=(cz.1 k4).1;have au:=(m.block e Q5 (λE=>ct E.symm)).t k4;have h1:∀ q,S' q->T.heap[q]?=u.heap[q]?:=λq F=>m.block q (O.still q F) λE=>(x.ob gf rfl).1 (E▸F);have JV:cK T S' e D (aU us σ) (J M) (zS L (G d+1) b) (zS gf (G l+1) cf) (zF false) Z 108:=O.same (by
   rintro q (E|rfl|E)
   .exact h1 q E
   .exact m.block _ Q5 (λE=>ct E.symm)
   .exact m.block q (O.bX q E).lt λK=>(x.ob gf rfl).2.2 (K▸E)) m.size
  have Q6:Ks (λq=>q=e) T (T.setCell (X e 3) (zS gf (G l) cf)):=(Ks.refl (λq=>q=e) T).set e 3 _ rfl;have av:(l++[us]).eraseIdx (G l)=l:=(by simp [List.eraseIdx_append_of_length_le]);have w4:=(x.erase (w2:=T) (v':=zS gf (G l) cf) (i:=G l) (by simp) h1 (by
   rw [b6,sA,Nat.add_sub_cancel];exact a1) rfl).tF t 3 (zS gf (G l) cf)
  rw [av] at w4;have a4:=(a3.keep m h1 (λq F E=>by simp [Value.ownBlock] at F;subst F;exact Rs E)).tF t 3 (zS gf (G l) cf);have aJ:=(ay.keep m h1 (λq F E=>h.ug q (by rw [E];rfl) F)).tF t 3 (zS gf (G l) cf);refine ⟨rfl,au,S',D,(zS L (G d+1) b),(zS gf (G l) cf),Z,⟨JV.beside Q6 λhf Nf E=>(aj E 3 _).t rfl,⟨_,_,a4⟩,⟨_,_,w4⟩,⟨_,_,aJ⟩,λq F E=>?_,λq F E=>?_,λq F E=>?_,hM,by simp;omega⟩,?_,?_⟩
  .simp [Value.ownBlock] at F E;exact Rs (by omega)
  .simp [Value.ownBlock] at F;subst F;exact ar E
  .exact h.ug q F E
  .rintro q (E|E|E|E|E|E)
   .exact (s1 q E).imp (λK=>zR K) id
   .exact zR (zZ (zR E))
   .exact zR (zZ (zZ (zR E)))
   .rcases hv with K|⟨bv,K,h3⟩
    .exact zR (zZ (zZ (zZ (zR (by rw [K];exact E)))))
    .rw [K] at E;cases E;exact zZ (by omega)
   .exact zR (zZ (zZ (zZ (zZ (zR E)))))
   .exact zR (zZ (zZ (zZ (zZ (zZ E)))))
  .have kk:Ks (jd e D (B at_ (G d) P) (zS gf (G l+1) cf) Z) w w3:=(C.wide λq F=>by
    rcases F with E|E
    .exact zR E
    .exact zZ (zR E)).t (k.wide λq F=>zZ (zZ (zR F)))
   have a8:Ks (jd e D (B at_ (G d) P) (zS gf (G l+1) cf) Z) w u:=by rw [<- a5];exact kk.t (((Ks.refl (λq=>q=e) w3).set e 2 _ rfl).wide λq F=>zR F)
   exact (a8.t (m.wide λq F=>zZ (zZ (zZ (zR (by rw [show q=gf from F];rfl)))))).t (Q6.wide λq F=>zR F))
 have W:=I (h.called R w.drew (aM _ _).drew);have HT:=I ht;have ak:=I h;have ag:=I Tb;have bn:G l<=6:=(by omega);have bs:G d<=6:=(by omega);have bu:wrap64 ((G l:Int)+1 - 1)=(G l:Int):=(nr (G l) (by omega)).1;have a9:wrap64 ((G l:Int)+1)=(G l:Int)+1:=(nr (G l) (by omega)).2;have N4:(G l:Int)<(G l:Int)+1:=Int.lt_succ _;have PS:¬ (G l:Int)<0:=Int.not_lt.2 (mF _);have HE:=I he;generalize bk:o (G l)=N1 at *;generalize ba:y (G l)=cs1 at *;clear h g ht R Tb r1 r2 r3 he JX an hM;go_in;go_wp2_with fail;have BI:=I (W.o.m (R':=λr w2=>∃ s f,r=zP (.func (.func s) #[] f)/\Hid (∃ S':Nat->Prop,(∀ q,S q->S' q)/\(∀ q,S' q->S q\/w.heap.size<=q)/\fx w2 e S' D (aU us σ) M (B at_ (G d) P) (zS gf (G l+1) cf) Z d (l++[us]) gr false/\cO e D w2 S' s f (dz us σ)/\Ks (λq=>q=e\/D q) w w2)/\Hid (w2.ownsRow 0 151 1 (B at_ (G d) P) (G d) ((List.range (G d)).map λj=>jt (Nt j) (g' j)))/\Hid (w2.cell? (X e 2)=A (B at_ (G d) P)/\w2.cell? (X e 3)=A (zS gf (G l+1) cf))/\w2.cell? (X gf (G l))=A (.func (.func N1) #[] cs1)/\w.heap.size<=w2.heap.size) (by
  rintro r w2 ⟨s,f,S',rfl,q0,q1,q2,q3,q4⟩;have C:Ks (λq=>q=e\/D q) w w2:=(Ks.of (aM _ _).drew).t q4;obtain ⟨Y,c2,_,_,_,p⟩:=q2.ph.row;refine ⟨s,f,rfl,⟨S',q0,q1,q2,q3,C⟩,iy HT.o.own C λq F K=>?_,⟨(bJ p).1.2.2.1,(bJ p).1.2.2.2.1⟩,?_,C.size⟩
  .rcases K with K|K
   .exact (HT.o.ob q F).2.1 K
   .exact (HT.o.ob q F).2.2 K
  .refine (nu (a:=X gf (G l)) (C.block gf U ?_)).t yR;rintro (K|K)
   .exact ct K
   .obtain ⟨N,cs,H⟩:=ak.o.ru;exact (H.ob gf rfl).2.2 K))
 clear W ag
 go_region_law (first|(refine yw _ (by rfl) (.tmp 24) (.tmp 32) 104 (by rfl) 0 151 i1 .nilFunc 1 8 underlying104 gi qh qi pD rfl (by decide) (B at_ (G d) P) (G d) _ (by rfl) (B2.o.alloc _) (yh w2.heap.size) 1 1 [.func (.func s) #[] f] (by rfl) rfl (λq ad F=>bC w2 [.func (.func s) #[] f] 151 q ad F) (λad hu=>by simp at hu;subst hu;rfl) (by omega) (by unfold maxLen;omega) (by omega) (by omega) (w2.heap.size+1) (by simp) ?_;intro L b w3 hq Q0 c vQ;obtain ⟨Y,c2,z,_,QV⟩:=iL.o s f w2 B1.o L b w3 hq Q0 c B2.o;obtain ⟨⟨p0,p1,p2,p3,p4,p5⟩,⟨x0,x1,x2,x3,x4,x5⟩,EM⟩:=bJ z;have af:=I QV;clear hq Q0 c QV z)|(go_simp;go_at_fn N1;refine BI.o.m ?_;rintro r w2 ⟨s,f,rfl,B1,B2,B3,n2,a2⟩;obtain ⟨m2,m3⟩:=B3.o;have h2:=bG od a2))
 all_goals go_wp2_with (go_at_call 136;refine af.o.m ?_;rintro r T ⟨rfl,E5,F5⟩;obtain ⟨⟨k0,k1,k2,k3,p,k5⟩,⟨t0,t1,t2,t3,t4,t5⟩,bb⟩:=bJ E5.o)
 all_goals refine aK (v:=J 0) (by simp [results,results101,go_sem]) (by simp [go_sem]) ?_
 all_goals exact ⟨rfl,F5.o⟩
variable {Q6:Nat->Prop} {R:zV}
def Fi (h:fx w e S D σ M Z U R dn ud gr true) (o:G gr<1000000000000) :
  zC prog 72 #[R] ((w.setCell (X e 4) (zF false)).setCell (X e 5) (zN)) λr w2=>∃ C E S2,r=zP (.func (.func C) #[] E)/\fx w2 e S2 D σ M Z U (zN) dn ud [] false/\cO e D w2 S2 C E (fY gr)/\(∀ q,Ft S2 e D Z U (zN) q->Ft S e D Z U R q\/w.heap.size<=q)/\Ks (jd e D Z U R) w w2:=by
 obtain ⟨j,N,cs,d⟩:=h.ended;have i:Ks (λq=>q=e) w ((w.setCell (X e 4) (zF false)).setCell (X e 5) (zN)):=((Ks.refl (λq=>q=e) w).set e 4 _ rfl).set e 5 _ rfl;refine (allRow d j.ph.still (by omega)).m ?_;rintro r w2 ⟨C,E,S2,rfl,g,m,n,F,k⟩;have l:((w.setCell (X e 4) (zF false)).setCell (X e 5) (zN)).heap.size=w.heap.size:=(by simp);have f:∀ q,S2 q->S q\/R.ownBlock=A q\/w.heap.size<=q:=λq c=>by
  rcases F q c with a|a|a
  .exact zR a
  .exact zZ (zR a)
  .exact zZ (zZ (by omega))
 refine ⟨C,E,S2,rfl,(j.next g).PQ n λq c=>?_,k,?_,(i.wide λq c=>zR c).t (Ks.of g)⟩
 .rcases F q c with a|a|a
  .exact zR a
  .refine zZ ⟨by have:=d.lt q a;have:=g.size;omega,?_⟩;rintro (b|b|b|b|b)
   .exact (d.ob q a).2.1 b
   .exact (d.ob q a).2.2 b
   .exact h.dg q b a
   .exact h.ug q b a
   .simp [Value.ownBlock] at b
  .refine zZ ⟨by omega,λb=>?_⟩;have:=j.ltW q b;omega
 .rintro q (a|a|a|a|a|a)
  .rcases f q a with b|b|b
   .exact zR (zR b)
   .exact zR (zZ (zZ (zZ (zZ (zZ b)))))
   .exact zZ b
  .exact zR (zZ (zR a))
  .exact zR (zZ (zZ (zR a)))
  .exact zR (zZ (zZ (zZ (zR a))))
  .exact zR (zZ (zZ (zZ (zZ (zR a)))))
  .simp [Value.ownBlock] at a
def gm.t {u l p s:Nat->Prop} {g b c:List (List Wr)} {f:Bool} {t:bg} (h:gm e p s t M g b c f w1 w') (hF:∀ q,p q->u q\/w.heap.size<=q) (y:∀ q,s q->l q\/w.heap.size<=q) (a:Ks l w w1):gm e u l t M g b c f w w':=by
 obtain ⟨S',Q6,k,n,m,v,x,i⟩:=h;refine ⟨S',Q6,k,n,m,v,λq j=>?_,⟨i.os.t a.os,i.tape.t a.tape,i.output.t a.output,bf a.size i.size,λq j o=>?_⟩⟩
 .rcases x q j with d|d
  .exact hF q d
  .exact zZ (bf a.size d)
 .refine (i.block q (bG j a.size) λd=>?_).t (a.block q j o);rcases y q d with r|r
  .exact o r
  .omega
def KQ (h:fx w e S D σ M Z U R dn ud gr true) (P:G gr<1000000000000) :
  zC prog 67 #[zK (A (X e 1))] w λr w'=>r=zP (J 0)/\gm e (Ft S e D Z U R) (jd e D Z U R) σ M (kD M dn (fY gr)) [] [] false w w':=by
 obtain ⟨hf,hk,V,W,Y,E⟩:=h.ph.row;obtain ⟨Ng,QT,F⟩:=h.rg;obtain ⟨c,j,k,rfl⟩:=b7 F.own;have Q0:=I ((RV c j k E).m (R':=λr w1=>r=zP (zp #[B c j k,J 0])/\w1=(w.setCell (X e 4) (zF false)).setCell (X e 5) (zN)) (by
  intro r w1 Q6;simpa [qU] using Q6))
 have Q4:=I ((Fi h P).m (R':=λr w2=>∃ T a,r=zP (.func (.func T) #[] a)/\Hid (zC prog 100 #[zK (A (X e 1)),.func (.func T) #[] a] w2 λr w3=>r=zP (zp #[])/\gm e (Ft S e D Z U (B c j k)) (jd e D Z U (B c j k)) σ M (kD M dn (fY gr)) [] [] false w w3)) (by
  rintro r w2 ⟨T,a,S2,rfl,d,ag,u,y⟩;refine ⟨T,a,rfl,?_⟩;obtain ⟨a2,c2,k1,k2,k3,i⟩:=d.ph.row;obtain ⟨Nd,aa,H⟩:=d.rd;obtain ⟨Nu,Q5,O⟩:=d.ru;obtain ⟨o,C,z,rfl⟩:=b7 H.own;obtain ⟨p,n,s,rfl⟩:=b7 O.own;have QV:=d.len;refine (iS M o C z p n s T a (fY gr) i H ag (λq b=>⟨d.ph.still q b,λN=>d.ph.eS (N▸b)⟩) (λq b=>(d.ph.bX q b).lt) d.hM (by omega)).m ?_;intro r w3 g;refine ⟨by obtain ⟨_,_,_,K,_⟩:=g;exact K,?_⟩;obtain ⟨l,m,N2,f⟩:=d.kept (λa' c' K=>by
   rw [i] at K;simp at K;obtain ⟨K,x⟩:=K;rw [K,x]) g (C9 M dn _ (by omega))
  have h1:gm e (Ft S2 e D (B o C z) (B p n s) (zN)) (jd e D (B o C z) (B p n s) (zN)) σ M (kD M dn (fY gr)) [] [] false w2 w3:=by
   refine ⟨S2,D,l,_,_,m,?_,f⟩;rintro q (K|K)
   .exact zR (zR K)
   .exact (N2 q K).imp (λx=>zZ x) id
  refine h1.t u (λq b=>zR ?_) y;rcases b with K|K|K|K|K
  .exact zR K
  .exact zZ (zR K)
  .exact zZ (zZ (zR K))
  .exact zZ (zZ (zZ (zR K)))
  .simp [Value.ownBlock] at K))
 clear h E F V W Y;go_in;go_wp2_with (first|(go_at_call 71;refine Q0.o.m ?_;rintro r w1 ⟨rfl,rfl⟩)|(go_at_call 72;refine Q4.o.m ?_;rintro r w2 ⟨T,a,rfl,t⟩)|(go_at_call 100;refine t.o.m ?_;rintro r w3 ⟨rfl,b⟩;have L:=I b;clear b));refine aK (v:=J 0) (by simp [results,results67,go_sem]) (by simp [go_sem]) ?_;exact ⟨rfl,L.o⟩
def KS (c:w.heap[e]?=A (zM #[v0,v1,v2,v3,zF false,v5] te (0,0))) (ag:Option zD) (d f:Nat) (a:v5=B ag d f) :
  zC prog 67 #[zK (A (X e 1))] w λr w'=>r=zP (J 10)/\w'=w:=by
 subst a;have b:=I ((RV ag d f c).m (R':=λr w1=>r=zP (zp #[zN,J 10])/\w1=w) (by
  intro r w1 g;simpa [qU] using g))
 clear c;go_in;go_wp2_with (go_at_call 71;refine b.o.m ?_;rintro r w1 ⟨rfl,rfl⟩);refine aK (v:=J 10) (by simp [results,results67,go_sem]) (by simp [go_sem]) ?_;exact ⟨rfl,rfl⟩
def Al (er:Int) (F:zW->Prop) (ag:Option zD) (g j:Nat) (w1:zW) (c:zC prog 71 #[zK (A (X e 1))] w λr w'=>r=zP (zp #[B ag g j,J er])/\w'=w1)
  (b:zC prog 72 #[B ag g j] w1 λr w2=>∃ C E,r=zP (.func (.func C) #[] E)/\(∀ args w,(callFunc C args).run prog w=.ok (.enter C args) w)/\Hid (zC prog C E w2 λr w3=>(∃ i a,r=zP (.func (.func i) #[] a))/\F w3)) :
  zC prog 49 #[zK (A (X e 1))] w λr w'=>r=zP (J er)/\F w':=by
 have d:=I c;have f:=I b;clear c b;go_in;go_wp2_with (first|(go_at_call 71;refine d.o.m ?_;rintro r w1 ⟨rfl,rfl⟩)|(go_at_call 72;refine f.o.m ?_;rintro r w2 ⟨C,E,rfl,m,k⟩)|(go_at_fn C;refine k.o.m ?_;rintro r w3 ⟨⟨i,a,rfl⟩,h⟩;have l:=I h;clear h));refine aK (v:=J er) (by simp [results,results49,go_sem]) (by simp [go_sem]) ?_;exact ⟨rfl,l.o⟩
end
section
variable {S S' S1 O:Nat->Prop} {e:Nat} {D Q6:Nat->Prop} {σ σ0 σ1:bg} {v0 v1 v2 v3 v4 v5 v v':zV} {te:TypeId} {w w' W w1 w2 w3:zW} {V:List (List Wr)} {N:Nat->Nat} {cs:Nat->Array zV} {M:Nat} {Z R U:zV} {dn ud gr:List (List Wr)} {op:Bool} {N1:Nat} {cs1:Array zV} {us:List Wr}
def Fj (of:Nat) (af:Option zD) (b cf:Nat) (a:zV) (c:w.cell? (X e 4)=A (zF true)) (d:w.cell? (X e of)=A (B af b cf)) :
  zC prog 101 #[zK (A (X e 1)),zK (A (X e of)),a] w λr w'=>r=zP (J 9)/\w'=w:=by
 go_in;go_wp2;refine aK (v:=J 9) (by simp [results,results101,go_sem]) (by simp [go_sem]) ?_;exact ⟨rfl,rfl⟩
def Fk (of:Nat) (af:Option zD) (cf:Nat) (a:zV) (c:w.cell? (X e 4)=A (zF false)) (b:w.cell? (X e of)=A (B af 0 cf)) :
  zC prog 101 #[zK (A (X e 1)),zK (A (X e of)),a] w λr w'=>r=zP (J 11)/\w'=w:=by
 go_in;go_wp2;refine aK (v:=J 11) (by simp [results,results101,go_sem]) (by simp [go_sem]) ?_;exact ⟨rfl,rfl⟩
def zg (er:Int) (C:zW->Prop) (h:zC prog 101 #[zK (A (X e 1)),zK (A (X e 2)),zK (A (X e 3))] w.drew λr w'=>r=zP (J er)/\C w') :
  zC prog 68 #[zK (A (X e 1))] w λr w'=>r=zP (J er)/\C w':=by
 have H:=I h;clear h;go_in;go_wp2_with fail
 go_region_with (first|(go_at_call 101;refine H.o.m ?_;rintro r w1 ⟨rfl,a⟩;have b:=I a;clear a))
 all_goals go_wp2
 all_goals refine aK (v:=J er) (by simp [results,results68,go_sem]) (by simp [go_sem]) ?_
 all_goals exact ⟨rfl,b.o⟩
def zh (er:Int) (C:zW->Prop) (h:zC prog 101 #[zK (A (X e 1)),zK (A (X e 3)),zK (A (X e 2))] w.drew λr w'=>r=zP (J er)/\C w') :
  zC prog 69 #[zK (A (X e 1))] w λr w'=>r=zP (J er)/\C w':=by
 have H:=I h;clear h;go_in;go_wp2_with fail
 go_region_with (first|(go_at_call 101;refine H.o.m ?_;rintro r w1 ⟨rfl,a⟩;have b:=I a;clear a))
 all_goals go_wp2
 all_goals refine aK (v:=J er) (by simp [results,results69,go_sem]) (by simp [go_sem]) ?_
 all_goals exact ⟨rfl,b.o⟩
structure Uw where
 σ:bg
 dn:List (List Wr)
 ud:List (List Wr)
 gr:List (List Wr)
 op:Bool
def kE (s:Uw):Nat × Uw:=if s.op=true then (9,s) else match s.dn.getLast? with
 | none=>(11,s)
 | some us=>(0,⟨aU us s.σ,s.dn.dropLast,s.ud++[dz us s.σ],s.gr,false⟩)
def kF (s:Uw):Nat × Uw:=if s.op=true then (9,s) else match s.ud.getLast? with
 | none=>(11,s)
 | some us=>(0,⟨aU us s.σ,s.dn++[dz us s.σ],s.ud.dropLast,s.gr,false⟩)
def gm.uW {F f:Nat->Prop} {g:bg} {d a b:List (List Wr)} {c:Bool} (h:gm e F f g M d a b c w.drew w'):gm e F f g M d a b c w w':=
 h.t (λ_ h=>zR h) (λ_ h=>zR h) (Ks.of (aM _ _).drew)
def wI (h:fx w e S D σ M Z R U dn ud gr op) :
  zC prog 68 #[zK (A (X e 1))] w λr w'=>r=zP (J ((kE ⟨σ,dn,ud,gr,op⟩).1:Int))/\gm e (Ft S e D Z R U) (jd e D Z R U) (kE ⟨σ,dn,ud,gr,op⟩).2.σ M (kE ⟨σ,dn,ud,gr,op⟩).2.dn (kE ⟨σ,dn,ud,gr,op⟩).2.ud (kE ⟨σ,dn,ud,gr,op⟩).2.gr (kE ⟨σ,dn,ud,gr,op⟩).2.op w w':=by
 replace h:=h.next (aM _ _).drew;obtain ⟨a,c,s,t,y,i⟩:=h.ph.row;obtain ⟨⟨u,e1,b,z,g,v⟩,_,_⟩:=bJ i;obtain ⟨x,p,f⟩:=h.rd;obtain ⟨q,j,m⟩:=h.ru;obtain ⟨E,C,rfl⟩:=eM f.own;obtain ⟨F,H,rfl⟩:=eM m.own;unfold kE;cases op with
 | true=>
  simp only [jq];refine zg 9 _ ((Fj 2 E _ C _ g b).m ?_);rintro r w' ⟨rfl,rfl⟩;exact ⟨rfl,(h.self (aM _ _)).uW⟩
 | false=>
  simp only [sY,k8];cases d:dn.getLast? with
  | none=>
   have n:dn=[]:=List.getLast?_eq_none_iff.1 d;subst n;refine zg 11 _ ((Fk 2 E C _ g b).m ?_);rintro r w' ⟨rfl,rfl⟩;exact ⟨rfl,(h.self (aM _ _)).uW⟩
  | some us=>
   obtain ⟨l,rfl⟩:=List.getLast?_eq_some_iff.1 d;obtain ⟨K,o,k,_,_⟩:=f.own.form (by simp);cases k;have:=PR (us:=us) l ud K C H F (by simpa using h);simp only [Bz,b6,sA];exact zg 0 _ (this.m λr w' h=>⟨h.1,h.2.uW⟩)
def wL (h:fx w e S D σ M Z R U dn ud gr op) :
  zC prog 69 #[zK (A (X e 1))] w λr w'=>r=zP (J ((kF ⟨σ,dn,ud,gr,op⟩).1:Int))/\gm e (Ft S e D Z R U) (jd e D Z R U) (kF ⟨σ,dn,ud,gr,op⟩).2.σ M (kF ⟨σ,dn,ud,gr,op⟩).2.dn (kF ⟨σ,dn,ud,gr,op⟩).2.ud (kF ⟨σ,dn,ud,gr,op⟩).2.gr (kF ⟨σ,dn,ud,gr,op⟩).2.op w w':=by
 replace h:=h.next (aM _ _).drew;obtain ⟨a,c,t,u,z,i⟩:=h.ph.row;obtain ⟨⟨v,e1,q,f,g,x⟩,_,_⟩:=bJ i;obtain ⟨y,p,d⟩:=h.ru;obtain ⟨s,j,m⟩:=h.rd;obtain ⟨E,C,rfl⟩:=eM d.own;obtain ⟨F,H,rfl⟩:=eM m.own;unfold kF;cases op with
 | true=>
  simp only [jq];refine zh 9 _ ((Fj 3 E _ C _ g f).m ?_);rintro r w' ⟨rfl,rfl⟩;exact ⟨rfl,(h.self (aM _ _)).uW⟩
 | false=>
  simp only [sY,k8];cases b:ud.getLast? with
  | none=>
   have n:ud=[]:=List.getLast?_eq_none_iff.1 b;subst n;refine zh 11 _ ((Fk 3 E C _ g f).m ?_);rintro r w' ⟨rfl,rfl⟩;exact ⟨rfl,(h.self (aM _ _)).uW⟩
  | some us=>
   obtain ⟨l,rfl⟩:=List.getLast?_eq_some_iff.1 b;obtain ⟨K,o,k,_,_⟩:=d.own.form (by simp);cases k;have:=PU (us:=us) l dn K C H F (by simpa using h);simp only [Bz,b6,sA];exact zh 0 _ (this.m λr w' h=>⟨h.1,h.2.uW⟩)
def Am (h:fx w e S D σ M Z U R dn ud gr true) (m:G gr<1000000000000) :
  zC prog 49 #[zK (A (X e 1))] w λr w'=>r=zP (J 0)/\gm e (Ft S e D Z U R) (jd e D Z U R) (aU (fY gr) σ) M dn ud [] false w w':=by
 obtain ⟨a,h1,E,F,l,j⟩:=h.ph.row;obtain ⟨H,ag,n⟩:=h.rg;obtain ⟨L,g,i,rfl⟩:=b7 n.own;refine Al 0 _ L g i _ ((RV L g i j).m (by
  intro r w1 t;simpa [qU] using t)) ((Fi h m).m ?_)
 rintro r w2 ⟨P,Y,S2,rfl,z,b,x,y⟩;refine ⟨P,Y,rfl,b.enters,(z.called b w2 (aM _ _)).m ?_⟩;rintro r w3 ⟨v,f,T,rfl,C,o,p,c,k⟩;refine ⟨⟨v,f,rfl⟩,?_⟩;have d:gm e (Ft S2 e D Z U (zN)) (jd e D Z U (zN)) (aU (fY gr) σ) M dn ud [] false w2 w3:=by
  refine ⟨T,D,Z,U,_,p,?_,k.wide ?_⟩
  .rintro q (K|K)
   .exact (o q K).imp (λs=>zR s) id
   .exact zR (zZ K)
  .rintro q (K|K)
   .exact zR K
   .exact zZ (zR K)
 refine d.t x (λq u=>zR ?_) y;rcases u with K|K|K|K|K
 .exact zR K
 .exact zZ (zR K)
 .exact zZ (zZ (zR K))
 .exact zZ (zZ (zZ (zR K)))
 .simp [Value.ownBlock] at K
def Ao (h:fx w e S D σ M Z U R dn ud gr false) :
  zC prog 49 #[zK (A (X e 1))] w λr w'=>r=zP (J 10)/\gm e (Ft S e D Z U R) (jd e D Z U R) σ M dn ud gr false w w':=by
 obtain ⟨a,c,E,F,H,l⟩:=h.ph.row;obtain ⟨G,ag,p⟩:=h.rg;obtain ⟨L,j,k,rfl⟩:=b7 p.own;refine Al 10 _ none 0 0 w ((RV L j k l).m (by
  intro r w1 v;simpa [qU] using v)) ((allRow (dP.nil w S e D) h.ph.still (by simp)).m ?_)
 rintro r w2 ⟨T,m,S2,rfl,g,h1,t,P,f⟩;have z:fx w2 e S2 D σ M Z U (B L j k) dn ud gr false:=(h.next g).PQ t λq x=>by
  rcases P q x with b|b|b
  .exact zR b
  .simp [Value.ownBlock] at b
  .exact zZ ⟨by omega,λd=>by have:=h.ltW q d;omega⟩
 refine ⟨T,m,rfl,f.enters,(z.called f w2 (aM _ _)).m ?_⟩;rintro r w3 ⟨y,i,Y,rfl,C,s,u,o,n⟩;refine ⟨⟨y,i,rfl⟩,Y,D,Z,U,_,u,?_,(Ks.of g).t (n.wide ?_)⟩
 .rintro q (K|K)
  .rcases s q K with b|b
   .rcases P q b with d|d|d
    .exact zR (zR d)
    .simp [Value.ownBlock] at d
    .exact zZ (by omega)
   .exact zZ (bf g.size b)
  .exact zR (zZ K)
 .rintro q (K|K)
  .exact zR K
  .exact zZ (zR K)
end
end Go.Proofs.YtihgojcfpnhelaaGreatDoor
