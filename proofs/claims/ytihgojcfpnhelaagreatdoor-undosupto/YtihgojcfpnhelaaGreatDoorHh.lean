import Derived.Test.YtihgojcfpnhelaaGreatDoorNh
import Derived.Test.YtihgojcfpnhelaaGreatDoorGa
set_option maxRecDepth 100000
set_option maxHeartbeats 4000000
set_option linter.all false
namespace Go.Proofs.YtihgojcfpnhelaaGreatDoor
open Go renaming World->zW,Value->zV,Calls->zC,Addr->zD
open Go.RowKit Go.Proofs.Tryz
open List renaming length→G
section
variable {S S1 O:Nat->Prop} {e:Nat} {D:Nat->Prop} {σ σ0:bg} {v1 v2 v3 v4 v5:zV} {te:TypeId} {w W Z U:zW} {ws0 us:List Wr} {b N:Nat} {cs:Array zV}
def Cz (h:cO e D w S N cs us):∀ (W:zW) (S1:Nat->Prop) (σ:bg),(∀ q,S q->S1 q/\W.heap[q]?=w.heap[q]?)->cK W S1 e D σ v1 v2 v3 v4 v5 te->zC prog N cs W (gX S1 e D σ us v1 v2 v3 v4 v5 te W):=by
 induction h with
 | ord y u a c l k s t f m B z G=>
  intro W S1 σ d r;exact ahU r y u l a c ((d _ k).2.t t) ((d _ s).2.t f) G ((m.next λq j=>(d q j).2).wide λq j=>(d q j).1) B z
 | nm y u b x k s t f m=>
  intro W S1 σ d r;exact akG r y u x ((d _ k).2.t t) ((d _ s).2.t f) m
 | rl y u b p a l c k s t f m B z G J=>
  intro W S1 σ d r;exact akH r y u p a l c ((d _ k).2.t t) ((d _ s).2.t f) J ((m.next λq j=>(d q j).2).wide λq j=>(d q j).1) B z G
 | vl y u b v k s t f m=>
  intro W S1 σ d r;exact akI r y u v ((d _ k).2.t t) ((d _ s).2.t f) m
 | all g a n c N cs us k s t f m B z K=>
  intro W S1 σ d r;refine ahX r g a n c (d _ k).1 ((d _ k).2.t s) (f.imp id λ⟨h,o,e1,e2⟩=>⟨h,o,e1,(d h e2).1⟩) jM m (λi C h o H=>?_) (λi C=>(z i C).enters) λi C L S2 σ1 A E=>K i C L S2 σ1 (λq j=>⟨(A q (d q j).1).1,(A q (d q j).1).2.t (d q j).2⟩) E;rcases f with f|⟨M,O,f,F⟩
  ·omega
  ·rw [H] at f;cases f;exact (nu (a:=⟨h,o+i,none⟩) (d h F).2).t (B i C h o H)
def aee (S:Nat->Prop) (e:Nat) (D:Nat->Prop) (σ0:bg) (v1 v2 v3 v4 v5:zV) (te:TypeId) (a:List (Nat × Fd)) (w:zW) (r:Ending) (w':zW):Prop:=
 ∃ (b:Option zD) (cn:Nat) (S':Nat->Prop),r=.returned (.tuple #[.slice b (G a) cn,.nilFunc,zI 8])/\w'.ownsRow w.heap.size 9 1 (.slice b (G a) cn) (G a) (strs (cJ a))/\(∀ q,(Value.slice b (G a) cn).ownBlock=some q->¬ S' q) /\
  (∀ q,S q->S' q)/\(∀ q,S' q->S q\/(w.heap.size<=q/\∃ c t z,w'.heap[q]?=some (.cells c t z)))/\cK w' S' e D σ0 v1 v2 v3 v4 v5 te/\Ks (λq=>q=e\/D q) w w'
def Hg (at_ R:Nat) (C:Array zV) (n:List (Nat × Fd)) (h:cK w S e D σ v1 v2 v3 v4 v5 te) (hσ:aU ws0 σ0=σ) (z:cO e D w S R C (dz ws0 σ0)) (hl:σ.ord.length<=100) (O:σ.ord[at_]?=some b) (Eb:σ.ord.Nodup) (s:dL σ.fs at_ (b,σ.mem b)=.dZ n) (hch:(G n)<=100) :
  zC prog 161 #[zJ e,zJ b,.func (.func R) #[] C] w (aee S e D σ0 v1 v2 v3 v4 v5 te n w):=by
 obtain ⟨Jx,xF⟩:=fI.1 O;have Q:σ.fs.length=σ.ord.length:=tL;have j:at_<σ.fs.length:=ae;have f:σ.fs[at_]=(b,σ.mem b):=Ob;have W:∀ i (h:i<σ.fs.length),i<at_->(σ.fs[i]).1≠b:=λi hi hlt=>X1;have od:e<w.heap.size:=h.lt;obtain ⟨a,c,k,J,U,o⟩:=h.sh;obtain ⟨⟨e0,e1,e2,e3,e4,e5⟩,⟨z0,z1,z2,z3,z4,z5⟩,_⟩:=bJ o;obtain ⟨A,K⟩:=zY σ.fs n at_ (b,σ.mem b) j f s;have M:∀ x,x∈σ.fs->x.1<w.heap.size:=λx hx=>(k.bX x hx).lt;have HM:=I ((Cx a c at_ σ.fs (b,σ.mem b) w k ae j f J W).m (R':=λr w1=>∃ L c2,r=.returned (.tuple #[zN,zS L (G n) c2])/\Hid (w1.ownsRow w.heap.size 220 1 (zS L (G n) c2) (G n) (cA n))/\zB w w1) (by
  rintro r w1 ⟨hb,h⟩;rw [s] at h;obtain ⟨v,p,B⟩:=h;obtain ⟨L,c2,rfl,_,_⟩:=B.form (by have:=BB.2 K;omega);exact ⟨L,c2,p,B,hb⟩))
 have heg:=z.enters;have HS:=I k;have m:=I h;have T:=I z;clear k o h z W s O xF Jx j f Eb Q J U;go_in;go_wp2_with (go_at_call 190;refine mo HM.o ?_;rintro r w1 ⟨L,c2,rfl,N,y⟩);have u:=I y;have V:=I (uK _ c2 _ w1 ((HS.o.next y).OS A N.o M) ae);clear y HM;apply I;go_wp2_with (go_at_call 142;refine mo V.o ?_;rintro r w2 ⟨vn,rfl,d,F⟩);have l:zB w w2:=u.o.t (F.m u.o.size);have E:=I l;have X:=I (Cz T.o w2 S σ (λq g=>⟨g,l.block q (m.o.still q g)⟩) (m.o.next l));have H:=I (dS d u.o.size);obtain ⟨an,cn,rfl⟩:=eM d;clear F d V l;apply I;go_wp2_with (go_at_fn R;refine mo X.o ?_;rintro r w3 ⟨fv,cs',S',rfl,g⟩);have HQ:=I g;clear g X;apply I;go_wp2;refine aK (v:=.tuple #[.slice an (G n) cn,.nilFunc,zI 8]) (by simp [results,results161,go_sem]) gN ?_;obtain ⟨p0,p1,Y,_,Z⟩:=HQ.o;have t:=λq g=>H.o.lt q g;have P:=E.o.size;refine ⟨an,cn,S',rfl,iy H.o Z ?_,λq g p=>?_,p0,λq g=>(p1 q g).imp id λh=>⟨bf P h.1,h.2⟩,?_,(Ks.of E.o).t Z⟩
 ·intro q g p;have:=(t q g).1;rcases p with p|p
  ·omega
  ·have:=(m.o.bX q p).lt;omega
 ·rcases p1 q p with B|B
  ·have:=m.o.still q B;have:=(t q g).1;omega
  ·have:=(t q g).2;have:=B.1;omega
 ·rw [<- hσ,lV] at Y;exact Y
variable {S':Nat->Prop} {X:Nat->Prop} {σ1:bg} {v0 v v':zV} {w' w1 w2 w3:zW} {V:List (List Wr)} {N:Nat->Nat} {cs:Nat->Array zV} {M:Nat} {U R Z:zV} {dn ud gr:List (List Wr)} {op:Bool} {N1:Nat} {cs1:Array zV}
def fY (gr:List (List Wr)):List Wr:=gr.reverse.flatten
def KP (gr:List (List Wr)):(List.range (G gr)).reverse.flatMap (λj=>gr.getD j [])=fY gr:=by
 unfold fY;have:(List.range (G gr)).map (λj=>gr.getD j [])=gr:=by
  apply rC
  ·simp
  ·intro i b a;simp [a]
 rw [List.flatMap_def,<- List.map_reverse.symm,this]
def fx.PQ (h:fx w e S D σ M U R Z dn ud gr op) (d:∀ q,S q->S' q) (g:∀ q,S' q->S q\/(q<w.heap.size/\¬ jd e D U R Z q)):fx w e S' D σ M U R Z dn ud gr op:=by
 have f:∀ q,S' q->∀ P:Prop,(P->jd e D U R Z q)->(S q->¬ P)->¬ P:=λq b P j hs i=>by
  rcases g q b with a|a
  ·exact hs a i
  ·exact a.2 (j i)
 refine ⟨h.ph.wide d λq b=>(g q b).imp id λa=>⟨a.1,λk=>a.2 (Or.inl k),λl=>a.2 (Or.inr (Or.inl l))⟩,?_,?_,?_,h.du,h.dg,h.ug,h.hM,h.len⟩
 ·obtain ⟨N,cs,c⟩:=h.rd;refine ⟨N,cs,c.wide d (λ_ h=>h) λq b=>⟨λhs=>?_,(c.ob q b).2.2⟩⟩;exact f q hs _ (λa=>Or.inr (Or.inr (Or.inl a))) (λa _=>(c.ob q b).1 a) b
 ·obtain ⟨N,cs,c⟩:=h.ru;refine ⟨N,cs,c.wide d (λ_ h=>h) λq b=>⟨λhs=>?_,(c.ob q b).2.2⟩⟩;exact f q hs _ (λa=>Or.inr (Or.inr (Or.inr (Or.inl a)))) (λa _=>(c.ob q b).1 a) b
 ·obtain ⟨N,cs,c⟩:=h.rg;refine ⟨N,cs,c.wide d (λ_ h=>h) λq b=>⟨λhs=>?_,(c.ob q b).2.2⟩⟩;exact f q hs _ (λa=>Or.inr (Or.inr (Or.inr (Or.inr a)))) (λa _=>(c.ob q b).1 a) b
def fx.ui (h:fx w e S D σ M U R Z dn ud gr op) (g:cK w' S' e X σ1 (zI M) U R (.bool op) Z 108) (j:∀ q,S q->S' q) (f:∀ q,S' q->S q\/w.heap.size<=q) (d0:∀ q,D q->X q) (d1:∀ q,X q->D q\/w.heap.size<=q) (d:Ks (λq=>q=e\/D q) w w'):fx w' e S' X σ1 M U R Z dn ud gr op:=by
 have blk:∀ q,S q->w'.heap[q]?=w.heap[q]?:=λq b=>d.block q (h.ph.still q b) (h.ph.notP q b);have row:∀ {v:zV} {V:List (List Wr)},(∃ N cs,dP w S e D v V N cs)->∃ N cs,dP w' S' e X v V N cs:=by
  rintro v V ⟨N,cs,c⟩;refine ⟨N,cs,(c.keep d blk λq b a=>?_).wide j d0 λq b=>⟨λhs=>?_,λi=>?_⟩⟩
  ·rcases a with a|a
   ·exact (c.ob q b).2.1 a
   ·exact (c.ob q b).2.2 a
  ·rcases f q hs with a|a
   ·exact (c.ob q b).1 a
   ·have:=c.lt q b;omega
  ·rcases d1 q i with a|a
   ·exact (c.ob q b).2.2 a
   ·have:=c.lt q b;omega
 exact ⟨g,row h.rd,row h.ru,row h.rg,h.du,h.dg,h.ug,h.hM,h.len⟩
def fx.called (h:fx w e S D σ M U R Z dn ud gr op) (d:cO e D w S N1 cs1 us) (W:zW) (f:zB w W):zC prog N1 cs1 W λr w'=>∃ c a S',r=.returned (.func (.func c) #[] a)/\(∀ q,S q->S' q)/\(∀ q,S' q->S q\/W.heap.size<=q)/\fx w' e S' D (aU us σ) M U R Z dn ud gr op/\cO e D w' S' c a (dz us σ)/\Ks (λq=>q=e\/D q) W w':=by
 refine (Cz d W S σ (λq b=>⟨b,f.block q (h.ph.still q b)⟩) (h.ph.next f)).m ?_;rintro r w' ⟨c,a,S',rfl,i,j,l,k,g⟩;exact ⟨c,a,S',rfl,i,λq b=>(j q b).imp id λh=>h.1,(h.next f).ui l i (λq b=>(j q b).imp id λh=>h.1) (λ_ h=>h) (λ_ h=>Or.inl h) g,k,g⟩
def allRow (m:dP w S e D v V N cs) (u:∀ q,S q->q<w.heap.size) (z:(G V)*8<=140737488355328) :
  zC prog 72 #[v] w λr w'=>∃ p f S',r=.returned (.func (.func p) #[] f)/\zB w w'/\w'.heap.size=w.heap.size+1/\(∀ q,S q->S' q)/\(∀ q,S' q->S q\/v.ownBlock=some q\/q=w.heap.size)/\cO e D w' S' p f (fY V):=by
 obtain ⟨a,l,c,rfl⟩:=b7 m.own;refine (Ru a l c w).m ?_;rintro r w' ⟨rfl,rfl⟩;have n:zB w (w.alloc (.cells #[.slice a l c] 104)):=(aM _ _).alloc (aG _) _;have b:=bL w (.cells #[.slice a l c] 104);refine ⟨_,_,λq=>S q\/(Value.slice a l c).ownBlock=some q\/q=w.heap.size,rfl,n,aq,λq d=>Or.inl d,λq d=>d,?_⟩;rw [<- KP];have k:∀ i,i<G V->cO e D (w.alloc (.cells #[.slice a l c] 104)) (λq=>S q\/(Value.slice a l c).ownBlock=some q\/q=w.heap.size) (N i) (cs i) (V.getD i []):=λi j=>((m.bk i j).next λq d=>n.block q (u q d)).wide (λq d=>Or.inl d) λ_ h=>h;have s:=aZ m.own n;rcases s.2 with ⟨o,t⟩|⟨g,B,C,o,t,K,A,H,y,E⟩
 ·cases o;rw [t];exact .all _ none 0 0 N cs _ (Or.inr (Or.inr rfl)) b (aG _) (Or.inl rfl) ae (λi j=>ae) λi j=>ae
 ·cases o;refine .all _ (some ⟨g,0,none⟩) (G V) _ N cs _ (Or.inr (Or.inr rfl)) b A (Or.inr ⟨g,0,rfl,Or.inr (Or.inl rfl)⟩) z (λi j J F x=>?_) k;cases x;have:=s.cellAt i ae;rw [cS,this,kn,List.getElem?_range j];rfl
def fx.kept (h:fx w e S D σ M U R Z dn ud gr false) {r:Ending} {v0:zV} (p:∀ a c,w.heap[e]?=some (.cells #[.slice a σ.ord.length c,zI M,U,R,.bool false,Z] 108 (0,0))->v0=.slice a σ.ord.length c) (j:Ij S e D M v0 U (.bool false) Z 108 V w r w') (B:(G V)<=M) :
  ∃ d,fx w' e S D σ M d (zN) Z V [] gr false/\(∀ q,jd e D d (zN) Z q->jd e D U R Z q\/w.heap.size<=q)/\Ks (jd e D U R Z) w w':=by
 obtain ⟨d,z,l,rfl,s,m,t,j⟩:=j;have f:∀ q,S q->w'.heap[q]?=w.heap[q]?:=λq b=>j.block q (h.ph.still q b) (by
  rintro (h1|h1)
  ·exact h.agW q b (Or.inl h1)
  ·exact h.agW q b (Or.inr (Or.inr (Or.inl h1))))
 have o:∀ q,D q->w'.heap[q]?=w.heap[q]?:=λq b=>j.block q (h.ph.bX q b).lt (by
  rintro (h1|h1)
  ·exact h.ph.eD (h1▸b)
  ·obtain ⟨N,cs,m⟩:=h.rd;exact (m.ob q h1).2.2 b)
 obtain ⟨a,c,x,y,E,C⟩:=h.ph.row;rw [p a c C] at s;have v:cK w' S e D σ (zI M) d (zN) (.bool false) Z 108:=⟨λq b=>bG (h.ph.still q b) j.size,h.ph.eS,h.ph.eD,λq b=>(h.ph.bX q b).stays (o q b) f,h.ph.sub,a,c,x.next f,y,E,s⟩;obtain ⟨A,k,n⟩:=h.rg;refine ⟨d,⟨v,⟨z,l,m⟩,⟨_,_,dP.nil _ _ _ _⟩,⟨A,k,n.keep j f ?_⟩,λq _ h1=>Gy,λq b h1=>?_,λq h1=>Gy,h.hM,by simpa using B⟩,?_,j.wide ?_⟩
 ·rintro q b (h1|h1)
  ·exact (n.ob q b).2.1 h1
  ·exact h.dg q h1 b
 ·rcases t with i|⟨g,i,u⟩
  ·exact h.dg q (i▸b) h1
  ·rw [i] at b;cases b;have:=n.lt _ h1;omega
 ·rintro q (h1|h1|h1|h1|h1)
  ·exact Or.inl (Or.inl h1)
  ·exact Gw
  ·rcases t with i|⟨g,i,u⟩
   ·exact Or.inl (Or.inr (Or.inr (Or.inl (i▸h1))))
   ·rw [i] at h1;cases h1;exact Or.inr u
  ·simp [Value.ownBlock] at h1
  ·exact Or.inl (Or.inr (Or.inr (Or.inr (Or.inr h1))))
 ·rintro q (h1|h1)
  ·exact Or.inl h1
  ·exact Ca
def C9 (M:Nat) (dn:List (List Wr)) (us:List Wr) (h:(G dn)<=M):(kD M dn us).length<=M:=by
 unfold kD;split
 ·rw [List.length_eraseIdx,aB aq];simp;omega
 ·simp;omega
def Ft (S:Nat->Prop) (e:Nat) (D:Nat->Prop) (Z R U:zV) (q:Nat):Prop:=S q\/jd e D Z R U q
def gm (e:Nat) (F i:Nat->Prop) (j:bg) (M:Nat) (h d f:List (List Wr)) (g:Bool) (w w':zW):Prop:=
 ∃ S' X a c b,fx w' e S' X j M a c b h d f g/\(∀ q,Ft S' e X a c b q->F q\/w.heap.size<=q)/\Ks i w w'
def fx.agX (h:fx w e S D σ M Z R U dn ud gr op):∀ q,Ft S e D Z R U q->q<w.heap.size:=by
 rintro q (a|a)
 ·exact h.ph.still q a
 ·exact h.ltW q a
def fx.self (h:fx w e S D σ M Z R U dn ud gr op) (a:zB w w'):gm e (Ft S e D Z R U) (jd e D Z R U) σ M dn ud gr op w w':=
 ⟨S,D,Z,R,U,h.next a,λ_ h=>Or.inl h,Ks.of a⟩
def ab3 (h:fx w e S D σ M Z R U dn ud gr true) (B:cO e D w S N1 cs1 us) (h8:(G gr)<1000000000000) :
  zC prog 99 #[.pointer (some ⟨e,1,none⟩),.func (.func N1) #[] cs1] w λr w'=>r=.returned (.tuple #[])/\gm e (Ft S e D Z R U) (jd e D Z R U) σ M dn ud (gr++[us]) true w w':=by
 obtain ⟨a,c,r1,r2,r3,T⟩:=h.ph.row;obtain ⟨⟨e0,e1,e2,e3,e4,e5⟩,⟨z0,z1,z2,z3,z4,z5⟩,A⟩:=bJ T;obtain ⟨i1,gi,O,W,L⟩:=fe mV;obtain ⟨Ng,J,x⟩:=h.rg;obtain ⟨ag,o,n,rfl⟩:=b7 x.own;have z:(Value.slice ag o n).ownBlock≠some e:=λh1=>(x.ob e h1).2.1 rfl;have HO:=I x.own;have t:=I (show ∀ g b w2,w2.ownsRow 0 151 1 (zS g (G gr+1) b) (G gr+1) (((List.range (G gr)).map λj=>jt (Ng j) (J j))++[.func (.func N1) #[] cs1])->(w.alloc (.cells #[.func (.func N1) #[] cs1] 151)).grownBy w2 (Value.slice ag o n).ownBlock->((Value.slice ag o n).ownBlock=some g\/g=w.heap.size+1)->w2.heap[e]?=w.heap[e]?/\gm e (Ft S e D Z R (.slice ag o n)) (jd e D Z R (.slice ag o n)) σ M dn ud (gr++[us]) true w (w2.setCell ⟨e,5,none⟩ (zS g (G gr+1) b)) from λg b w2 d hgr m=>by
  have H:=hgr.size;simp at H;have f:Ks (λq=>(Value.slice ag o n).ownBlock=some q) w w2:=Mz;have k:w2.heap[e]?=w.heap[e]?:=f.block e A z;have tA:g≠e:=by
   rcases m with h1|h1
   ·intro K;rw [K] at h1;exact z h1
   ·omega
  have X:∀ q,S q->q≠e:=λq hq K=>h.ph.eS (K▸hq);have i:∀ q,S q->w2.heap[q]?=w.heap[q]?:=λq hq=>f.block q (h.ph.still q hq) λh1=>(x.ob q h1).1 hq;have y:Ks (λq=>q=e) w2 (w2.setCell ⟨e,5,none⟩ (zS g (G gr+1) b)):=(Ks.refl (λq=>q=e) w2).set e 5 _ rfl;have F:(Value.slice ag o n).ownBlock=(Value.slice (some ⟨g,0,none⟩) (G gr+1) b).ownBlock\/∃ C,(Value.slice (some ⟨g,0,none⟩) (G gr+1) b).ownBlock=some C/\w.heap.size<=C:=by
   rcases m with h1|h1
   ·exact Or.inl h1
   ·exact Or.inr ⟨g,rfl,ae⟩
  have P:=(x.snoc B h.ph.still A (λq hq=>(h.ph.bX q hq).lt) hgr d F).tF X 5 (zS g (G gr+1) b);have p:∀ {v:zV} {V:List (List Wr)},(∃ N cs,dP w S e D v V N cs)->(∀ q,v.ownBlock=some q->(Value.slice ag o n).ownBlock≠some q)->∃ N cs,dP (w2.setCell ⟨e,5,none⟩ (zS g (G gr+1) b)) S e D v V N cs:=by
   rintro v V ⟨N,cs,E⟩ hd;exact ⟨N,cs,(E.keep f i hd).tF X 5 _⟩
  refine ⟨k,S,D,Z,R,zS g (G gr+1) b,⟨?_,p h.rd h.dg,p h.ru h.ug,⟨_,_,P⟩,h.du,λq hq h1=>?_,λq hq h1=>?_,h.hM,h.len⟩,?_,?_⟩
  ·refine (h.ph.same (w':=w2) ?_ f.size).beside y λa c h1=>(aj h1 5 _).t rfl;rintro q (h1|rfl|h1)
   ·exact i q h1
   ·exact k
   ·exact f.block q (h.ph.bX q h1).lt λh2=>(x.ob q h2).2.2 h1
  ·rcases F with h2|⟨C,h2,Q⟩
   ·exact h.dg q hq Co
   ·rw [h2] at h1;cases h1;obtain ⟨N,cs,E⟩:=h.rd;have:=E.lt _ hq;omega
  ·rcases F with h2|⟨C,h2,Q⟩
   ·exact h.ug q hq Co
   ·rw [h2] at h1;cases h1;obtain ⟨N,cs,E⟩:=h.ru;have:=E.lt _ hq;omega
  ·rintro q (h1|h1|h1|h1|h1|h1)
   ·exact Or.inl (Or.inl h1)
   ·exact Gw
   ·exact Nk
   ·exact Ze
   ·exact YO
   ·rcases F with h2|⟨C,h2,Q⟩
    ·exact Or.inl (Or.inr (Or.inr (Or.inr (Or.inr (Or.inr Co)))))
    ·rw [h2] at h1;cases h1;exact Or.inr Q
  ·exact (f.wide λq hq=>Or.inr (Or.inr (Or.inr (Or.inr hq)))).t (y.wide λq hq=>Or.inl hq))
 have HE:=I T;clear T h B x r1 r2 r3;go_in;go_wp2_with (at_builtin;refine rq _ rfl (.tmp 12) (.tmp 14) 104 rfl 0 151 i1 .nilFunc 1 8 underlying104 gi O W L rfl ai (.slice ag o n) (G gr) _ rfl (HO.o.alloc _) ⟨w.heap.size,0,none⟩ 1 1 [.func (.func N1) #[] cs1] rfl rfl (λq u hq=>bC w [.func (.func N1) #[] cs1] 151 q u hq) (λu hu=>nw) ae jM ae ae (w.heap.size+1) aq ?_;intro g b w2 d l m hlt;apply Hid.o);obtain ⟨k,s⟩:=t.o g b w2 d l m;obtain ⟨⟨p0,p1,p2,p3,p4,p5⟩,⟨x0,x1,x2,x3,x4,x5⟩,Y⟩:=bJ (k.t HE.o);have HF:=I s;clear d l m k s t HO;apply I;go_wp2;refine aK (v:=.tuple #[]) (by simp [results,results99,go_sem]) rfl ?_;exact ⟨rfl,HF.o⟩
def ab4 (h:fx w e S D σ M Z R U dn ud gr false) (j:cO e D w S N1 cs1 us) :
  zC prog 99 #[.pointer (some ⟨e,1,none⟩),.func (.func N1) #[] cs1] w λr w'=>r=.returned (.tuple #[])/\gm e (Ft S e D Z R U) (jd e D Z R U) σ M (kD M dn us) [] gr false w w':=by
 obtain ⟨a,c,G,H,J,f⟩:=h.ph.row;obtain ⟨K,A,u⟩:=h.rd;obtain ⟨L,x,z⟩:=h.ru;obtain ⟨p,o,l,rfl⟩:=b7 u.own;obtain ⟨n,m,i,rfl⟩:=b7 z.own;have t:=h.len;refine ab5 e (.func N1) cs1 w (λ_ w'=>gm e (Ft S e D (.slice p o l) (.slice n m i) U) (jd e D (.slice p o l) (.slice n m i) U) σ M (kD M dn us) [] gr false w w') (bJ f).1.2.2.2.2.1 ?_;refine (ab0 M p o l n m i N1 cs1 us f u j (λq d=>⟨h.ph.still q d,λy=>h.ph.eS (y▸d)⟩) (λq d=>(h.ph.bX q d).lt) h.hM ae).m ?_;intro r w' v;refine ⟨by obtain ⟨_,_,_,b,_⟩:=v;exact b,?_⟩;obtain ⟨g,C,B,s⟩:=h.kept (λF E b=>by
  rw [f] at b;simp at b;obtain ⟨b,k⟩:=b;rw [b,k]) v (C9 M dn us ae)
 refine ⟨S,D,g,_,U,C,?_,s⟩;rintro q (b|b)
 ·exact Or.inl (Or.inl b)
 ·exact (B q b).imp (λk=>Or.inr k) id
variable {R:Nat->Prop} {X:zV}
def nr (n:Nat) (h:n<=100):wrap64 ((n:Int)+1 - 1)=(n:Int)/\wrap64 ((n:Int)+1)=(n:Int)+1:=by
 unfold wrap64;omega
def PR (l d:List (List Wr)) (gf cf ct:Nat) (at_:Option zD) (h:fx w e S D σ M (zS gf (G l+1) cf) (.slice at_ (G d) ct) Z (l++[us]) d gr false) :
  zC prog 101 #[.pointer (some ⟨e,1,none⟩),.pointer (some ⟨e,2,none⟩),.pointer (some ⟨e,3,none⟩)] w λr w'=>r=.returned (zI 0)/\gm e (Ft S e D (zS gf (G l+1) cf) (.slice at_ (G d) ct) Z) (jd e D (zS gf (G l+1) cf) (.slice at_ (G d) ct) Z) (aU us σ) M l (d++[dz us σ]) gr false w w':=by
 obtain ⟨a,c,r1,r2,r3,he⟩:=h.ph.row;obtain ⟨⟨e0,e1,e2,e3,e4,e5⟩,⟨z0,z1,z2,z3,z4,z5⟩,od⟩:=bJ he;obtain ⟨i1,gi,qh,qi,pD⟩:=fe mV;obtain ⟨Nf,y,hf⟩:=h.rd;obtain ⟨Nt,L,ht⟩:=h.ru;have hM:=h.hM;have JX:=h.len;simp only [b6,sA] at JX;have R:cO e D w S (Nf (G l)) (y (G l)) us:=Xs;have Tb:w.ownsRow 0 151 1 (zS gf (G l+1) cf) (G l+1) ((List.range (G l+1)).map λj=>jt (Nf j) (y j)):=Yp;have yR:w.cell? ⟨gf,G l,none⟩=some (.func (.func (Nf (G l))) #[] (y (G l))):=X9;have heg:=R.enters;have T:gf≠e:=(hf.ob gf rfl).2.1;have ab7:at_≠none->(Value.slice at_ (G d) ct).ownBlock≠some gf:=λ_ h1=>h.du gf rfl h1;have U:=hf.lt gf rfl;have iL:=I (show ∀ (s:Nat) (f:Array zV) (w2:zW),(∃ S':Nat->Prop,(∀ q,S q->S' q)/\(∀ q,S' q->S q\/w.heap.size<=q)/\fx w2 e S' D (aU us σ) M (zS gf (G l+1) cf) (.slice at_ (G d) ct) Z (l++[us]) d gr false/\cO e D w2 S' s f (dz us σ)/\Ks (λq=>q=e\/D q) w w2)->∀ (g' b:Nat) (w3:zW),w3.ownsRow 0 151 1 (zS g' (G d+1) b) (G d+1) (((List.range (G d)).map λj=>jt (Nt j) (L j))++[.func (.func s) #[] f])->(w2.alloc (.cells #[.func (.func s) #[] f] 151)).grownBy w3 (Value.slice at_ (G d) ct).ownBlock->((Value.slice at_ (G d) ct).ownBlock=some g'\/g'=w2.heap.size+1)->w2.ownsRow 0 151 1 (.slice at_ (G d) ct) (G d) ((List.range (G d)).map λj=>jt (Nt j) (L j)) ->
   ∃ J c2,w3.heap[e]?=some (.cells #[.slice J (aU us σ).ord.length c2,zI M,(zS gf (G l+1) cf),(.slice at_ (G d) ct),.bool false,Z] 108 (0,0))/\(∀ q,q≠e->True)/\zC prog 136 #[zS gf (G l+1) cf,zI (G l),zI (((G l):Int)+1)] (w3.setCell ⟨e,3,none⟩ (zS g' (G d+1) b)) λr B=>r=.returned (zS gf (G l) cf)/\Hid (B.heap[e]?=some (.cells #[.slice J (aU us σ).ord.length c2,zI M,(zS gf (G l+1) cf),(zS g' (G d+1) b),.bool false,Z] 108 (0,0)))/\Hid (gm e (Ft S e D (zS gf (G l+1) cf) (.slice at_ (G d) ct) Z) (jd e D (zS gf (G l+1) cf) (.slice at_ (G d) ct) Z) (aU us σ) M l (d++[dz us σ]) gr false w (B.setCell ⟨e,2,none⟩ (zS gf (G l) cf))) from by
  rintro s f w2 ⟨S',s0,s1,Q,ab8,C⟩ g' b w3 o hgr hat ho2;obtain ⟨J,c2,k1,k2,k3,k4⟩:=Q.ph.row;have Cm:=C.size;have oU:=hgr.size;simp at oU;have k:Ks (λq=>(Value.slice at_ (G d) ct).ownBlock=some q) w2 w3:=Mz;have D9:∀ q,S q->¬ (q=e\/D q):=h.ph.notP;have P:∀ q,S q->w2.heap[q]?=w.heap[q]?:=λq hq=>C.block q (h.ph.still q hq) (D9 q hq);have mv:∀ {v:zV} {V:List (List Wr)} {N:Nat->Nat} {cs:Nat->Array zV},dP w S e D v V N cs->dP w2 S' e D v V N cs:=λ{v V N cs} H=>(H.keep C P λq hq h2=>by
   rcases h2 with h2|h2
   ·exact (H.ob q hq).2.1 h2
   ·exact (H.ob q hq).2.2 h2).wide s0 (λ_ h=>h) λq hq=>⟨λhs=>by
    rcases s1 q hs with h2|h2
    ·exact (H.ob q hq).1 h2
    ·have:=H.lt q hq;omega,(H.ob q hq).2.2⟩
  have K:=mv ht;have hf2:=mv hf;obtain ⟨Ng,csg,hg⟩:=h.rg;have hg2:=mv hg;have t:∀ q,S' q->q≠e:=λq hq e'=>Q.ph.eS (e'▸hq);have hte:(Value.slice at_ (G d) ct).ownBlock≠some e:=λh1=>(ht.ob e h1).2.1 rfl;have p:e<w2.heap.size:=ae;have hv:(Value.slice at_ (G d) ct).ownBlock=(Value.slice (some ⟨g',0,none⟩) (G d+1) b).ownBlock\/∃ q,(Value.slice (some ⟨g',0,none⟩) (G d+1) b).ownBlock=some q/\w2.heap.size<=q:=Yt;have htf:(Value.slice at_ (G d) ct).ownBlock≠some gf:=λh1=>h.du gf rfl h1;have Rs:g'≠gf:=λh1=>Y1;have agz:Z.ownBlock≠some g':=λh1=>by
   rcases hat with h2|h2
   ·exact h.ug g' h2 h1
   ·have:=hg2.lt g' h1;omega
  have z:w3.heap[e]?=some (.cells #[.slice J (aU us σ).ord.length c2,zI M,(zS gf (G l+1) cf),(.slice at_ (G d) ct),.bool false,Z] 108 (0,0)):=(k.block e p hte).t k4;have n:∀ q,S' q->w3.heap[q]?=w2.heap[q]?:=λq hq=>k.block q (Q.ph.still q hq) λh1=>(K.ob q h1).1 hq;have ht3:=(K.snoc ab8 Q.ph.still p (λq hq=>(Q.ph.bX q hq).lt) hgr o hv).tF t 3 (zS g' (G d+1) b);have Jy:=(hf2.keep k n (λq hq h1=>ZM)).tF t 3 (zS g' (G d+1) b);have hg4:=(hg2.keep k n (λq hq h1=>h.ug q h1 hq)).tF t 3 (zS g' (G d+1) b);have wJ:cK w3 S' e D (aU us σ) (zI M) (zS gf (G l+1) cf) (.slice at_ (G d) ct) (.bool false) Z 108:=Q.ph.same (by
   rintro q (h1|rfl|h1)
   ·exact n q h1
   ·exact k.block _ p hte
   ·exact k.block q (Q.ph.bX q h1).lt λh2=>(K.ob q h2).2.2 h1) k.size
  have hk4:Ks (λq=>q=e) w3 (w3.setCell ⟨e,3,none⟩ (zS g' (G d+1) b)):=(Ks.refl (λq=>q=e) w3).set e 3 _ rfl;have O:cK (w3.setCell ⟨e,3,none⟩ (zS g' (G d+1) b)) S' e D (aU us σ) (zI M) (zS gf (G l+1) cf) (zS g' (G d+1) b) (.bool false) Z 108:=wJ.beside hk4 λa c h1=>(aj h1 3 _).t rfl;have he4:(w3.setCell ⟨e,3,none⟩ (zS g' (G d+1) b)).heap[e]?=some (.cells #[.slice J (aU us σ).ord.length c2,zI M,(zS gf (G l+1) cf),(zS g' (G d+1) b),.bool false,Z] 108 (0,0)):=(aj z 3 _).t rfl;generalize hw4:w3.setCell ⟨e,3,none⟩ (zS g' (G d+1) b)=w4 at *;refine ⟨J,c2,z,λ_ _=>trivial,?_⟩;have Y:w4.ownsRow 0 151 1 (zS gf (G l+1) cf) (G l+1) ((List.range (G l+1)).map λj=>jt (Nf j) (y j)):=Yo;refine (zf 0 gf cf (G l) (G l) _ w4 Y (aG _) ae (λv hv=>by
   obtain ⟨j,_,rfl⟩:=bU.1 hv;rfl)).m ?_
  rintro r B ⟨rfl,m,ho5⟩;have F:e<w4.heap.size:=(cz.1 he4).1;have he5:=(m.block e F (λh1=>T h1.symm)).t he4;have g:∀ q,S' q->B.heap[q]?=w4.heap[q]?:=λq hq=>m.block q (O.still q hq) λh1=>(Jy.ob gf rfl).1 (h1▸hq);have JV:cK B S' e D (aU us σ) (zI M) (zS gf (G l+1) cf) (zS g' (G d+1) b) (.bool false) Z 108:=O.same (by
   rintro q (h1|rfl|h1)
   ·exact g q h1
   ·exact m.block _ F (λh1=>T h1.symm)
   ·exact m.block q (O.bX q h1).lt λh2=>(Jy.ob gf rfl).2.2 (h2▸h1)) m.size
  have X:Ks (λq=>q=e) B (B.setCell ⟨e,2,none⟩ (zS gf (G l) cf)):=(Ks.refl (λq=>q=e) B).set e 2 _ rfl;have her:(l++[us]).eraseIdx (G l)=l:=Z3;have hf6:=(Jy.erase (w2:=B) (v':=zS gf (G l) cf) (i:=G l) aq g (by
   rw [b6,sA,Nat.add_sub_cancel];exact ho5) rfl).tF t 2 (zS gf (G l) cf)
  rw [her] at hf6;have ht6:=(ht3.keep m g (λq hq h1=>ZJ)).tF t 2 (zS gf (G l) cf);have hg6:=(hg4.keep m g (λq hq h1=>h.dg q rJ hq)).tF t 2 (zS gf (G l) cf);refine ⟨rfl,he5,S',D,(zS gf (G l) cf),(zS g' (G d+1) b),Z,⟨JV.beside X λa c h1=>(aj h1 2 _).t rfl,⟨_,_,hf6⟩,⟨_,_,ht6⟩,⟨_,_,hg6⟩,λq hq h1=>?_,λq hq h1=>?_,λq hq h1=>?_,hM,aN⟩,?_,?_⟩
  ·simp [Value.ownBlock] at hq h1;exact Rs ae
  ·exact h.dg q hq h1
  ·exact Zf
  ·rintro q (h1|h1|h1|h1|h1|h1)
   ·exact (s1 q h1).imp (λh2=>Or.inl h2) id
   ·exact Gw
   ·exact Nk
   ·exact Ze
   ·rcases hv with h2|⟨x,h2,h3⟩
    ·exact Or.inl (Or.inr (Or.inr (Or.inr (Or.inr (Or.inl Co)))))
    ·rw [h2] at h1;cases h1;exact Or.inr ae
   ·exact YP
  ·have kk:Ks (jd e D (zS gf (G l+1) cf) (.slice at_ (G d) ct) Z) w w3:=(C.wide λq hq=>by
    rcases hq with h1|h1
    ·exact Or.inl h1
    ·exact Or.inr (Or.inl h1)).t (k.wide λq hq=>Or.inr (Or.inr (Or.inr (Or.inl hq))))
   have kk4:Ks (jd e D (zS gf (G l+1) cf) (.slice at_ (G d) ct) Z) w w4:=by rw [<- hw4];exact kk.t (((Ks.refl (λq=>q=e) w3).set e 3 _ rfl).wide λq hq=>Or.inl hq)
   exact (kk4.t (m.wide λq hq=>Or.inr (Or.inr (Or.inl aaW)))).t (X.wide λq hq=>Or.inl hq))
 have W:=I (h.called R w.drew (aM _ _).drew);have HT:=I ht;have HXX:=I h;have HFO:=I Tb;have hl6:(G l)<=6:=ae;have ho6:(G d)<=6:=ae;have hwl:wrap64 (((G l):Int)+1 - 1)=((G l):Int):=(nr (G l) ae).1;have amf:wrap64 (((G l):Int)+1)=((G l):Int)+1:=(nr (G l) ae).2;have N4:((G l):Int)<((G l):Int)+1:=Int.lt_succ _;have PS:¬ ((G l):Int)<0:=Int.not_lt.2 (mF _);have HE:=I he;generalize hNf:Nf (G l)=N1 at *;generalize amg:y (G l)=cs1 at *;clear h hf ht R Tb r1 r2 r3 he JX ab7 hM;go_in;go_wp2_with fail;have BI:=I (W.o.m (R':=λr w2=>∃ s f,r=.returned (.func (.func s) #[] f)/\Hid (∃ S':Nat->Prop,(∀ q,S q->S' q)/\(∀ q,S' q->S q\/w.heap.size<=q)/\fx w2 e S' D (aU us σ) M (zS gf (G l+1) cf) (.slice at_ (G d) ct) Z (l++[us]) d gr false/\cO e D w2 S' s f (dz us σ)/\Ks (λq=>q=e\/D q) w w2)/\Hid (w2.ownsRow 0 151 1 (.slice at_ (G d) ct) (G d) ((List.range (G d)).map λj=>jt (Nt j) (L j)))/\Hid (w2.cell? ⟨e,2,none⟩=some (zS gf (G l+1) cf)/\w2.cell? ⟨e,3,none⟩=some (.slice at_ (G d) ct))/\w2.cell? ⟨gf,G l,none⟩=some (.func (.func N1) #[] cs1)/\w.heap.size<=w2.heap.size) (by
  rintro r w2 ⟨s,f,S',rfl,q0,q1,q2,q3,q4⟩;have C:Ks (λq=>q=e\/D q) w w2:=(Ks.of (aM _ _).drew).t q4;obtain ⟨J,c2,_,_,_,k4⟩:=q2.ph.row;refine ⟨s,f,rfl,⟨S',q0,q1,q2,q3,C⟩,iy HT.o.own C λq hq h2=>?_,⟨(bJ k4).1.2.2.1,(bJ k4).1.2.2.2.1⟩,?_,C.size⟩
  ·exact Yl
  ·refine (nu (a:=⟨gf,G l,none⟩) (C.block gf U ?_)).t yR;rintro (h2|h2)
   ·exact T h2
   ·obtain ⟨N,cs,H⟩:=HXX.o.rd;exact (H.ob gf rfl).2.2 h2))
 clear W HFO
 go_region_law (first|(refine yw _ dr (.tmp 24) (.tmp 32) 104 dr 0 151 i1 .nilFunc 1 8 underlying104 gi qh qi pD rfl ai (.slice at_ (G d) ct) (G d) _ dr (B2.o.alloc _) ⟨w2.heap.size,0,none⟩ 1 1 [.func (.func s) #[] f] dr rfl (λq u hq=>bC w2 [.func (.func s) #[] f] 151 q u hq) (λu hu=>nw) ae jM ae ae (w2.heap.size+1) aq ?_;intro g' b w3 o A hat vQ;obtain ⟨J,c2,z,_,E⟩:=iL.o s f w2 B1.o g' b w3 o A hat B2.o;obtain ⟨⟨p0,p1,p2,p3,p4,p5⟩,⟨x0,x1,x2,x3,x4,x5⟩,EM⟩:=bJ z;have DEL:=I E;clear o A hat E z)|(go_simp;go_at_fn N1;refine BI.o.m ?_;rintro r w2 ⟨s,f,rfl,B1,B2,B3,n2,hs2⟩;obtain ⟨m2,m3⟩:=B3.o;have p:=bG od hs2))
 all_goals go_wp2_with (go_at_call 136;refine DEL.o.m ?_;rintro r B ⟨rfl,E5,F5⟩;obtain ⟨⟨k0,k1,k2,k3,k4,k5⟩,⟨t0,t1,t2,t3,t4,t5⟩,amh⟩:=bJ E5.o)
 all_goals refine aK (v:=zI 0) Rn gN ?_
 all_goals exact ⟨rfl,F5.o⟩
def PU (l d:List (List Wr)) (gf cf ct:Nat) (at_:Option zD) (h:fx w e S D σ M (.slice at_ (G d) ct) (zS gf (G l+1) cf) Z d (l++[us]) gr false) :
  zC prog 101 #[.pointer (some ⟨e,1,none⟩),.pointer (some ⟨e,3,none⟩),.pointer (some ⟨e,2,none⟩)] w λr w'=>r=.returned (zI 0)/\gm e (Ft S e D (.slice at_ (G d) ct) (zS gf (G l+1) cf) Z) (jd e D (.slice at_ (G d) ct) (zS gf (G l+1) cf) Z) (aU us σ) M (d++[dz us σ]) l gr false w w':=by
 obtain ⟨a,c,r1,r2,r3,he⟩:=h.ph.row;obtain ⟨⟨e0,e1,e2,e3,e4,e5⟩,⟨z0,z1,z2,z3,z4,z5⟩,od⟩:=bJ he;obtain ⟨i1,gi,qh,qi,pD⟩:=fe mV;obtain ⟨Nf,y,hf⟩:=h.ru;obtain ⟨Nt,L,ht⟩:=h.rd;have hM:=h.hM;have JX:=h.len;simp only [b6,sA] at JX;have R:cO e D w S (Nf (G l)) (y (G l)) us:=Xs;have Tb:w.ownsRow 0 151 1 (zS gf (G l+1) cf) (G l+1) ((List.range (G l+1)).map λj=>jt (Nf j) (y j)):=Yp;have yR:w.cell? ⟨gf,G l,none⟩=some (.func (.func (Nf (G l))) #[] (y (G l))):=X9;have heg:=R.enters;have T:gf≠e:=(hf.ob gf rfl).2.1;have ab7:at_≠none->(Value.slice at_ (G d) ct).ownBlock≠some gf:=λ_ h1=>h.du gf h1 rfl;have U:=hf.lt gf rfl;have iL:=I (show ∀ (s:Nat) (f:Array zV) (w2:zW),(∃ S':Nat->Prop,(∀ q,S q->S' q)/\(∀ q,S' q->S q\/w.heap.size<=q)/\fx w2 e S' D (aU us σ) M (.slice at_ (G d) ct) (zS gf (G l+1) cf) Z d (l++[us]) gr false/\cO e D w2 S' s f (dz us σ)/\Ks (λq=>q=e\/D q) w w2)->∀ (g' b:Nat) (w3:zW),w3.ownsRow 0 151 1 (zS g' (G d+1) b) (G d+1) (((List.range (G d)).map λj=>jt (Nt j) (L j))++[.func (.func s) #[] f])->(w2.alloc (.cells #[.func (.func s) #[] f] 151)).grownBy w3 (Value.slice at_ (G d) ct).ownBlock->((Value.slice at_ (G d) ct).ownBlock=some g'\/g'=w2.heap.size+1)->w2.ownsRow 0 151 1 (.slice at_ (G d) ct) (G d) ((List.range (G d)).map λj=>jt (Nt j) (L j)) ->
   ∃ J c2,w3.heap[e]?=some (.cells #[.slice J (aU us σ).ord.length c2,zI M,(.slice at_ (G d) ct),(zS gf (G l+1) cf),.bool false,Z] 108 (0,0))/\(∀ q,q≠e->True)/\zC prog 136 #[zS gf (G l+1) cf,zI (G l),zI (((G l):Int)+1)] (w3.setCell ⟨e,2,none⟩ (zS g' (G d+1) b)) λr B=>r=.returned (zS gf (G l) cf)/\Hid (B.heap[e]?=some (.cells #[.slice J (aU us σ).ord.length c2,zI M,(zS g' (G d+1) b),(zS gf (G l+1) cf),.bool false,Z] 108 (0,0)))/\Hid (gm e (Ft S e D (.slice at_ (G d) ct) (zS gf (G l+1) cf) Z) (jd e D (.slice at_ (G d) ct) (zS gf (G l+1) cf) Z) (aU us σ) M (d++[dz us σ]) l gr false w (B.setCell ⟨e,3,none⟩ (zS gf (G l) cf))) from by
  rintro s f w2 ⟨S',s0,s1,Q,ab8,C⟩ g' b w3 o hgr hat ho2;obtain ⟨J,c2,k1,k2,k3,k4⟩:=Q.ph.row;have Cm:=C.size;have oU:=hgr.size;simp at oU;have k:Ks (λq=>(Value.slice at_ (G d) ct).ownBlock=some q) w2 w3:=Mz;have D9:∀ q,S q->¬ (q=e\/D q):=h.ph.notP;have P:∀ q,S q->w2.heap[q]?=w.heap[q]?:=λq hq=>C.block q (h.ph.still q hq) (D9 q hq);have mv:∀ {v:zV} {V:List (List Wr)} {N:Nat->Nat} {cs:Nat->Array zV},dP w S e D v V N cs->dP w2 S' e D v V N cs:=λ{v V N cs} H=>(H.keep C P λq hq h2=>by
   rcases h2 with h2|h2
   ·exact (H.ob q hq).2.1 h2
   ·exact (H.ob q hq).2.2 h2).wide s0 (λ_ h=>h) λq hq=>⟨λhs=>by
    rcases s1 q hs with h2|h2
    ·exact (H.ob q hq).1 h2
    ·have:=H.lt q hq;omega,(H.ob q hq).2.2⟩
  have K:=mv ht;have hf2:=mv hf;obtain ⟨Ng,csg,hg⟩:=h.rg;have hg2:=mv hg;have t:∀ q,S' q->q≠e:=λq hq e'=>Q.ph.eS (e'▸hq);have hte:(Value.slice at_ (G d) ct).ownBlock≠some e:=λh1=>(ht.ob e h1).2.1 rfl;have p:e<w2.heap.size:=ae;have hv:(Value.slice at_ (G d) ct).ownBlock=(Value.slice (some ⟨g',0,none⟩) (G d+1) b).ownBlock\/∃ q,(Value.slice (some ⟨g',0,none⟩) (G d+1) b).ownBlock=some q/\w2.heap.size<=q:=Yt;have htf:(Value.slice at_ (G d) ct).ownBlock≠some gf:=λh1=>h.du gf h1 rfl;have Rs:g'≠gf:=λh1=>Y1;have agz:Z.ownBlock≠some g':=λh1=>by
   rcases hat with h2|h2
   ·exact h.dg g' h2 h1
   ·have:=hg2.lt g' h1;omega
  have z:w3.heap[e]?=some (.cells #[.slice J (aU us σ).ord.length c2,zI M,(.slice at_ (G d) ct),(zS gf (G l+1) cf),.bool false,Z] 108 (0,0)):=(k.block e p hte).t k4;have n:∀ q,S' q->w3.heap[q]?=w2.heap[q]?:=λq hq=>k.block q (Q.ph.still q hq) λh1=>(K.ob q h1).1 hq;have ht3:=(K.snoc ab8 Q.ph.still p (λq hq=>(Q.ph.bX q hq).lt) hgr o hv).tF t 2 (zS g' (G d+1) b);have Jy:=(hf2.keep k n (λq hq h1=>ZM)).tF t 2 (zS g' (G d+1) b);have hg4:=(hg2.keep k n (λq hq h1=>h.dg q h1 hq)).tF t 2 (zS g' (G d+1) b);have wJ:cK w3 S' e D (aU us σ) (zI M) (.slice at_ (G d) ct) (zS gf (G l+1) cf) (.bool false) Z 108:=Q.ph.same (by
   rintro q (h1|rfl|h1)
   ·exact n q h1
   ·exact k.block _ p hte
   ·exact k.block q (Q.ph.bX q h1).lt λh2=>(K.ob q h2).2.2 h1) k.size
  have hk4:Ks (λq=>q=e) w3 (w3.setCell ⟨e,2,none⟩ (zS g' (G d+1) b)):=(Ks.refl (λq=>q=e) w3).set e 2 _ rfl;have O:cK (w3.setCell ⟨e,2,none⟩ (zS g' (G d+1) b)) S' e D (aU us σ) (zI M) (zS g' (G d+1) b) (zS gf (G l+1) cf) (.bool false) Z 108:=wJ.beside hk4 λa c h1=>(aj h1 2 _).t rfl;have he4:(w3.setCell ⟨e,2,none⟩ (zS g' (G d+1) b)).heap[e]?=some (.cells #[.slice J (aU us σ).ord.length c2,zI M,(zS g' (G d+1) b),(zS gf (G l+1) cf),.bool false,Z] 108 (0,0)):=(aj z 2 _).t rfl;generalize hw4:w3.setCell ⟨e,2,none⟩ (zS g' (G d+1) b)=w4 at *;refine ⟨J,c2,z,λ_ _=>trivial,?_⟩;have Y:w4.ownsRow 0 151 1 (zS gf (G l+1) cf) (G l+1) ((List.range (G l+1)).map λj=>jt (Nf j) (y j)):=Yo;refine (zf 0 gf cf (G l) (G l) _ w4 Y (aG _) ae (λv hv=>by
   obtain ⟨j,_,rfl⟩:=bU.1 hv;rfl)).m ?_
  rintro r B ⟨rfl,m,ho5⟩;have F:e<w4.heap.size:=(cz.1 he4).1;have he5:=(m.block e F (λh1=>T h1.symm)).t he4;have g:∀ q,S' q->B.heap[q]?=w4.heap[q]?:=λq hq=>m.block q (O.still q hq) λh1=>(Jy.ob gf rfl).1 (h1▸hq);have JV:cK B S' e D (aU us σ) (zI M) (zS g' (G d+1) b) (zS gf (G l+1) cf) (.bool false) Z 108:=O.same (by
   rintro q (h1|rfl|h1)
   ·exact g q h1
   ·exact m.block _ F (λh1=>T h1.symm)
   ·exact m.block q (O.bX q h1).lt λh2=>(Jy.ob gf rfl).2.2 (h2▸h1)) m.size
  have X:Ks (λq=>q=e) B (B.setCell ⟨e,3,none⟩ (zS gf (G l) cf)):=(Ks.refl (λq=>q=e) B).set e 3 _ rfl;have her:(l++[us]).eraseIdx (G l)=l:=Z3;have hf6:=(Jy.erase (w2:=B) (v':=zS gf (G l) cf) (i:=G l) aq g (by
   rw [b6,sA,Nat.add_sub_cancel];exact ho5) rfl).tF t 3 (zS gf (G l) cf)
  rw [her] at hf6;have ht6:=(ht3.keep m g (λq hq h1=>ZJ)).tF t 3 (zS gf (G l) cf);have hg6:=(hg4.keep m g (λq hq h1=>h.ug q rJ hq)).tF t 3 (zS gf (G l) cf);refine ⟨rfl,he5,S',D,(zS g' (G d+1) b),(zS gf (G l) cf),Z,⟨JV.beside X λa c h1=>(aj h1 3 _).t rfl,⟨_,_,ht6⟩,⟨_,_,hf6⟩,⟨_,_,hg6⟩,λq hq h1=>?_,λq hq h1=>?_,λq hq h1=>?_,hM,aN⟩,?_,?_⟩
  ·simp [Value.ownBlock] at hq h1;exact Rs ae
  ·exact Zf
  ·exact h.ug q hq h1
  ·rintro q (h1|h1|h1|h1|h1|h1)
   ·exact (s1 q h1).imp (λh2=>Or.inl h2) id
   ·exact Gw
   ·exact Nk
   ·rcases hv with h2|⟨x,h2,h3⟩
    ·exact Or.inl (Or.inr (Or.inr (Or.inr (Or.inl Co))))
    ·rw [h2] at h1;cases h1;exact Or.inr ae
   ·exact YO
   ·exact YP
  ·have kk:Ks (jd e D (.slice at_ (G d) ct) (zS gf (G l+1) cf) Z) w w3:=(C.wide λq hq=>by
    rcases hq with h1|h1
    ·exact Or.inl h1
    ·exact Or.inr (Or.inl h1)).t (k.wide λq hq=>Or.inr (Or.inr (Or.inl hq)))
   have kk4:Ks (jd e D (.slice at_ (G d) ct) (zS gf (G l+1) cf) Z) w w4:=by rw [<- hw4];exact kk.t (((Ks.refl (λq=>q=e) w3).set e 2 _ rfl).wide λq hq=>Or.inl hq)
   exact (kk4.t (m.wide λq hq=>Or.inr (Or.inr (Or.inr (Or.inl aaW))))).t (X.wide λq hq=>Or.inl hq))
 have W:=I (h.called R w.drew (aM _ _).drew);have HT:=I ht;have HXX:=I h;have HFO:=I Tb;have hl6:(G l)<=6:=ae;have ho6:(G d)<=6:=ae;have hwl:wrap64 (((G l):Int)+1 - 1)=((G l):Int):=(nr (G l) ae).1;have amf:wrap64 (((G l):Int)+1)=((G l):Int)+1:=(nr (G l) ae).2;have N4:((G l):Int)<((G l):Int)+1:=Int.lt_succ _;have PS:¬ ((G l):Int)<0:=Int.not_lt.2 (mF _);have HE:=I he;generalize hNf:Nf (G l)=N1 at *;generalize amg:y (G l)=cs1 at *;clear h hf ht R Tb r1 r2 r3 he JX ab7 hM;go_in;go_wp2_with fail;have BI:=I (W.o.m (R':=λr w2=>∃ s f,r=.returned (.func (.func s) #[] f)/\Hid (∃ S':Nat->Prop,(∀ q,S q->S' q)/\(∀ q,S' q->S q\/w.heap.size<=q)/\fx w2 e S' D (aU us σ) M (.slice at_ (G d) ct) (zS gf (G l+1) cf) Z d (l++[us]) gr false/\cO e D w2 S' s f (dz us σ)/\Ks (λq=>q=e\/D q) w w2)/\Hid (w2.ownsRow 0 151 1 (.slice at_ (G d) ct) (G d) ((List.range (G d)).map λj=>jt (Nt j) (L j)))/\Hid (w2.cell? ⟨e,2,none⟩=some (.slice at_ (G d) ct)/\w2.cell? ⟨e,3,none⟩=some (zS gf (G l+1) cf))/\w2.cell? ⟨gf,G l,none⟩=some (.func (.func N1) #[] cs1)/\w.heap.size<=w2.heap.size) (by
  rintro r w2 ⟨s,f,S',rfl,q0,q1,q2,q3,q4⟩;have C:Ks (λq=>q=e\/D q) w w2:=(Ks.of (aM _ _).drew).t q4;obtain ⟨J,c2,_,_,_,k4⟩:=q2.ph.row;refine ⟨s,f,rfl,⟨S',q0,q1,q2,q3,C⟩,iy HT.o.own C λq hq h2=>?_,⟨(bJ k4).1.2.2.1,(bJ k4).1.2.2.2.1⟩,?_,C.size⟩
  ·exact Yl
  ·refine (nu (a:=⟨gf,G l,none⟩) (C.block gf U ?_)).t yR;rintro (h2|h2)
   ·exact T h2
   ·obtain ⟨N,cs,H⟩:=HXX.o.ru;exact (H.ob gf rfl).2.2 h2))
 clear W HFO
 go_region_law (first|(refine yw _ dr (.tmp 24) (.tmp 32) 104 dr 0 151 i1 .nilFunc 1 8 underlying104 gi qh qi pD rfl ai (.slice at_ (G d) ct) (G d) _ dr (B2.o.alloc _) ⟨w2.heap.size,0,none⟩ 1 1 [.func (.func s) #[] f] dr rfl (λq u hq=>bC w2 [.func (.func s) #[] f] 151 q u hq) (λu hu=>nw) ae jM ae ae (w2.heap.size+1) aq ?_;intro g' b w3 o A hat vQ;obtain ⟨J,c2,z,_,E⟩:=iL.o s f w2 B1.o g' b w3 o A hat B2.o;obtain ⟨⟨p0,p1,p2,p3,p4,p5⟩,⟨x0,x1,x2,x3,x4,x5⟩,EM⟩:=bJ z;have DEL:=I E;clear o A hat E z)|(go_simp;go_at_fn N1;refine BI.o.m ?_;rintro r w2 ⟨s,f,rfl,B1,B2,B3,n2,hs2⟩;obtain ⟨m2,m3⟩:=B3.o;have p:=bG od hs2))
 all_goals go_wp2_with (go_at_call 136;refine DEL.o.m ?_;rintro r B ⟨rfl,E5,F5⟩;obtain ⟨⟨k0,k1,k2,k3,k4,k5⟩,⟨t0,t1,t2,t3,t4,t5⟩,amh⟩:=bJ E5.o)
 all_goals refine aK (v:=zI 0) Rn gN ?_
 all_goals exact ⟨rfl,F5.o⟩
variable {X:Nat->Prop} {R:zV}
def Fi (h:fx w e S D σ M Z U R dn ud gr true) (o:(G gr)<1000000000000) :
  zC prog 72 #[R] ((w.setCell ⟨e,4,none⟩ (.bool false)).setCell ⟨e,5,none⟩ (zN)) λr w2=>∃ N2 cs2 S2,r=.returned (.func (.func N2) #[] cs2)/\fx w2 e S2 D σ M Z U (zN) dn ud [] false/\cO e D w2 S2 N2 cs2 (fY gr)/\(∀ q,Ft S2 e D Z U (zN) q->Ft S e D Z U R q\/w.heap.size<=q)/\Ks (jd e D Z U R) w w2:=by
 obtain ⟨j,N,cs,d⟩:=h.ended;have i:Ks (λq=>q=e) w ((w.setCell ⟨e,4,none⟩ (.bool false)).setCell ⟨e,5,none⟩ (zN)):=((Ks.refl (λq=>q=e) w).set e 4 _ rfl).set e 5 _ rfl;refine (allRow d j.ph.still ae).m ?_;rintro r w2 ⟨N2,cs2,S2,rfl,g,m,n,s1,k⟩;have l:((w.setCell ⟨e,4,none⟩ (.bool false)).setCell ⟨e,5,none⟩ (zN)).heap.size=w.heap.size:=aq;have f:∀ q,S2 q->S q\/R.ownBlock=some q\/w.heap.size<=q:=λq c=>by
  rcases s1 q c with a|a|a
  ·exact Or.inl a
  ·exact Or.inr (Or.inl a)
  ·exact Or.inr (Or.inr ae)
 refine ⟨N2,cs2,S2,rfl,(j.next g).PQ n λq c=>?_,k,?_,(i.wide λq c=>Or.inl c).t (Ks.of g)⟩
 ·rcases s1 q c with a|a|a
  ·exact Or.inl a
  ·refine Or.inr ⟨by have:=d.lt q a;have:=g.size;omega,?_⟩;rintro (b|b|b|b|b)
   ·exact (d.ob q a).2.1 b
   ·exact (d.ob q a).2.2 b
   ·exact h.dg q b a
   ·exact h.ug q b a
   ·simp [Value.ownBlock] at b
  ·refine Or.inr ⟨ae,λb=>?_⟩;have:=j.ltW q b;omega
 ·rintro q (a|a|a|a|a|a)
  ·rcases f q a with b|b|b
   ·exact Or.inl (Or.inl b)
   ·exact Or.inl (Or.inr (Or.inr (Or.inr (Or.inr (Or.inr b)))))
   ·exact Or.inr b
  ·exact Or.inl (Or.inr (Or.inl a))
  ·exact Or.inl (Or.inr (Or.inr (Or.inl a)))
  ·exact Or.inl (Or.inr (Or.inr (Or.inr (Or.inl a))))
  ·exact Or.inl (Or.inr (Or.inr (Or.inr (Or.inr (Or.inl a)))))
  ·simp [Value.ownBlock] at a
def gm.t {u l p s:Nat->Prop} {g b c:List (List Wr)} {f:Bool} {t:bg} (h:gm e p s t M g b c f w1 w') (hF:∀ q,p q->u q\/w.heap.size<=q) (y:∀ q,s q->l q\/w.heap.size<=q) (a:Ks l w w1):gm e u l t M g b c f w w':=by
 obtain ⟨S',X,k,n,m,v,x,i⟩:=h;refine ⟨S',X,k,n,m,v,λq j=>?_,⟨i.os.t a.os,i.tape.t a.tape,i.output.t a.output,bf a.size i.size,λq j o=>?_⟩⟩
 ·rcases x q j with d|d
  ·exact hF q d
  ·exact Or.inr (bf a.size d)
 ·refine (i.block q (bG j a.size) λd=>?_).t (a.block q j o);rcases y q d with r|r
  ·exact o r
  ·omega
def KQ (h:fx w e S D σ M Z U R dn ud gr true) (P:(G gr)<1000000000000) :
  zC prog 67 #[.pointer (some ⟨e,1,none⟩)] w λr w'=>r=.returned (zI 0)/\gm e (Ft S e D Z U R) (jd e D Z U R) σ M (kD M dn (fY gr)) [] [] false w w':=by
 obtain ⟨a,c,V,W,Y,E⟩:=h.ph.row;obtain ⟨Ng,K,F⟩:=h.rg;obtain ⟨ag,j,k,rfl⟩:=b7 F.own;have u:=I ((RV ag j k E).m (R':=λr w1=>r=.returned (.tuple #[.slice ag j k,zI 0])/\w1=(w.setCell ⟨e,4,none⟩ (.bool false)).setCell ⟨e,5,none⟩ (zN)) (by
  intro r w1 X;simpa [qU] using X))
 have y:=I ((Fi h P).m (R':=λr w2=>∃ N2 cs2,r=.returned (.func (.func N2) #[] cs2)/\Hid (zC prog 100 #[.pointer (some ⟨e,1,none⟩),.func (.func N2) #[] cs2] w2 λr w3=>r=.returned (.tuple #[])/\gm e (Ft S e D Z U (.slice ag j k)) (jd e D Z U (.slice ag j k)) σ M (kD M dn (fY gr)) [] [] false w w3)) (by
  rintro r w2 ⟨N2,cs2,S2,rfl,d,t,hf,hk⟩;refine ⟨N2,cs2,rfl,?_⟩;obtain ⟨a2,c2,k1,k2,k3,i⟩:=d.ph.row;obtain ⟨Nd,csd,H⟩:=d.rd;obtain ⟨Nu,T,O⟩:=d.ru;obtain ⟨o,C,z,rfl⟩:=b7 H.own;obtain ⟨B,A,s,rfl⟩:=b7 O.own;have J:=d.len;refine (ab0 M o C z B A s N2 cs2 (fY gr) i H t (λq b=>⟨d.ph.still q b,λN=>d.ph.eS (N▸b)⟩) (λq b=>(d.ph.bX q b).lt) d.hM ae).m ?_;intro r w3 g;refine ⟨by obtain ⟨_,_,_,h1,_⟩:=g;exact h1,?_⟩;obtain ⟨l,m,p,f⟩:=d.kept (λa' c' h1=>by
   rw [i] at h1;simp at h1;obtain ⟨h1,x⟩:=h1;rw [h1,x]) g (C9 M dn _ ae)
  have n:gm e (Ft S2 e D (.slice o C z) (.slice B A s) (zN)) (jd e D (.slice o C z) (.slice B A s) (zN)) σ M (kD M dn (fY gr)) [] [] false w2 w3:=by
   refine ⟨S2,D,l,_,_,m,?_,f⟩;rintro q (h1|h1)
   ·exact Or.inl (Or.inl h1)
   ·exact (p q h1).imp (λx=>Or.inr x) id
  refine n.t hf (λq b=>Or.inl ?_) hk;rcases b with h1|h1|h1|h1|h1
  ·exact Or.inl h1
  ·exact Or.inr (Or.inl h1)
  ·exact Ca
  ·exact Or.inr (Or.inr (Or.inr (Or.inl h1)))
  ·simp [Value.ownBlock] at h1))
 clear h E F V W Y;go_in;go_wp2_with (first|(go_at_call 71;refine u.o.m ?_;rintro r w1 ⟨rfl,rfl⟩)|(go_at_call 72;refine y.o.m ?_;rintro r w2 ⟨N2,cs2,rfl,Q⟩)|(go_at_call 100;refine Q.o.m ?_;rintro r w3 ⟨rfl,b⟩;have L:=I b;clear b));refine aK (v:=zI 0) aaE gN ?_;exact ⟨rfl,L.o⟩
def KS (c:w.heap[e]?=some (.cells #[v0,v1,v2,v3,.bool false,v5] te (0,0))) (ag:Option zD) (d f:Nat) (a:v5=.slice ag d f) :
  zC prog 67 #[.pointer (some ⟨e,1,none⟩)] w λr w'=>r=.returned (zI 10)/\w'=w:=by
 subst a;have b:=I ((RV ag d f c).m (R':=λr w1=>r=.returned (.tuple #[zN,zI 10])/\w1=w) (by
  intro r w1 g;simpa [qU] using g))
 clear c;go_in;go_wp2_with (go_at_call 71;refine b.o.m ?_;rintro r w1 ⟨rfl,rfl⟩);refine aK (v:=zI 10) aaE gN ?_;exact ⟨rfl,rfl⟩
def Al (er:Int) (Q:zW->Prop) (ag:Option zD) (g j:Nat) (w1:zW) (c:zC prog 71 #[.pointer (some ⟨e,1,none⟩)] w λr w'=>r=.returned (.tuple #[.slice ag g j,zI er])/\w'=w1)
  (b:zC prog 72 #[.slice ag g j] w1 λr w2=>∃ N2 cs2,r=.returned (.func (.func N2) #[] cs2)/\(∀ args w,(callFunc N2 args).run prog w=.ok (.enter N2 args) w)/\Hid (zC prog N2 cs2 w2 λr w3=>(∃ i a,r=.returned (.func (.func i) #[] a))/\Q w3)) :
  zC prog 49 #[.pointer (some ⟨e,1,none⟩)] w λr w'=>r=.returned (zI er)/\Q w':=by
 have d:=I c;have f:=I b;clear c b;go_in;go_wp2_with (first|(go_at_call 71;refine d.o.m ?_;rintro r w1 ⟨rfl,rfl⟩)|(go_at_call 72;refine f.o.m ?_;rintro r w2 ⟨N2,cs2,rfl,m,k⟩)|(go_at_fn N2;refine k.o.m ?_;rintro r w3 ⟨⟨i,a,rfl⟩,h⟩;have l:=I h;clear h));refine aK (v:=zI er) (by simp [results,results49,go_sem]) gN ?_;exact ⟨rfl,l.o⟩
end
section
variable {S S' S1 O:Nat->Prop} {e:Nat} {D X:Nat->Prop} {σ σ0 σ1:bg} {v0 v1 v2 v3 v4 v5 v v':zV} {te:TypeId} {w w' W w1 w2 w3:zW} {V:List (List Wr)} {N:Nat->Nat} {cs:Nat->Array zV} {M:Nat} {Z R U:zV} {dn ud gr:List (List Wr)} {op:Bool} {N1:Nat} {cs1:Array zV} {us:List Wr}
def Fj (of:Nat) (af:Option zD) (b cf:Nat) (a:zV) (c:w.cell? ⟨e,4,none⟩=some (.bool true)) (d:w.cell? ⟨e,of,none⟩=some (.slice af b cf)) :
  zC prog 101 #[.pointer (some ⟨e,1,none⟩),.pointer (some ⟨e,of,none⟩),a] w λr w'=>r=.returned (zI 9)/\w'=w:=by
 go_in;go_wp2;refine aK (v:=zI 9) Rn gN ?_;exact ⟨rfl,rfl⟩
def Fk (of:Nat) (af:Option zD) (cf:Nat) (a:zV) (c:w.cell? ⟨e,4,none⟩=some (.bool false)) (b:w.cell? ⟨e,of,none⟩=some (.slice af 0 cf)) :
  zC prog 101 #[.pointer (some ⟨e,1,none⟩),.pointer (some ⟨e,of,none⟩),a] w λr w'=>r=.returned (zI 11)/\w'=w:=by
 go_in;go_wp2;refine aK (v:=zI 11) Rn gN ?_;exact ⟨rfl,rfl⟩
def zg (er:Int) (Q:zW->Prop) (h:zC prog 101 #[.pointer (some ⟨e,1,none⟩),.pointer (some ⟨e,2,none⟩),.pointer (some ⟨e,3,none⟩)] w.drew λr w'=>r=.returned (zI er)/\Q w') :
  zC prog 68 #[.pointer (some ⟨e,1,none⟩)] w λr w'=>r=.returned (zI er)/\Q w':=by
 have H:=I h;clear h;go_in;go_wp2_with fail
 go_region_with (first|(go_at_call 101;refine H.o.m ?_;rintro r w1 ⟨rfl,a⟩;have b:=I a;clear a))
 all_goals go_wp2
 all_goals refine aK (v:=zI er) (by simp [results,results68,go_sem]) gN ?_
 all_goals exact ⟨rfl,b.o⟩
def zh (er:Int) (Q:zW->Prop) (h:zC prog 101 #[.pointer (some ⟨e,1,none⟩),.pointer (some ⟨e,3,none⟩),.pointer (some ⟨e,2,none⟩)] w.drew λr w'=>r=.returned (zI er)/\Q w') :
  zC prog 69 #[.pointer (some ⟨e,1,none⟩)] w λr w'=>r=.returned (zI er)/\Q w':=by
 have H:=I h;clear h;go_in;go_wp2_with fail
 go_region_with (first|(go_at_call 101;refine H.o.m ?_;rintro r w1 ⟨rfl,a⟩;have b:=I a;clear a))
 all_goals go_wp2
 all_goals refine aK (v:=zI er) (by simp [results,results69,go_sem]) gN ?_
 all_goals exact ⟨rfl,b.o⟩
structure Uw where
 σ:bg
 dn:List (List Wr)
 ud:List (List Wr)
 gr:List (List Wr)
 op:Bool
def kE (s:Uw):Nat × Uw:=if s.op=true then (9,s) else match s.dn.getLast? with
 | none=>(11,s)
 | some us=>(0,⟨aU us s.σ,s.dn.dropLast,s.ud++[dz us s.σ],s.gr,false⟩)
def kF (s:Uw):Nat × Uw:=if s.op=true then (9,s) else match s.ud.getLast? with
 | none=>(11,s)
 | some us=>(0,⟨aU us s.σ,s.dn++[dz us s.σ],s.ud.dropLast,s.gr,false⟩)
def gm.uW {F f:Nat->Prop} {g:bg} {d a b:List (List Wr)} {c:Bool} (h:gm e F f g M d a b c w.drew w'):gm e F f g M d a b c w w':=
 h.t (λ_ h=>Or.inl h) (λ_ h=>Or.inl h) (Ks.of (aM _ _).drew)
def ai1 (h:fx w e S D σ M Z R U dn ud gr op) :
  zC prog 68 #[.pointer (some ⟨e,1,none⟩)] w λr w'=>r=.returned (zI ((kE ⟨σ,dn,ud,gr,op⟩).1:Int))/\gm e (Ft S e D Z R U) (jd e D Z R U) (kE ⟨σ,dn,ud,gr,op⟩).2.σ M (kE ⟨σ,dn,ud,gr,op⟩).2.dn (kE ⟨σ,dn,ud,gr,op⟩).2.ud (kE ⟨σ,dn,ud,gr,op⟩).2.gr (kE ⟨σ,dn,ud,gr,op⟩).2.op w w':=by
 replace h:=h.next (aM _ _).drew;obtain ⟨a,c,s,t,y,i⟩:=h.ph.row;obtain ⟨⟨u,e1,b,z,g,v⟩,_,_⟩:=bJ i;obtain ⟨x,p,f⟩:=h.rd;obtain ⟨q,j,m⟩:=h.ru;obtain ⟨af,cf,rfl⟩:=eM f.own;obtain ⟨at_,ct,rfl⟩:=eM m.own;unfold kE;cases op with
 | true=>
  simp only [jq];refine zg 9 _ ((Fj 2 af _ cf _ g b).m ?_);rintro r w' ⟨rfl,rfl⟩;exact ⟨rfl,(h.self (aM _ _)).uW⟩
 | false=>
  simp only [sY,k8];cases d:dn.getLast? with
  | none=>
   have n:dn=[]:=List.getLast?_eq_none_iff.1 d;subst n;refine zg 11 _ ((Fk 2 af cf _ g b).m ?_);rintro r w' ⟨rfl,rfl⟩;exact ⟨rfl,(h.self (aM _ _)).uW⟩
  | some us=>
   obtain ⟨l,rfl⟩:=List.getLast?_eq_some_iff.1 d;obtain ⟨gf,o,k,_,_⟩:=f.own.form aq;cases k;have:=PR (us:=us) l ud gf cf ct at_ jP;simp only [Bz,b6,sA];exact zg 0 _ (this.m λr w' h=>⟨h.1,h.2.uW⟩)
def ai2 (h:fx w e S D σ M Z R U dn ud gr op) :
  zC prog 69 #[.pointer (some ⟨e,1,none⟩)] w λr w'=>r=.returned (zI ((kF ⟨σ,dn,ud,gr,op⟩).1:Int))/\gm e (Ft S e D Z R U) (jd e D Z R U) (kF ⟨σ,dn,ud,gr,op⟩).2.σ M (kF ⟨σ,dn,ud,gr,op⟩).2.dn (kF ⟨σ,dn,ud,gr,op⟩).2.ud (kF ⟨σ,dn,ud,gr,op⟩).2.gr (kF ⟨σ,dn,ud,gr,op⟩).2.op w w':=by
 replace h:=h.next (aM _ _).drew;obtain ⟨a,c,t,u,z,i⟩:=h.ph.row;obtain ⟨⟨v,e1,q,f,g,x⟩,_,_⟩:=bJ i;obtain ⟨y,p,d⟩:=h.ru;obtain ⟨s,j,m⟩:=h.rd;obtain ⟨af,cf,rfl⟩:=eM d.own;obtain ⟨at_,ct,rfl⟩:=eM m.own;unfold kF;cases op with
 | true=>
  simp only [jq];refine zh 9 _ ((Fj 3 af _ cf _ g f).m ?_);rintro r w' ⟨rfl,rfl⟩;exact ⟨rfl,(h.self (aM _ _)).uW⟩
 | false=>
  simp only [sY,k8];cases b:ud.getLast? with
  | none=>
   have n:ud=[]:=List.getLast?_eq_none_iff.1 b;subst n;refine zh 11 _ ((Fk 3 af cf _ g f).m ?_);rintro r w' ⟨rfl,rfl⟩;exact ⟨rfl,(h.self (aM _ _)).uW⟩
  | some us=>
   obtain ⟨l,rfl⟩:=List.getLast?_eq_some_iff.1 b;obtain ⟨gf,o,k,_,_⟩:=d.own.form aq;cases k;have:=PU (us:=us) l dn gf cf ct at_ jP;simp only [Bz,b6,sA];exact zh 0 _ (this.m λr w' h=>⟨h.1,h.2.uW⟩)
def Am (h:fx w e S D σ M Z U R dn ud gr true) (m:(G gr)<1000000000000) :
  zC prog 49 #[.pointer (some ⟨e,1,none⟩)] w λr w'=>r=.returned (zI 0)/\gm e (Ft S e D Z U R) (jd e D Z U R) (aU (fY gr) σ) M dn ud [] false w w':=by
 obtain ⟨a,c,E,F,J,j⟩:=h.ph.row;obtain ⟨H,l,n⟩:=h.rg;obtain ⟨ag,g,i,rfl⟩:=b7 n.own;refine Al 0 _ ag g i _ ((RV ag g i j).m (by
  intro r w1 t;simpa [qU] using t)) ((Fi h m).m ?_)
 rintro r w2 ⟨N2,cs2,S2,rfl,z,b,x,y⟩;refine ⟨N2,cs2,rfl,b.enters,(z.called b w2 (aM _ _)).m ?_⟩;rintro r w3 ⟨v,f,A,rfl,C,o,p,B,k⟩;refine ⟨⟨v,f,rfl⟩,?_⟩;have d:gm e (Ft S2 e D Z U (zN)) (jd e D Z U (zN)) (aU (fY gr) σ) M dn ud [] false w2 w3:=by
  refine ⟨A,D,Z,U,_,p,?_,k.wide ?_⟩
  ·rintro q (h1|h1)
   ·exact (o q h1).imp (λs=>Or.inl s) id
   ·exact Or.inl (Or.inr h1)
  ·exact YM
 refine d.t x (λq u=>Or.inl ?_) y;rcases u with h1|h1|h1|h1|h1
 ·exact Or.inl h1
 ·exact Or.inr (Or.inl h1)
 ·exact Ca
 ·exact Or.inr (Or.inr (Or.inr (Or.inl h1)))
 ·simp [Value.ownBlock] at h1
def Ao (h:fx w e S D σ M Z U R dn ud gr false) :
  zC prog 49 #[.pointer (some ⟨e,1,none⟩)] w λr w'=>r=.returned (zI 10)/\gm e (Ft S e D Z U R) (jd e D Z U R) σ M dn ud gr false w w':=by
 obtain ⟨a,c,E,F,H,l⟩:=h.ph.row;obtain ⟨G,o,p⟩:=h.rg;obtain ⟨ag,j,k,rfl⟩:=b7 p.own;refine Al 10 _ none 0 0 w ((RV ag j k l).m (by
  intro r w1 v;simpa [qU] using v)) ((allRow (dP.nil w S e D) h.ph.still aq).m ?_)
 rintro r w2 ⟨N2,cs2,S2,rfl,g,m,t,s1,f⟩;have z:fx w2 e S2 D σ M Z U (.slice ag j k) dn ud gr false:=(h.next g).PQ t λq x=>by
  rcases s1 q x with b|b|b
  ·exact Or.inl b
  ·simp [Value.ownBlock] at b
  ·exact Or.inr ⟨ae,λd=>by have:=h.ltW q d;omega⟩
 refine ⟨N2,cs2,rfl,f.enters,(z.called f w2 (aM _ _)).m ?_⟩;rintro r w3 ⟨y,i,A,rfl,C,s,u,B,n⟩;refine ⟨⟨y,i,rfl⟩,A,D,Z,U,_,u,?_,(Ks.of g).t (n.wide ?_)⟩
 ·rintro q (h1|h1)
  ·rcases s q h1 with b|b
   ·rcases s1 q b with d|d|d
    ·exact Or.inl (Or.inl d)
    ·simp [Value.ownBlock] at d
    ·exact Or.inr ae
   ·exact Or.inr (bf g.size b)
  ·exact Or.inl (Or.inr h1)
 ·exact YM
end
end Go.Proofs.YtihgojcfpnhelaaGreatDoor
