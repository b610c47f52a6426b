import Derived.Test.YtihgojcfpnhelaaGreatDoorNh
import Derived.Test.YtihgojcfpnhelaaGreatDoorGa
set_option maxRecDepth 100000
set_option maxHeartbeats 4000000
set_option linter.all false
namespace Go.Proofs.YtihgojcfpnhelaaGreatDoor
open Value renaming slice->B,tuple->zp,pointer->zK
open Obj renaming cells->zM
open Ending renaming returned->zP
open Option renaming some->A
open Or renaming inl->zR,inr->zZ
open Go renaming World->zW,Value->zV,Calls->zC,Addr->zD
open Go.RowKit Go.Proofs.Tryz
open List renaming length→G
section
variable {S S1 O:Nat->Prop} {e:Nat} {D:Nat->Prop} {σ σ0:bg} {v1 v2 v3 v4 v5:zV} {te:TypeId} {w W Z U:zW} {ws0:List Wr} {b:Nat}
def kw (σ:bg) (gs:List (Nat × Fd)) (h:∀ x,x∈gs->x∈σ.fs):(⟨gs.map Prod.fst,σ.mem⟩:bg).fs=gs:=by
 unfold bg.fs;rw [fM]
 conv=>rhs;rw [<- List.map_id gs]
 refine sB λx a=>?_;obtain ⟨q,_,rfl⟩:=bU.1 (h x a);rfl
def cK.aba {s:Option zD} {c2:Nat} {gs:List (Nat × Fd)} (h:cK w S e D σ v1 v2 v3 v4 v5 te) (C:zB w W) (H:yQ S w W s c2 gs) (u:gs≠[]) (k:∀ x,x∈gs->x∈σ.fs) :
  ∃ m:Nat->Prop,(∀ q,S q->m q)/\(∀ q,m q->S q\/(w.heap.size<=q/\∃ c t z,W.heap[q]?=A (zM c t z)))/\cK W m e D σ v1 v2 v3 v4 v5 te/\jQ W m s (gs.map Prod.fst)/\(gs.map Prod.fst).length<=c2/\(s=none->c2=0)/\∀ b,b∈gs.map Prod.fst->D b:=by
 obtain ⟨S2,Y,K,f,l⟩:=H;have P:=f.ptr 0 (BB.2 u);obtain ⟨g,o,rfl,p,a⟩:=P;have y:=h.lt;refine ⟨λq=>S q\/q=g,λq d=>zR d,?_,(h.next C).wide (λq d=>zR d) ?_,λj T=>?_,by simpa using l,λh=>(by cases h),λq d=>?_⟩
 .rintro q (d|rfl)
  .exact zR d
  .rcases K q p with i|i
   .exact zR i
   .refine zZ ⟨i,?_⟩;unfold World.cell? at a;cases v:W.heap[q]? with
    | none=>rw [v] at a;simp at a
    | some N=>
     rw [v] at a;cases N<;>simp at a;exact ⟨_,_,_,rfl⟩
 .rintro q (d|rfl)
  .exact zR d
  .rcases K q p with i|i
   .exact zR i
   .refine zZ ⟨f.still q p,by omega,λF=>?_⟩;have:=(h.bX q F).lt;omega
 .have n:j<G gs:=(by simpa using T);obtain ⟨V,L,M,_,R⟩:=f.ptr j n;cases M;exact ⟨g,o,rfl,zZ rfl,by simpa using R⟩
 .obtain ⟨x,E,rfl⟩:=bU.1 d;obtain ⟨q,r,rfl⟩:=bU.1 (k x E);exact h.sub q r
def Cw (S:Nat->Prop) (e:Nat) (D:Nat->Prop) (σ0:bg) (ws0:List Wr) (v1 v2 v3 v4 v5:zV) (te:TypeId) (hs gs:List (Nat × Fd)) (w:zW) (r:Ending) (w':zW):Prop:=
 ∃ (d:Option zD) (E f:Nat) (a:Array zV) (C:Nat->Prop) (b:List Wr),r=zP (zp #[B d (G hs) E,.func (.func f) #[] a,J 0])/\w'.ownsRow w.heap.size 9 1 (B d (G hs) E) (G hs) (ab (cJ hs))/\(∀ q,(B d (G hs) E).ownBlock=A q->¬ C q) /\
  (∀ q,S q->C q)/\(∀ q,C q->S q\/(w.heap.size<=q/\∃ c t z,w'.heap[q]?=A (zM c t z)))/\cK w' C e D (aU (ws0++b) σ0) v1 v2 v3 v4 v5 te/\cO e D w' C f a (dz (ws0++b) σ0)/\Ks (λq=>q=e\/D q) w w'/\(aU (ws0++b) σ0).fs=iR gs (hs.map λx=>x.1)
def OO (at_ N0:Nat) (h3:Array zV) (gs:List (Nat × Fd)) (h:cK w S e D σ v1 v2 v3 v4 v5 te) (hσ:aU ws0 σ0=σ) (a9:cO e D w S N0 h3 (dz ws0 σ0)) (hl:σ.ord.length<=100) (a8:σ.ord[at_]?=A b) (Eb:σ.ord.Nodup) (w7:dL σ.fs at_ (b,σ.mem b)=.ok gs) (hW:(b,σ.mem b)∈gs) :
  zC prog 161 #[zJ e,zJ b,.func (.func N0) #[] h3] w (Cw S e D σ0 ws0 v1 v2 v3 v4 v5 te ((b,σ.mem b)::aO [(σ.mem b).nm] gs) gs w):=by
 obtain ⟨Jx,xF⟩:=fI.1 a8;have JS:σ.fs.length=σ.ord.length:=(by simp [bg.fs]);have h2:at_<σ.fs.length:=(by omega);have N7:σ.fs[at_]=(b,σ.mem b):=(by simp [bg.fs,xF]);have hu:∀ w3 (h:w3<σ.fs.length),w3<at_->(σ.fs[w3]).1≠b:=λw3 hi cs=>(by have:=sW.1 Eb w3 at_ (by omega) Jx cs;simpa [bg.fs,<- xF] using this);have ao:=(xJ σ.fs gs at_ (b,σ.mem b) h2 N7 w7).2;have xE:G gs<=100:=by rw [(xJ σ.fs gs at_ (b,σ.mem b) h2 N7 w7).1,JS];exact hl
 have Rv:gs≠[]:=λh0=>by rw [h0] at hW;simp at hW
 have od:e<w.heap.size:=h.lt;have a5:D b:=h.sub b (xF▸bt Jx);obtain ⟨ar,c,yP,bb,OP,bn⟩:=h.sh;obtain ⟨⟨e0,e1,e2,e3,e4,e5⟩,⟨z0,z1,z2,z3,z4,z5⟩,_⟩:=bJ bn;have HM:=I ((Cx ar c at_ σ.fs (b,σ.mem b) w yP (by omega) h2 N7 bb hu).m (R':=λr v=>∃ m c2,r=zP (zp #[B m (G gs) c2,zN])/\Hid (yQ S w v m c2 gs)/\zB w v) (by
  rintro r v ⟨hb,h⟩;rw [w7] at h;obtain ⟨m,c2,F,V⟩:=h;exact ⟨m,c2,F,V,hb⟩))
 obtain ⟨i1,gi,qh,qi,pD⟩:=fe oX;have U:=I h;have bN:=I a9;have bO:=I hW;have Tq:=I ao;clear yP bn h a9 hu w7 a8 xF Jx h2 N7 Eb hW ao JS bb OP;go_in;go_wp2_with (go_at_call 190;refine mo HM.o ?_;rintro r v ⟨m,c2,rfl,au,Q5⟩);obtain ⟨S3,s0,s1,JT,bl,ba,wR,Tr⟩:=U.o.aba Q5 au.o Rv Tq.o;rw [fy] at ba;have SZ:=I (show zC prog 163 #[zJ e,B m (G gs) c2] v (gX S3 e D σ [.ord (gs.map Prod.fst)] v1 v2 v3 v4 v5 te v) by
  have:=Hf JT (gs.map Prod.fst) m c2 Tr bl (by simpa using ba) wR;rwa [fy] at this)
 have vA:=I Q5;have an:=I s0;have bS:=I s1;have VZ:=I JT;clear Q5 au HM JT bl wR Tr s0 s1;apply I;go_wp2_with (go_at_call 163;refine mo SZ.o ?_;rintro r w2 ⟨N1,ck,S4,rfl,Q4⟩);obtain ⟨t0,t1,yA,av,ad⟩:=Q4;have Z:aU (ws0++[.ord (gs.map Prod.fst)]) σ0=⟨gs.map Prod.fst,σ.mem⟩:=by rw [lH,hσ];rfl
 have ax:(⟨gs.map Prod.fst,σ.mem⟩:bg).fs=gs:=kw σ gs Tq.o;have g:Ks (λq=>q=e\/D q) w w2:=(Ks.of vA.o).t ad;have am:=I (show zC prog 72 #[zS w2.heap.size 2 2] (w2.alloc (zM #[.func (.func N0) #[] h3,.func (.func N1) #[] ck] 151)) (gX S e D σ0 (ws0++[.ord (gs.map Prod.fst)]) v1 v2 v3 v4 v5 te w) by
  have OQ:=Bc (S:=S) (O:=λq=>w.heap.size<=q) (w:=w) (W:=w2) (N1:=N0) (cs1:=h3) (λq E=>bf g.size E) (ws1:=ws0) (ws2:=[.ord (gs.map Prod.fst)]) (σ:=σ0) (by rw [Z];exact yA) (λq E=>t0 q (an.o q E)) (λq E=>?_) (((bN.o.next (U.o.still |> λP q E=>(g.block q (P q E) (U.o.notP q E)))).wide (λq E=>t0 q (an.o q E)) λ_ h=>h)) (by rw [hσ];exact av) g
  .exact (OQ.all (by omega) (λq E=>by have:=g.size;simp at E;show w.heap.size<=q;omega)).m λ_ _ h=>h.1
  .rcases t1 q E with F|⟨F,c,t,z,V⟩
   .rcases bS.o q F with a|⟨a,c,t,z,h4⟩
    .exact zR a
    .exact zZ ⟨a,c,t,z,ad.cells h4 (VZ.o.notP q F)⟩
   .exact zZ ⟨bf vA.o.size F,c,t,z,V⟩)
 obtain ⟨a3,c3,_,_,_,Q0⟩:=yA.sh;obtain ⟨⟨h0,F,V,a,h4,h5⟩,⟨y0,y1,y2,y3,y4,y5⟩,c1⟩:=bJ Q0;have cd:=yA.bX b a5;obtain ⟨_,_,_,_,fa,fl,fc,Ts,_⟩:=cd;obtain ⟨⟨j0,_⟩,_,c4⟩:=fP Ts;have JU:=I Ts;have c5:=I Q0;have c6:=I g;clear Ts Q0 yA av ad t0 t1 SZ e0 e1 e2 e3 e4 e5 z0 z1 z2 z3 z4 z5 g;apply I;go_wp2_with (go_at_call 72;refine mo am.o ?_;rintro r H ⟨N3,a4,S5,rfl,Q4⟩);obtain ⟨u0,u1,wJ,ay,bk⟩:=Q4;have hs:cK H S5 e D ⟨gs.map Prod.fst,σ.mem⟩ v1 v2 v3 v4 v5 te:=by rw [Z] at wJ;exact wJ
 obtain ⟨a3,c3,QV,c8,c9,ak⟩:=hs.sh;rw [ax] at QV ak;obtain ⟨⟨h0,F,V,a,h4,h5⟩,⟨y0,y1,y2,y3,y4,y5⟩,EM⟩:=bJ ak;obtain ⟨fa,fl,fc,aJ,_⟩:=(hs.bX b a5).open;obtain ⟨⟨j0,_⟩,_,dn⟩:=fP aJ;have HH:=I (λW (hb:zB H W)=>zX (σ.mem b).nm e c3 a3 gs W (QV.next hb) ((hb.cell (p:=yh e) EM).t h0) (bG EM hb.size) (by omega));have l:=I hs;have a0:=I QV;have bX:=I u0;have b0:=I u1;have ce:=I ay;have Tt:=I bk;clear wJ hs ay bk u0 u1 ak aJ QV am;apply I;have HL:=I (show (H.alloc (zM #[zJ b] 220)).ownsRow H.heap.size 220 1 (zS H.heap.size 1 1) 1 (cA [(b,σ.mem b)]) from World.ownsRow_lit (base:=H.heap.size) (e:=220) (size:=1) H #[zJ b] 1 (aG _) (by unfold maxLen;omega) rfl);have Tn:=Cy [(σ.mem b).nm] gs;go_wp2_with (go_at_call 166;refine mo (HH.o _ (bZ _)) ?_;rintro r w4 ⟨vh,rfl,ag,aa⟩);have xB:=I (show zB H w4 from (bZ _).t (aa.m (by simp)));have L:=I (aZ HL.o aa);have a2:=I ag;have br:=xB.o.size;have ct:=ag.2;clear aa HL HH ag;apply I;have QT:=I (show ∀ (M:zV) (Y:zW),Y.ownsRow H.heap.size 220 1 M (1+(aO [(σ.mem b).nm] gs).length) (cA [(b,σ.mem b)]++cA (aO [(σ.mem b).nm] gs))->zB H Y ->
   (∀ W (f:zB Y W),zC prog 142 #[M] W λr w'=>∃ n K,r=zP (B n ((b,σ.mem b)::aO [(σ.mem b).nm] gs).length K)/\w'.ownsRow W.heap.size 9 1 (B n ((b,σ.mem b)::aO [(σ.mem b).nm] gs).length K) ((b,σ.mem b)::aO [(σ.mem b).nm] gs).length (ab (cJ ((b,σ.mem b)::aO [(σ.mem b).nm] gs)))/\zB W w') /\
   (∀ (n:Option zD) (K:Nat) W (f:zB Y W),W.ownsRow Y.heap.size 9 1 (B n ((b,σ.mem b)::aO [(σ.mem b).nm] gs).length K) ((b,σ.mem b)::aO [(σ.mem b).nm] gs).length (ab (cJ ((b,σ.mem b)::aO [(σ.mem b).nm] gs)))->zC prog 167 #[zJ e,M] W λr i=>∃ j s,r=zP (.func (.func j) #[] s)/\Hid (zC prog 72 #[zS i.heap.size 2 2] (i.alloc (zM #[.func (.func N3) #[] a4,.func (.func j) #[] s] 151)) λr w8=>∃ k C,r=zP (.func (.func k) #[] C)/\Cw S e D σ0 ws0 v1 v2 v3 v4 v5 te ((b,σ.mem b)::aO [(σ.mem b).nm] gs) gs w (zP (zp #[B n ((b,σ.mem b)::aO [(σ.mem b).nm] gs).length K,.func (.func k) #[] C,J 0])) w8)) from λM Y d rG=>by
  have cr:1+(aO [(σ.mem b).nm] gs).length=((b,σ.mem b)::aO [(σ.mem b).nm] gs).length:=(by simp;omega);have JV:cA [(b,σ.mem b)]++cA (aO [(σ.mem b).nm] gs)=cA ((b,σ.mem b)::aO [(σ.mem b).nm] gs):=(by simp [cA]);rw [cr,JV] at d;obtain ⟨g5,b1,rfl,dF,a1⟩:=d.form (by simp);have Q6:∀ x,x∈(b,σ.mem b)::aO [(σ.mem b).nm] gs->x∈gs:=λx o=>by
   rcases bQ.1 o with rfl|h
   .exact bO.o
   .exact mX _ _ x h
  have cf:∀ x,x∈gs->x.1<H.heap.size:=λx o=>(a0.o.bX x o).lt;have ed:((b,σ.mem b)::aO [(σ.mem b).nm] gs).length<=500:=(by simp;omega);generalize dZ:(b,σ.mem b)::aO [(σ.mem b).nm] gs=P at *;refine ⟨λW f=>(uK _ _ _ W (((a0.o.next rG).OS Q6 d cf).next f) (by omega)).m (by
   rintro r w' ⟨ei,rfl,F,V⟩;obtain ⟨n,K,rfl⟩:=eM F;exact ⟨n,K,rfl,F,V⟩),λn K W f JA=>?_⟩
  have cn:zB H W:=rG.t (f.m rG.size);have cl:∀ x,x∈P->D x.1:=λx o=>by
   obtain ⟨q,cw,e'⟩:=bU.1 (Tq.o x (Q6 x o));rw [<- e'];exact U.o.sub q cw
  have bs:=EL (w:=W) (S:=S5) (e:=e) (D:=D) (σ:=⟨gs.map Prod.fst,σ.mem⟩) (v1:=v1) (v2:=v2) (v3:=v3) (v4:=v4) (v5:=v5) (te:=te) b1 (A (yh g5)) (P.map λx=>x.1) (l.o.next cn) (by simp;omega) (by simp;omega) (λaf hj=>by
   have bj:af<G P:=(by simpa using hj);refine ⟨by simpa using cl _ (bt bj),g5,0,rfl,bG a1 f.size,by omega,λhD=>?_,?_⟩
   .have:=(l.o.bX g5 hD).lt;omega
   .rw [f.cell (p:=X g5 (0+af)) a1,cS,d.cellAt af (by omega)];unfold cA;rw [kn,cU bj];simp)
  rw [fy] at bs;refine bs.m ?_;rintro r i ⟨j,s,S7,rfl,m0,m1,cu,ch,y⟩;refine ⟨j,s,rfl,?_⟩;have ci:Ks (λq=>q=e\/D q) w i:=(Tt.o.t (Ks.of cn)).t y;have u:∀ q,(B n (G P) K).ownBlock=A q->Y.heap.size<=q/\q<W.heap.size:=λq E=>JA.lt q E;have cx:=rG.size;have cy:=f.size;have c0:=y.size;have ee:=Tt.o.size;have b2:i.ownsRow Y.heap.size 9 1 (B n (G P) K) (G P) (ab (cJ P)):=iy JA y λq E F=>by
   have:=(u q E).1;rcases F with F|F
   .omega
   .have:=(l.o.bX q F).lt;omega
  have bu:aU (ws0++[.ord (gs.map Prod.fst)]++gB ⟨gs.map Prod.fst,σ.mem⟩ (P.map λx=>x.1)) σ0=aU (gB ⟨gs.map Prod.fst,σ.mem⟩ (P.map λx=>x.1)) ⟨gs.map Prod.fst,σ.mem⟩:=by rw [lH,Z]
  have OQ:=Bc (S:=S) (O:=λq=>w.heap.size<=q/\(B n (G P) K).ownBlock≠A q) (w:=w) (W:=i) (N1:=N3) (cs1:=a4) (N2:=j) (cs2:=s) (λq E=>⟨by omega,λF=>by have:=(u q F).2;omega⟩) (ws1:=ws0++[.ord (gs.map Prod.fst)]) (ws2:=gB ⟨gs.map Prod.fst,σ.mem⟩ (P.map λx=>x.1)) (σ:=σ0) (S1:=S7) (by rw [bu];exact cu) (λq E=>m0 q (bX.o q E)) (λq E=>?_) ((ce.o.next (λq E=>(y.block q (bG (l.o.still q E) cn.size) (l.o.notP q E)).t (cn.block q (l.o.still q E)))).wide m0 λ_ h=>h) (by rw [Z];exact ch) ci
  .refine (OQ.all (by omega) (λq E=>⟨by simp at E;omega,λF=>by have:=(u q F).2;simp at E;omega⟩)).m ?_;rintro r w8 ⟨⟨k,C,S8,rfl,p0,p1,cv,b3,cp⟩,co⟩;refine ⟨k,C,rfl,n,K,k,C,S8,[.ord (gs.map Prod.fst)]++gB ⟨gs.map Prod.fst,σ.mem⟩ (P.map λx=>x.1),rfl,?_,λq E cm=>?_,p0,λq E=>(p1 q E).imp id λh=>⟨h.1.1,h.2⟩,by rw [<- kI];exact cv,by rw [<- kI];exact b3,cp,?_⟩
   .exact dS (aZ (aZ b2 (bZ _)) co) (by omega)
   .rcases p1 q cm with F|F
    .have:=U.o.still q F;have:=(u q E).1;omega
    .exact F.1.2 E
   .rw [<- kI,bu,EK,ax];intro q E;obtain ⟨x,o,rfl⟩:=bU.1 E;exact iJ (Q6 x o)
  .rcases m1 q E with F|⟨F,c,t,z,V⟩
   .rcases b0.o q F with a|⟨a,c,t,z,h4⟩
    .exact zR a
    .refine zZ ⟨⟨a,λh5=>?_⟩,c,t,z,y.cells ((cn.block q (l.o.still q F)).t h4) (l.o.notP q F)⟩;have:=l.o.still q F;have:=(u q h5).1;omega
   .refine zZ ⟨⟨by omega,λh5=>?_⟩,c,t,z,V⟩;have:=(u q h5).2;omega)
 rcases ct with ⟨rfl,ac⟩|⟨gh,cc,ds,rfl,dV,du,_⟩
 .go_wp2_with (at_builtin;refine Bv rfl (.tmp 38) (.tmp 44) 101 rfl H.heap.size 220 i1 1 underlying101 gi (zS H.heap.size 1 1) 1 (cA [(b,σ.mem b)]) rfl L.o rfl ?_;apply Hid.o);obtain ⟨hq,R⟩:=QT.o (zS H.heap.size 1 1) w4 (by
   rw [ac,k7,oD ac,show cA ([]:List (Nat × Fd))=[] from rfl,iq];exact L.o) xB.o
  have HN:=I hq;have w1:=I R;clear hq R QT L a2 ac;apply I;go_wp2_with (first|(go_at_call 142;refine (HN.o _ (aM _ _)).m ?_;rintro r w6 ⟨n,K,rfl,h1,T⟩;have hx:=I h1;have N8:=I T;clear h1 T)|(go_at_call 167;refine (w1.o n K _ N8.o hx.o).m ?_;rintro r i ⟨j,s,rfl,Tm⟩)|(go_at_call 72;refine Tm.o.m ?_;rintro r w8 ⟨k,C,rfl,N⟩;have sI:=I N;clear N))
  go_ret3
  exact sI.o
 .go_wp2_with (at_builtin;refine km _ rfl (.tmp 38) (.tmp 44) 101 rfl H.heap.size 220 i1 (zK none) 1 8 underlying101 gi qh qi pD rfl (by decide) (zS H.heap.size 1 1) 1 (cA [(b,σ.mem b)]) rfl L.o (yh gh) (aO [(σ.mem b).nm] gs).length cc (cA (aO [(σ.mem b).nm] gs)) rfl (by simp [cA]) (λq bv E=>a2.o.cells rfl q bv E) (λbv hu=>by simp [cA] at hu;obtain ⟨ar,b,_,rfl⟩:=hu;rfl) (by unfold maxLen;omega) (by omega) br ?_;intro M Y d al _;apply Hid.o);have bw:=I (xB.o.grown al br (λq E=>(L.o.lt q E).1));obtain ⟨hq,R⟩:=QT.o M Y d bw.o;have HN:=I hq;have w1:=I R;clear hq R d al QT L a2;apply I;go_wp2_with (first|(go_at_call 142;refine (HN.o _ (aM _ _)).m ?_;rintro r w6 ⟨n,K,rfl,h1,T⟩;have hx:=I h1;have N8:=I T;clear h1 T)|(go_at_call 167;refine (w1.o n K _ N8.o hx.o).m ?_;rintro r i ⟨j,s,rfl,Tm⟩)|(go_at_call 72;refine Tm.o.m ?_;rintro r w8 ⟨k,C,rfl,N⟩;have sI:=I N;clear N))
  go_ret3
  exact sI.o
end
end Go.Proofs.YtihgojcfpnhelaaGreatDoor
