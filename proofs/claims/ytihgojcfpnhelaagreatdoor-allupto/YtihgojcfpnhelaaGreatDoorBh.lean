import Derived.Test.YtihgojcfpnhelaaGreatDoorNh
import Derived.Test.YtihgojcfpnhelaaGreatDoorGa
set_option maxRecDepth 100000
set_option maxHeartbeats 4000000
set_option linter.all false
namespace Go.Proofs.YtihgojcfpnhelaaGreatDoor
open Go renaming World->zW,Value->zV,Calls->zC,Addr->zD
open Go.RowKit Go.Proofs.Tryz
open List renaming length→G
section
variable {S S1 O:Nat->Prop} {e:Nat} {D:Nat->Prop} {σ σ0:bg} {v1 v2 v3 v4 v5:zV} {te:TypeId} {w W Z U:zW} {ws0:List Wr} {b:Nat}
def ad9 (σ:bg) (gs:List (Nat × Fd)) (h:∀ x,x∈gs->x∈σ.fs):(⟨gs.map Prod.fst,σ.mem⟩:bg).fs=gs:=by
 unfold bg.fs;rw [fM]
 conv=>rhs;rw [<- List.map_id gs]
 refine sB λx a=>?_;obtain ⟨q,_,rfl⟩:=bU.1 (h x a);rfl
def cK.aba {s:Option zD} {c2:Nat} {gs:List (Nat × Fd)} (h:cK w S e D σ v1 v2 v3 v4 v5 te) (C:zB w W) (H:yQ S w W s c2 gs) (u:gs≠[]) (k:∀ x,x∈gs->x∈σ.fs) :
  ∃ m:Nat->Prop,(∀ q,S q->m q)/\(∀ q,m q->S q\/(w.heap.size<=q/\∃ c t z,W.heap[q]?=some (.cells c t z)))/\cK W m e D σ v1 v2 v3 v4 v5 te/\jQ W m s (gs.map Prod.fst)/\(gs.map Prod.fst).length<=c2/\(s=none->c2=0)/\∀ b,b∈gs.map Prod.fst->D b:=by
 obtain ⟨S2,s1,s2,f,l⟩:=H;have J:=f.ptr 0 (BB.2 u);obtain ⟨g,o,rfl,p,a⟩:=J;have y:=h.lt;refine ⟨λq=>S q\/q=g,λq d=>Or.inl d,?_,(h.next C).wide (λq d=>Or.inl d) ?_,λj hj=>?_,by simpa using l,λh=>ir,λq d=>?_⟩
 ·rintro q (d|rfl)
  ·exact Or.inl d
  ·rcases s2 q p with i|i
   ·exact Or.inl i
   ·refine Or.inr ⟨i,?_⟩;unfold World.cell? at a;cases v:W.heap[q]? with
    | none=>rw [v] at a;simp at a
    | some B=>
     rw [v] at a;cases B<;>simp at a;exact ⟨_,_,_,rfl⟩
 ·rintro q (d|rfl)
  ·exact Or.inl d
  ·rcases s2 q p with i|i
   ·exact Or.inl i
   ·refine Or.inr ⟨f.still q p,ae,λF=>?_⟩;have:=(h.bX q F).lt;omega
 ·have n:j<(G gs):=oT;obtain ⟨K,L,A,_,h3⟩:=f.ptr j n;cases A;exact ⟨g,o,rfl,Or.inr rfl,B8⟩
 ·obtain ⟨x,E,rfl⟩:=bU.1 d;obtain ⟨q,r,rfl⟩:=bU.1 (k x E);exact h.sub q r
def Cw (S:Nat->Prop) (e:Nat) (D:Nat->Prop) (σ0:bg) (ws0:List Wr) (v1 v2 v3 v4 v5:zV) (te:TypeId) (hs gs:List (Nat × Fd)) (w:zW) (r:Ending) (w':zW):Prop:=
 ∃ (d:Option zD) (cn f:Nat) (a:Array zV) (S':Nat->Prop) (b:List Wr),r=.returned (.tuple #[.slice d (G hs) cn,.func (.func f) #[] a,zI 0])/\w'.ownsRow w.heap.size 9 1 (.slice d (G hs) cn) (G hs) (strs (cJ hs))/\(∀ q,(Value.slice d (G hs) cn).ownBlock=some q->¬ S' q) /\
  (∀ q,S q->S' q)/\(∀ q,S' q->S q\/(w.heap.size<=q/\∃ c t z,w'.heap[q]?=some (.cells c t z)))/\cK w' S' e D (aU (ws0++b) σ0) v1 v2 v3 v4 v5 te/\cO e D w' S' f a (dz (ws0++b) σ0)/\Ks (λq=>q=e\/D q) w w'/\(aU (ws0++b) σ0).fs=iR gs (hs.map λx=>x.1)
def OO (at_ N0:Nat) (cs0:Array zV) (gs:List (Nat × Fd)) (h:cK w S e D σ v1 v2 v3 v4 v5 te) (hσ:aU ws0 σ0=σ) (hbk:cO e D w S N0 cs0 (dz ws0 σ0)) (hl:σ.ord.length<=100) (hat:σ.ord[at_]?=some b) (Eb:σ.ord.Nodup) (hmd:dL σ.fs at_ (b,σ.mem b)=.ok gs) (hfm:(b,σ.mem b)∈gs) :
  zC prog 161 #[zJ e,zJ b,.func (.func N0) #[] cs0] w (Cw S e D σ0 ws0 v1 v2 v3 v4 v5 te ((b,σ.mem b)::aO [(σ.mem b).nm] gs) gs w):=by
 obtain ⟨Jx,xF⟩:=fI.1 hat;have JS:σ.fs.length=σ.ord.length:=tL;have H:at_<σ.fs.length:=ae;have k:σ.fs[at_]=(b,σ.mem b):=Ob;have hu:∀ i (h:i<σ.fs.length),i<at_->(σ.fs[i]).1≠b:=λi hi hlt=>X1;have P:=(xJ σ.fs gs at_ (b,σ.mem b) H k hmd).2;have xE:(G gs)<=100:=by rw [(xJ σ.fs gs at_ (b,σ.mem b) H k hmd).1,JS];exact hl
 have Rv:gs≠[]:=λh0=>by rw [h0] at hfm;simp at hfm
 have od:e<w.heap.size:=h.lt;have hDb:D b:=h.sub b (xF▸bt Jx);obtain ⟨a,c,yP,hcc,OP,hrow⟩:=h.sh;obtain ⟨⟨e0,e1,e2,e3,e4,e5⟩,⟨z0,z1,z2,z3,z4,z5⟩,_⟩:=bJ hrow;have HM:=I ((Cx a c at_ σ.fs (b,σ.mem b) w yP ae H k hcc hu).m (R':=λr w1=>∃ a2 c2,r=.returned (.tuple #[.slice a2 (G gs) c2,zN])/\Hid (yQ S w w1 a2 c2 gs)/\zB w w1) (by
  rintro r w1 ⟨hb,h⟩;rw [hmd] at h;obtain ⟨a2,c2,h1,h2⟩:=h;exact ⟨a2,c2,h1,h2,hb⟩))
 obtain ⟨i1,gi,qh,qi,pD⟩:=fe oX;have U:=I h;have HBK:=I hbk;have HFM:=I hfm;have Tq:=I P;clear yP hrow h hbk hu hmd hat xF Jx H k Eb hfm P JS hcc OP;go_in;go_wp2_with (go_at_call 190;refine mo HM.o ?_;rintro r w1 ⟨a2,c2,rfl,agL,hb1⟩);obtain ⟨S3,s0,s1,JT,hr1,hc1,wR,Tr⟩:=U.o.aba hb1 agL.o Rv Tq.o;rw [fy] at hc1;have SZ:=I (show zC prog 163 #[zJ e,.slice a2 (G gs) c2] w1 (gX S3 e D σ [.ord (gs.map Prod.fst)] v1 v2 v3 v4 v5 te w1) from by
  have:=Hf JT (gs.map Prod.fst) a2 c2 Tr hr1 (by simpa using hc1) wR;rwa [fy] at this)
 have vA:=I hb1;have HS0:=I s0;have HS1:=I s1;have VZ:=I JT;clear hb1 agL HM JT hr1 wR Tr s0 s1;apply I;go_wp2_with (go_at_call 163;refine mo SZ.o ?_;rintro r w2 ⟨N1,cs1,S4,rfl,B⟩);obtain ⟨t0,t1,yA,agM,hk2⟩:=B;have Z:aU (ws0++[.ord (gs.map Prod.fst)]) σ0=⟨gs.map Prod.fst,σ.mem⟩:=by rw [lH,hσ];rfl
 have agN:(⟨gs.map Prod.fst,σ.mem⟩:bg).fs=gs:=ad9 σ gs Tq.o;have g:Ks (λq=>q=e\/D q) w w2:=(Ks.of vA.o).t hk2;have HA1:=I (show zC prog 72 #[zS w2.heap.size 2 2] (w2.alloc (.cells #[.func (.func N0) #[] cs0,.func (.func N1) #[] cs1] 151)) (gX S e D σ0 (ws0++[.ord (gs.map Prod.fst)]) v1 v2 v3 v4 v5 te w) from by
  have OQ:=Bc (S:=S) (O:=λq=>w.heap.size<=q) (w:=w) (W:=w2) (N1:=N0) (cs1:=cs0) (λq hq=>bf g.size hq) (ws1:=ws0) (ws2:=[.ord (gs.map Prod.fst)]) (σ:=σ0) (by rw [Z];exact yA) (λq hq=>t0 q (HS0.o q hq)) (λq hq=>?_) (((HBK.o.next (U.o.still |> λhs q hq=>(g.block q (hs q hq) (U.o.notP q hq)))).wide (λq hq=>t0 q (HS0.o q hq)) λ_ h=>h)) (by rw [hσ];exact agM) g
  ·exact (OQ.all ae (λq hq=>by have:=g.size;simp at hq;show w.heap.size<=q;omega)).m λ_ _ h=>h.1
  ·rcases t1 q hq with h1|⟨h1,c,t,z,h2⟩
   ·rcases HS1.o q h1 with h3|⟨h3,c,t,z,h4⟩
    ·exact Or.inl h3
    ·exact Or.inr ⟨h3,c,t,z,hk2.cells h4 (VZ.o.notP q h1)⟩
   ·exact Or.inr ⟨bf vA.o.size h1,c,t,z,h2⟩)
 obtain ⟨a3,c3,_,_,_,A⟩:=yA.sh;obtain ⟨⟨h0,h1,h2,h3,h4,h5⟩,⟨y0,y1,y2,y3,y4,y5⟩,arc⟩:=bJ A;have akU:=yA.bX b hDb;obtain ⟨_,_,_,_,fa,fl,fc,Ts,_⟩:=akU;obtain ⟨⟨j0,_⟩,_,ard⟩:=fP Ts;have JU:=I Ts;have arf:=I A;have arh:=I g;clear Ts A yA agM hk2 t0 t1 SZ e0 e1 e2 e3 e4 e5 z0 z1 z2 z3 z4 z5 g;apply I;go_wp2_with (go_at_call 72;refine mo HA1.o ?_;rintro r w3 ⟨N3,cs3,S5,rfl,B⟩);obtain ⟨u0,u1,wJ,agP,hk3⟩:=B;have E:cK w3 S5 e D ⟨gs.map Prod.fst,σ.mem⟩ v1 v2 v3 v4 v5 te:=by rw [Z] at wJ;exact wJ
 obtain ⟨a3,c3,J,ark,arl,y⟩:=E.sh;rw [agN] at J y;obtain ⟨⟨h0,h1,h2,h3,h4,h5⟩,⟨y0,y1,y2,y3,y4,y5⟩,EM⟩:=bJ y;obtain ⟨fa,fl,fc,agQ,_⟩:=(E.bX b hDb).open;obtain ⟨⟨j0,_⟩,_,arn⟩:=fP agQ;have HH:=I (λW (hb:zB w3 W)=>zX (σ.mem b).nm e c3 a3 gs W (J.next hb) ((hb.cell (p:=⟨e,0,none⟩) EM).t h0) (bG EM hb.size) ae);have l:=I E;have agR:=I J;have HU0:=I u0;have HU1:=I u1;have akV:=I agP;have Tt:=I hk3;clear wJ E agP hk3 u0 u1 y agQ J HA1;apply I;have HL:=I (show (w3.alloc (.cells #[zJ b] 220)).ownsRow w3.heap.size 220 1 (zS w3.heap.size 1 1) 1 (cA [(b,σ.mem b)]) from World.ownsRow_lit (base:=w3.heap.size) (e:=220) (size:=1) w3 #[zJ b] 1 (aG _) jM rfl);have Tn:=Cy [(σ.mem b).nm] gs;go_wp2_with (go_at_call 166;refine mo (HH.o _ (bZ _)) ?_;rintro r w4 ⟨vh,rfl,o,hb4⟩);have xB:=I (show zB w3 w4 from (bZ _).t (hb4.m aq));have L:=I (aZ HL.o hb4);have HOH:=I o;have hs4:=xB.o.size;have hnil:=o.2;clear hb4 HL HH o;apply I;have K:=I (show ∀ (M:zV) (Y:zW),Y.ownsRow w3.heap.size 220 1 M (1+(aO [(σ.mem b).nm] gs).length) (cA [(b,σ.mem b)]++cA (aO [(σ.mem b).nm] gs))->zB w3 Y ->
   (∀ W (hW:zB Y W),zC prog 142 #[M] W λr w'=>∃ n cn,r=.returned (.slice n ((b,σ.mem b)::aO [(σ.mem b).nm] gs).length cn)/\w'.ownsRow W.heap.size 9 1 (.slice n ((b,σ.mem b)::aO [(σ.mem b).nm] gs).length cn) ((b,σ.mem b)::aO [(σ.mem b).nm] gs).length (strs (cJ ((b,σ.mem b)::aO [(σ.mem b).nm] gs)))/\zB W w') /\
   (∀ (n:Option zD) (cn:Nat) W (hW:zB Y W),W.ownsRow Y.heap.size 9 1 (.slice n ((b,σ.mem b)::aO [(σ.mem b).nm] gs).length cn) ((b,σ.mem b)::aO [(σ.mem b).nm] gs).length (strs (cJ ((b,σ.mem b)::aO [(σ.mem b).nm] gs)))->zC prog 167 #[zJ e,M] W λr w7=>∃ N7 s,r=.returned (.func (.func N7) #[] s)/\Hid (zC prog 72 #[zS w7.heap.size 2 2] (w7.alloc (.cells #[.func (.func N3) #[] cs3,.func (.func N7) #[] s] 151)) λr w8=>∃ N8 C,r=.returned (.func (.func N8) #[] C)/\Cw S e D σ0 ws0 v1 v2 v3 v4 v5 te ((b,σ.mem b)::aO [(σ.mem b).nm] gs) gs w (.returned (.tuple #[.slice n ((b,σ.mem b)::aO [(σ.mem b).nm] gs).length cn,.func (.func N8) #[] C,zI 0])) w8)) from λM Y d rG=>by
  have hlen:1+(aO [(σ.mem b).nm] gs).length=((b,σ.mem b)::aO [(σ.mem b).nm] gs).length:=aN;have JV:cA [(b,σ.mem b)]++cA (aO [(σ.mem b).nm] gs)=cA ((b,σ.mem b)::aO [(σ.mem b).nm] gs):=yL;rw [hlen,JV] at d;obtain ⟨g5,abd,rfl,hg5,agS⟩:=d.form aq;have X:∀ x,x∈(b,σ.mem b)::aO [(σ.mem b).nm] gs->x∈gs:=λx hx=>by
   rcases bQ.1 hx with rfl|h
   ·exact HFM.o
   ·exact mX _ _ x h
  have akW:∀ x,x∈gs->x.1<w3.heap.size:=λx hx=>(agR.o.bX x hx).lt;have hks:((b,σ.mem b)::aO [(σ.mem b).nm] gs).length<=500:=aN;generalize hhs:(b,σ.mem b)::aO [(σ.mem b).nm] gs=hs at *;refine ⟨λW hW=>(uK _ _ _ W (((agR.o.next rG).OS X d akW).next hW) ae).m (by
   rintro r w' ⟨v,rfl,h1,h2⟩;obtain ⟨n,cn,rfl⟩:=eM h1;exact ⟨n,cn,rfl,h1,h2⟩),λn cn W hW JA=>?_⟩
  have m:zB w3 W:=rG.t (hW.m rG.size);have hDk:∀ x,x∈hs->D x.1:=λx hx=>by
   obtain ⟨q,hq',e'⟩:=bU.1 (Tq.o x (X x hx));rw [<- e'];exact U.o.sub q hq'
  have hwo:=EL (w:=W) (S:=S5) (e:=e) (D:=D) (σ:=⟨gs.map Prod.fst,σ.mem⟩) (v1:=v1) (v2:=v2) (v3:=v3) (v4:=v4) (v5:=v5) (te:=te) abd (some ⟨g5,0,none⟩) (hs.map λx=>x.1) (l.o.next m) aN aN (λj hj=>by
   have hj':j<(G hs):=oT;refine ⟨Z2,g5,0,rfl,bG agS hW.size,ae,λhD=>?_,?_⟩
   ·have:=(l.o.bX g5 hD).lt;omega
   ·rw [hW.cell (p:=⟨g5,0+j,none⟩) agS,cS,d.cellAt j ae];unfold cA;rw [kn,cU hj'];simp)
  rw [fy] at hwo;refine hwo.m ?_;rintro r w7 ⟨N7,s,S7,rfl,m0,m1,hp7,akY,Q⟩;refine ⟨N7,s,rfl,?_⟩;have akZ:Ks (λq=>q=e\/D q) w w7:=(Tt.o.t (Ks.of m)).t Q;have sI:∀ q,(Value.slice n (G hs) cn).ownBlock=some q->Y.heap.size<=q/\q<W.heap.size:=λq hq=>JA.lt q hq;have ak0:=rG.size;have ak1:=hW.size;have ak2:=Q.size;have hw3:=Tt.o.size;have agy:w7.ownsRow Y.heap.size 9 1 (.slice n (G hs) cn) (G hs) (strs (cJ hs)):=iy JA Q λq hq h1=>by
   have:=(sI q hq).1;rcases h1 with h1|h1
   ·omega
   ·have:=(l.o.bX q h1).lt;omega
  have hσ7:aU (ws0++[.ord (gs.map Prod.fst)]++gB ⟨gs.map Prod.fst,σ.mem⟩ (hs.map λx=>x.1)) σ0=aU (gB ⟨gs.map Prod.fst,σ.mem⟩ (hs.map λx=>x.1)) ⟨gs.map Prod.fst,σ.mem⟩:=by rw [lH,Z]
  have OQ:=Bc (S:=S) (O:=λq=>w.heap.size<=q/\(Value.slice n (G hs) cn).ownBlock≠some q) (w:=w) (W:=w7) (N1:=N3) (cs1:=cs3) (N2:=N7) (cs2:=s) (λq hq=>⟨ae,λh1=>by have:=(sI q h1).2;omega⟩) (ws1:=ws0++[.ord (gs.map Prod.fst)]) (ws2:=gB ⟨gs.map Prod.fst,σ.mem⟩ (hs.map λx=>x.1)) (σ:=σ0) (S1:=S7) (by rw [hσ7];exact hp7) (λq hq=>m0 q (HU0.o q hq)) (λq hq=>?_) ((akV.o.next (λq hq=>(Q.block q (bG (l.o.still q hq) m.size) (l.o.notP q hq)).t (m.block q (l.o.still q hq)))).wide m0 λ_ h=>h) (by rw [Z];exact akY) akZ
  ·refine (OQ.all ae (λq hq=>⟨by simp at hq;omega,λh1=>aaf⟩)).m ?_;rintro r w8 ⟨⟨N8,C,S8,rfl,p0,p1,hp8,ak4,hk8⟩,hb8⟩;refine ⟨N8,C,rfl,n,cn,N8,C,S8,[.ord (gs.map Prod.fst)]++gB ⟨gs.map Prod.fst,σ.mem⟩ (hs.map λx=>x.1),rfl,?_,λq hq hS8=>?_,p0,λq hq=>(p1 q hq).imp id λh=>⟨h.1.1,h.2⟩,by rw [<- kI];exact hp8,by rw [<- kI];exact ak4,hk8,?_⟩
   ·exact YV
   ·rcases p1 q hS8 with h1|h1
    ·have:=U.o.still q h1;have:=(sI q hq).1;omega
    ·exact h1.1.2 hq
   ·rw [<- kI,hσ7,EK,agN];intro q hq;obtain ⟨x,hx,rfl⟩:=bU.1 hq;exact iJ (X x hx)
  ·rcases m1 q hq with h1|⟨h1,c,t,z,h2⟩
   ·rcases HU1.o q h1 with h3|⟨h3,c,t,z,h4⟩
    ·exact Or.inl h3
    ·refine Or.inr ⟨⟨h3,λh5=>?_⟩,c,t,z,Q.cells ((m.block q (l.o.still q h1)).t h4) (l.o.notP q h1)⟩;have:=l.o.still q h1;have:=(sI q h5).1;omega
   ·refine Or.inr ⟨⟨ae,λh5=>?_⟩,c,t,z,h2⟩;have:=(sI q h5).2;omega)
 rcases hnil with ⟨rfl,hk0⟩|⟨gh,ak5,arp,rfl,hgh,arq,_⟩
 ·go_wp2_with (at_builtin;refine Bv rfl (.tmp 38) (.tmp 44) 101 rfl w3.heap.size 220 i1 1 underlying101 gi (zS w3.heap.size 1 1) 1 (cA [(b,σ.mem b)]) rfl L.o rfl ?_;apply Hid.o);obtain ⟨V,R⟩:=K.o (zS w3.heap.size 1 1) w4 (by
   rw [hk0,k7,oD hk0,show cA ([]:List (Nat × Fd))=[] from rfl,iq];exact L.o) xB.o
  have HN:=I V;have HWO:=I R;clear V R K L HOH hk0;apply I;go_wp2_with (first|(go_at_call 142;refine (HN.o _ (aM _ _)).m ?_;rintro r w6 ⟨n,cn,rfl,f,T⟩;have HON:=I f;have HB6:=I T;clear f T)|(go_at_call 167;refine (HWO.o n cn _ HB6.o HON.o).m ?_;rintro r w7 ⟨N7,s,rfl,Tm⟩)|(go_at_call 72;refine Tm.o.m ?_;rintro r w8 ⟨N8,C,rfl,N⟩;have HST:=I N;clear N))
  go_ret3
  exact HST.o
 ·go_wp2_with (at_builtin;refine km _ rfl (.tmp 38) (.tmp 44) 101 rfl w3.heap.size 220 i1 (.pointer none) 1 8 underlying101 gi qh qi pD rfl ai (zS w3.heap.size 1 1) 1 (cA [(b,σ.mem b)]) rfl L.o ⟨gh,0,none⟩ (aO [(σ.mem b).nm] gs).length ak5 (cA (aO [(σ.mem b).nm] gs)) rfl yL (λq u hq=>HOH.o.cells rfl q u hq) (λu hu=>ZX) jM ae hs4 ?_;intro M Y d F _;apply Hid.o);have HB5:=I (xB.o.grown F hs4 (λq hq=>(L.o.lt q hq).1));obtain ⟨V,R⟩:=K.o M Y d HB5.o;have HN:=I V;have HWO:=I R;clear V R d F K L HOH;apply I;go_wp2_with (first|(go_at_call 142;refine (HN.o _ (aM _ _)).m ?_;rintro r w6 ⟨n,cn,rfl,f,T⟩;have HON:=I f;have HB6:=I T;clear f T)|(go_at_call 167;refine (HWO.o n cn _ HB6.o HON.o).m ?_;rintro r w7 ⟨N7,s,rfl,Tm⟩)|(go_at_call 72;refine Tm.o.m ?_;rintro r w8 ⟨N8,C,rfl,N⟩;have HST:=I N;clear N))
  go_ret3
  exact HST.o
end
end Go.Proofs.YtihgojcfpnhelaaGreatDoor
