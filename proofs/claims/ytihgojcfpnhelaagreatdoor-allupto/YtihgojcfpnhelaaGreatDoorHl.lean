import Derived.Test.YtihgojcfpnhelaaGreatDoorMw
set_option maxRecDepth 100000
set_option maxHeartbeats 4000000
set_option linter.all false
namespace Go.Proofs.YtihgojcfpnhelaaGreatDoor
open Go renaming World->zW,Value->zV,Calls->zC,Addr->zD
open Go.RowKit Go.Proofs.Tryz
open List renaming length→G
def P7 (r:zV) (p:Pt) (a:Option zD) (n c:Nat) (w:zW) (q:Nat->Pt) (A:Nat->Option zD) (L C:Nat->Nat) (v:Nat->Vl) (hn:n=3) (U:ib w a n q A L C) (hV:kG r w n q A L C v) :
  zC prog 246 #[.agg #[bH r],.agg #[zI p.k,zG p.nm,zI p.n,.slice a n c]] w (dx (fQ (v 0) (v 1) (v 2)) w):=by
 subst hn;obtain ⟨g,rfl,s,c0,c1,c2,c3⟩:=U 0 ae;obtain ⟨g',GU,_,d0,d1,d2,d3⟩:=U 1 ae;obtain rfl:g=g':=Cq;obtain ⟨g',GU,_,u0,u1,u2,u3⟩:=U 2 ae;obtain rfl:g=g':=Cq;rw [jC] at c0 c1 c2 c3;rw [mQ] at d0 d1 d2 d3;rw [show 2*4=8 from rfl] at u0 u1 u2 u3;have HV:=I hV;have wR:(0:Int)<((3:Nat):Int):=ae;have hn2:(1:Int)<((3:Nat):Int):=ae;obtain ⟨W4,lX⟩:∃ W4,W4=(((w.alloc (.cells #[bH r] 306)).alloc (.cells #[zI p.k,zG p.nm,zI p.n,zS g 3 c] 87)).alloc (.cells #[zI 0,zI 0] 177)):=⟨_,rfl⟩;have P:W4.heap.size=w.heap.size+1+1+1:=G6;have f:zB w W4:=aaU;have r0:W4.heap[w.heap.size]?=some (.cells #[bH r] 306 (0,0)):=X6;have r2:W4.heap[w.heap.size+1]?=some (.cells #[zI p.k,zG p.nm,zI p.n,zS g 3 c] 87 (0,0)):=YL;have r3:W4.heap[w.heap.size+1+1]?=some (.cells #[zI 0,zI 0] 177 (0,0)):=by
  rw [lX];exact fZ w _ _ _ _
 have C0:=(f.cell (p:=⟨g,0,none⟩) s).t c0;have C1:=(f.cell (p:=⟨g,0+1,none⟩) s).t c1;have C2:=(f.cell (p:=⟨g,0+2,none⟩) s).t c2;have C3:=(f.cell (p:=⟨g,0+3,none⟩) s).t c3;rw [cS] at C1 C2 C3;obtain ⟨i0,_,_⟩:=Aq r0;obtain ⟨⟨_,_,_,i2⟩,_,_⟩:=aX r2;have R:=I f;have HR:=I (And.intro r0 (And.intro r2 r3));have S:=I lX;have hg4:g<W4.heap.size:=ae;have hx0:w.heap.size<W4.heap.size:=ae;have hx2:w.heap.size+1<W4.heap.size:=ae;have J:w.heap.size+1+1<W4.heap.size:=ae;have hn3:(2:Int)<((3:Nat):Int):=ae;clear U hV GU;have Jt:=I (show zC prog 243 #[.agg #[bH r],zI 2,.agg #[zI ((q 0).k:Int),.string ⟨((q 0).nm).toArray⟩,zI ((q 0).n:Int),.slice (A 0) (L 0) (C 0)]] W4.drew λe w1=>e=.returned (.agg #[zI (aP 2 (v 0)).1,zI (aP 2 (v 0)).2])/\zB W4 w1 from
  ((HV.o.next (w':=W4.drew) f.drew).only 0 ae 2).m λe w1 h=>⟨h.1,(aM _ _).drew.t h.2⟩)
 have HCB:=I (show zC prog 243 #[.agg #[bH r],zI 2,.agg #[zI ((q 0).k:Int),.string ⟨((q 0).nm).toArray⟩,zI ((q 0).n:Int),.slice (A 0) (L 0) (C 0)]] (W4.alloc (.cells #[zI 0,zI 0] 177)).drew λe w1=>e=.returned (.agg #[zI (aP 2 (v 0)).1,zI (aP 2 (v 0)).2])/\zB W4 w1/\w1.heap[W4.heap.size]?=some (.cells #[zI 0,zI 0] 177 (0,0)) from
  ((HV.o.next (w':=(W4.alloc (.cells #[zI 0,zI 0] 177)).drew) (f.alloc f.size _).drew).only 0 ae 2).m λe w1 h=>⟨h.1,(bZ _).drew.t (h.2.m Zu),(h.2.block W4.heap.size Zv).t (bL W4 _)⟩)
 go_in
 go_upto_region 1 with fail
 rw [<- S.o];have HS4:=I P;clear lX S r0 r2 r3 P f
 go_cut [5] (λs7 wc=>∃ F,s7=zJ F/\W4.heap.size<=F/\Hid (zB W4 wc)/\wc.heap[F]?=some (.cells #[zI (aP 2 (v 0)).1,zI (aP 2 (v 0)).2] 177 (0,0)))
 case first=>
  exact Wx
 case rest=>
 obtain ⟨F,rfl,hgF,o,hF⟩:=hcut;obtain ⟨R0,R2,R3⟩:=HR.o;have ag0:=o.o.size;obtain ⟨⟨x0,x1⟩,_,hsF⟩:=cq hF;obtain ⟨M,_,_⟩:=Aq ((o.o.block _ hx0).t R0);obtain ⟨⟨_,_,_,j2⟩,_,_⟩:=aX ((o.o.block _ hx2).t R2);obtain ⟨⟨k0,k1⟩,⟨f0,f1⟩,Q⟩:=cq ((o.o.block _ J).t R3);have JU:=I ((o.o.block _ J).t R3);have d:=I (R.o.t (o.o.m R.o.size));have k:=I (show ∀ W,zB wc W->W.cell? ⟨w.heap.size,0,none⟩=some (bH r)/\W.cell? ⟨w.heap.size+1,3,none⟩=some (zS g 3 c)/\(W.cell? ⟨w.heap.size+1+1,0,none⟩=some (zI 0)/\W.cell? ⟨w.heap.size+1+1,1,none⟩=some (zI 0))/\(W.frozen? ⟨w.heap.size+1+1,0,none⟩=false/\W.frozen? ⟨w.heap.size+1+1,1,none⟩=false)/\(W.cell? ⟨F,0,none⟩=some (zI (aP 2 (v 0)).1)/\W.cell? ⟨F,1,none⟩=some (zI (aP 2 (v 0)).2)) /\
   (W.cell? ⟨g,4,none⟩=some (zI ((q 1).k:Int))/\W.cell? ⟨g,5,none⟩=some (.string ⟨((q 1).nm).toArray⟩)/\W.cell? ⟨g,6,none⟩=some (zI ((q 1).n:Int))/\W.cell? ⟨g,7,none⟩=some (.slice (A 1) (L 1) (C 1))) /\
   (W.cell? ⟨g,8,none⟩=some (zI ((q 2).k:Int))/\W.cell? ⟨g,9,none⟩=some (.string ⟨((q 2).nm).toArray⟩)/\W.cell? ⟨g,10,none⟩=some (zI ((q 2).n:Int))/\W.cell? ⟨g,11,none⟩=some (.slice (A 2) (L 2) (C 2))) from λW E=>by
  have i:zB w W:=d.o.t (E.m d.o.size);obtain ⟨a0,a1,_⟩:=cq ((E.block _ Q).t JU.o);refine ⟨(E.cell (p:=⟨w.heap.size,0,none⟩) (by show w.heap.size<_;omega)).t M,(E.cell (p:=⟨w.heap.size+1,3,none⟩) (by show w.heap.size+1<_;omega)).t j2,a0,a1,⟨(E.cell (p:=⟨F,0,none⟩) hsF).t x0,(E.cell (p:=⟨F,1,none⟩) hsF).t x1⟩,⟨(i.cell (p:=⟨g,4,none⟩) s).t d0,(i.cell (p:=⟨g,5,none⟩) s).t d1,(i.cell (p:=⟨g,6,none⟩) s).t d2,(i.cell (p:=⟨g,7,none⟩) s).t d3⟩,(i.cell (p:=⟨g,8,none⟩) s).t u0,(i.cell (p:=⟨g,9,none⟩) s).t u1,(i.cell (p:=⟨g,10,none⟩) s).t u2,(i.cell (p:=⟨g,11,none⟩) s).t u3⟩)
 have N:=I (λj (hj:j<3) W (E:zB wc W)=>HV.o j hj W (d.o.t (E.m d.o.size)));have HT:=I (λbb W=>lK bb W);clear hF R0 R2 R3 i0 i2 C0 C1 C2 C3 c0 c1 c2 c3 d0 d1 d2 d3 u0 u1 u2 u3 Jt HCB M j2 k0 k1 f0 f1;generalize K:aP 2 (v 0)=vf at *;obtain ⟨H,u⟩:=vf;have x:=I K;clear K;go_wp2_with (go_at_call 241;refine mo (HT.o true _) ?_;rintro e w2 ⟨rfl,y⟩);have t:=I y;obtain ⟨p0,X,⟨k0,k1⟩,⟨f0,f1⟩,⟨B,z⟩,⟨e0,e1,Z,Y⟩,⟨o0,o1,o2,V⟩⟩:=k.o _ y;have hs2:=y.size;clear y;rw [show (bD true).1=2 from rfl,show (bD true).2=1 from rfl];by_cases T:(H,u)=(2,1)
 ·obtain ⟨rfl,rfl⟩:=Prod.mk.inj T;have G:=I (show fQ (v 0) (v 1) (v 2)=v 1 by unfold fQ;rw [x.o,aB rfl]);have b:=t;clear T;apply I;go_wp2_with fail
  go_region_with (first|(go_at_call 220;refine (N.o 1 ae _ (b.o.drew)).m ?_;rintro e w5 ⟨rfl,l⟩;obtain ⟨_,_,⟨m0,m1⟩,⟨n0,n1⟩,_⟩:=k.o _ (b.o.drew.t (l.m b.o.size));have B3:=I (b.o.drew.t (l.m b.o.size));clear l))
  all_goals go_wp2
  all_goals refine aK (v:=.agg #[zI (v 1).1,zI (v 1).2]) Z4 rfl ?_
  all_goals (rw [G.o];exact ⟨rfl,dJ (d.o.t (B3.o.m d.o.size)) _ ae _ _⟩)
 ·by_cases O:H=2
  ·subst O;have D:u≠1:=λh=>T (by rw [h]);have q2:(u == 1)=false:=bo.2 D;have q1:((2:Int) == 2)=true:=rfl;clear T;apply I;go_wp2_with (go_at_call 241;refine mo (HT.o false _) ?_;rintro e w3 ⟨rfl,m⟩);have b:=I (t.o.t (m.m t.o.size));clear p0 X k0 k1 f0 f1 B z e0 e1 Z Y o0 o1 o2 V;obtain ⟨p0,X,⟨k0,k1⟩,⟨f0,f1⟩,⟨B,z⟩,⟨e0,e1,Z,Y⟩,⟨o0,o1,o2,V⟩⟩:=k.o _ b.o;have hs3:=m.size;clear m;rw [show (bD false).1=2 from rfl,show (bD false).2=0 from rfl];by_cases h0:u=0
   ·subst h0;have G:=I (show fQ (v 0) (v 1) (v 2)=v 2 by unfold fQ;rw [x.o,aA ai,aB rfl]);clear q2 D;apply I;go_wp2_with fail
    go_region_with (first|(go_at_call 220;refine (N.o 2 ae _ (b.o.drew)).m ?_;rintro e w5 ⟨rfl,l⟩;obtain ⟨_,_,⟨m0,m1⟩,⟨n0,n1⟩,_⟩:=k.o _ (b.o.drew.t (l.m b.o.size));have B3:=I (b.o.drew.t (l.m b.o.size));clear l))
    all_goals go_wp2
    all_goals refine aK (v:=.agg #[zI (v 2).1,zI (v 2).2]) Z4 rfl ?_
    all_goals (rw [G.o];exact ⟨rfl,dJ (d.o.t (B3.o.m d.o.size)) _ ae _ _⟩)
   ·have q3:(u == 0)=false:=bo.2 h0;have G:=I (show fQ (v 0) (v 1) (v 2)=(2,u) by unfold fQ;rw [x.o,aA (λh=>D (Prod.mk.inj h).2),aA (λh=>h0 (Prod.mk.inj h).2)]);clear h0 D;apply I;go_wp2;refine aK (v:=.agg #[zI 2,zI u]) Z5 rfl ?_;rw [G.o];exact ⟨rfl,dJ (d.o.t (b.o.m d.o.size)) _ ae _ _⟩
  ·have q1:(H == 2)=false:=bo.2 O;have G:=I (show fQ (v 0) (v 1) (v 2)=(H,u) by unfold fQ;rw [x.o,aA (λh=>O (Prod.mk.inj h).1),aA (λh=>O (Prod.mk.inj h).1)]);clear T O;apply I;go_wp2_with (go_at_call 241;refine mo (HT.o false _) ?_;rintro e w3 ⟨rfl,m⟩);have b:=I (t.o.t (m.m t.o.size));clear p0 X k0 k1 f0 f1 B z e0 e1 Z Y o0 o1 o2 V;obtain ⟨p0,X,⟨k0,k1⟩,⟨f0,f1⟩,⟨B,z⟩,⟨e0,e1,Z,Y⟩,⟨o0,o1,o2,V⟩⟩:=k.o _ b.o;have hs3:=m.size;clear m;rw [show (bD false).1=2 from rfl,show (bD false).2=0 from rfl];apply I;go_wp2;refine aK (v:=.agg #[zI H,zI u]) Z5 rfl ?_;rw [G.o];exact ⟨rfl,dJ (d.o.t (b.o.m d.o.size)) _ ae _ _⟩
section
section
section
variable {len:Nat} {ts:List (By × Nat)} {b bl cp:Nat}
def adx (n i:Nat) (e:Int) (w:zW) (h:cX w b bl cp (aL len ts) i 6 e) :
  zC prog 128 #[zJ b,zI n] w λr w'=>r=.returned (.tuple #[.agg #[zI 0,zG [],zI 0,zN],.bool false])/\cX w' b bl cp (aL len ts) i 6 4/\Kp b w w':=by
 have H:=I (λw1 (g:cX w1 b bl cp (aL len ts) i 6 e)=>FJ w1 b bl cp _ i e g);have hs:=h.size;have s:=I h;have l:=h.blk;clear h;go_in;go_wp2_with (go_at_call 158;refine mo (H.o _ (s.o.next (bZ _))) ?_;rintro e w' ⟨rfl,k,a⟩);obtain ⟨⟨m,o,p,u⟩,⟨f0,f1,f2,f3⟩,d⟩:=aX (a.blk (q:=w.heap.size) (bL w _) ae);have t:=I a;have f:=I k;clear k a;apply I;go_wp2;refine aK (v:=.tuple #[.agg #[zI 0,zG [],zI 0,zN],.bool false]) (by simp [results,results128,go_sem,m,o,p,u,d]) rfl ?_;have j:Kp b w w':=(Kp.of (bZ _) hs).t t.o;have c:=j.dF w.heap.size (zI 0) (zG []) (zI 0) (zN) (aG _) hs;exact ⟨rfl,(f.o.ep w.heap.size _ _ _ _ hs).next (bZ _),c.next (bZ _) (by have:=c.size;omega)⟩
def ajP (AU:fV ts) (n i d:Nat) (e:Int) (w:zW) (ar9:1<=n) (hd:d<6) (hi:i<G ts) (hA:zw n (aw ts i)) (hS:St len ts w b bl cp i d e) (z zz:Nat) (hz:((aL len ts)[i]'hS.rd.lt).1=(z:Int)) (hzz:(z=13/\zz=14)\/(z≠13/\zz=z))
  (N:∀ L p,bh ts n (i+1) L p->bh ts n i L (.un zz p))
  (hL:∀ w2,St len ts w2 b bl cp (i+1) (d+1) e->zC prog 93 #[zJ b,zI n] w2 (dQ len ts [aH (lv n) (d+1)] (λL p=>bh ts n (i+1) L p) (2*n) b bl cp (i+1) (d+1) e w2)) :
  zC prog 128 #[zJ b,zI n] w (dQ len ts [aH (lv n) d] (λL p=>bh ts n i L p) (2*n) b bl cp i d e w):=by
 have hlt:=hS.rd.lt;have H:=I (λw1 (g:cX w1 b bl cp (aL len ts) i (d:Int) e)=>DG w1 b bl cp _ i d e g hd zR);have HL:=I hL;have HS:=I hS;have M:=I N;have hs:=hS.rd.size;have hblk:=hS.rd.blk;have D6:=I (λ(L m:Nat) (h:kH len ts [aH (lv n) (d+1)] (i+1) L m)=>(show kH len ts [aH (lv n) d] i L (m+1+1) from kH.sym ae (by rw [vZ n _ d hA hd];exact kH.tok (AU.tk hi) rfl h)));have HNO:=I (λ(er:Int) (p m:Nat) (h:ic len ts [aH (lv n) (d+1)] (i+1) er p m)=>(show ic len ts [aH (lv n) d] i er p (m+1+1) from ic.sym ae (by rw [vZ n _ d hA hd];exact ic.tok (AU.tk hi) rfl h)));have HZ:=I hz;clear hL N hA AU hz;go_in;go_wp2_with (go_at_call 158;refine (H.o _ (HS.o.rd.next (bZ _))).m ?_;rw [HZ.o];rintro r w1 ⟨rfl,hr,V⟩;apply Hid.o);have Y:=V.blk (q:=w.heap.size) (bL w _) ae;have X:Kp b w w1:=(Kp.of (bZ _) hs).t V;have HS1:=I (show St len ts w1 b bl cp (i+1) (d+1) e from HS.o.down (d':=d+1) hr X.bS);have J:=(cz.1 Y).1;have HR1:=I Y;have HK1:=I X;generalize ((aL len ts)[i]).2.2.2=tn at *;generalize ((aL len ts)[i]).2.2.1=tx at *;generalize ((aL len ts)[i]).2.1=tp at *;clear hr V Y X;apply I;have HC:=I (show ∀ w3,Kp b (w1.alloc (.cells #[zI zz,zI tp,zG tx,zI tn] 134)) w3->w3.heap[w.heap.size]?=some (.cells #[zI 0,zG [],zI 0,zN] 87 (0,0))/\w3.heap[w1.heap.size]?=some (.cells #[zI zz,zI tp,zG tx,zI tn] 134 (0,0))/\Kp b w w3 from λw3 h=>by
  refine ⟨h.blk ((cj _ _ _ J).t HR1.o) ae,h.blk (bL w1 _) ae,?_⟩;exact (HK1.o.next (bZ _) ae).t h)
 have hzc:(zz=14/\((z:Int) == 13)=true)\/(zz=z/\((z:Int) == 13)=false):=by
  rcases hzz with ⟨h1,h2⟩|⟨h1,h2⟩
  ·exact Or.inl ⟨h2,yN⟩
  ·exact Or.inr ⟨h2,bo.2 ae⟩
 clear hzz;rcases hzc with ⟨rfl,hzb⟩|⟨rfl,hzb⟩
 ·go_wp2_with (go_at_call 93;refine (HL.o _ (HS1.o.next (bZ _))).m ?_;rintro r w3 (⟨S,Z,p,a,l,c,rfl,hp,hD,u,hi3,o,Q,A⟩|⟨S,Z,d3,er,kk3,n3,s3,a,l,c,rfl,x,C,o,Q,F⟩)<;>apply Hid.o)
  ·obtain ⟨f,s,k⟩:=HC.o w3 o;obtain ⟨⟨k0,k1,k2,k3⟩,⟨f0,f1,f2,f3⟩,oU⟩:=aX f;obtain ⟨⟨g0,_,_,_⟩,_,E⟩:=aX s;obtain ⟨_,c1,_,K⟩:=u.rd.cell;have O:=K 1;have j:((d+1:Nat):Int)=(d:Int)+1:=ae;rw [j] at c1;have P:b<w3.heap.size:=u.rd.size;have W:=I u;have A2:=I k;have A3:=I hp;have A4:=I (M.o _ _ hD);have T:=I (D6.o _ _ A);have D:w.heap.size≠b:=ae;have B:b≠w.heap.size:=ae;clear u k hp hD A K f s o j;apply I;go_wp2;refine aK (v:=.tuple #[.agg #[zI 14,zG [],zI 0,.slice (some ⟨w3.heap.size+1,0,none⟩) 1 1],.bool true]) Rh rfl ?_;obtain ⟨U,y⟩:=W.o.Ay d;have oO:=(A2.o.t y).dF w.heap.size (zI 14) (zG []) (zI 0) (.slice (some ⟨w3.heap.size+1,0,none⟩) 1 1) (aG _) hs;have agv:∀ v0 v1 v2 v3,(((((w3.setCell ⟨b,1,none⟩ (zI d)).setCell ⟨w.heap.size,0,none⟩ v0).setCell ⟨w.heap.size,1,none⟩ v1).setCell ⟨w.heap.size,2,none⟩ v2).setCell ⟨w.heap.size,3,none⟩ v3).heap.size=w3.heap.size:=λv0 v1 v2 v3=>aq;have ajQ:=J;refine Or.inl ⟨S,Z+1+1,.un 14 p,some ⟨w3.heap.size+1,0,none⟩,1,1,rfl,dR.un 14 ((A3.o.next λq hq=>?_).wide λq hq=>?_) ?_ (t:=87) (fr:=(0,0)) ?_ 1,A4.o,((U.ep w.heap.size _ _ _ _ hs).next (aY _ _ _)),ae,oO.next (aY _ _ _) BU,ae,T.o⟩
   ·exact Xv
   ·exact Gm
   ·simp;omega
   ·have:=bL ((((((w3.setCell ⟨b,1,none⟩ (zI d)).setCell ⟨w.heap.size,0,none⟩ (zI 14)).setCell ⟨w.heap.size,1,none⟩ (zG [])).setCell ⟨w.heap.size,2,none⟩ (zI 0)).setCell ⟨w.heap.size,3,none⟩ (.slice (some ⟨w3.heap.size+1,0,none⟩) 1 1)).alloc (.cells #[zI p.k,zG p.nm,zI p.n,.slice a l c] 87)) (.cells #[zI p.k,zG p.nm,zI p.n,.slice a l c] 87);simpa using this
  ·obtain ⟨f,s,k⟩:=HC.o w3 o;obtain ⟨⟨k0,k1,k2,k3⟩,⟨f0,f1,f2,f3⟩,oU⟩:=aX f;obtain ⟨⟨g0,_,_,_⟩,_,E⟩:=aX s;obtain ⟨_,c1,_,K⟩:=x.cell;have O:=K 1;have P:b<w3.heap.size:=x.size;have W:=I x;have A2:=I k;have T:=I (HNO.o _ _ _ F);have A6:=I C;have D:w.heap.size≠b:=ae;have B:b≠w.heap.size:=ae;clear x k F K f s o C;apply I;go_wp2;refine aK (v:=.tuple #[.agg #[zI 14,zG [],zI 0,.slice (some ⟨w3.heap.size+1,0,none⟩) 1 1],.bool false]) Rh rfl ?_;obtain ⟨R,y⟩:=W.o.Ay (wrap64 (d3 - 1));have oO:=(A2.o.t y).dF w.heap.size (zI 14) (zG []) (zI 0) (.slice (some ⟨w3.heap.size+1,0,none⟩) 1 1) (aG _) hs;exact Or.inr ⟨S,Z+1+1,wrap64 (d3 - 1),er,14,0,[],some ⟨w3.heap.size+1,0,none⟩,1,1,rfl,((R.ep w.heap.size _ _ _ _ hs).next (aY _ _ _)),A6.o,oO.next (aY _ _ _) BU,ae,T.o⟩
 ·go_wp2_with (go_at_call 93;refine (HL.o _ (HS1.o.next (bZ _))).m ?_;rintro r w3 (⟨S,Z,p,a,l,c,rfl,hp,hD,u,hi3,o,Q,A⟩|⟨S,Z,d3,er,kk3,n3,s3,a,l,c,rfl,x,C,o,Q,F⟩)<;>apply Hid.o)
  ·obtain ⟨f,s,k⟩:=HC.o w3 o;obtain ⟨⟨k0,k1,k2,k3⟩,⟨f0,f1,f2,f3⟩,oU⟩:=aX f;obtain ⟨⟨g0,_,_,_⟩,_,E⟩:=aX s;obtain ⟨_,c1,_,K⟩:=u.rd.cell;have O:=K 1;have j:((d+1:Nat):Int)=(d:Int)+1:=ae;rw [j] at c1;have P:b<w3.heap.size:=u.rd.size;have W:=I u;have A2:=I k;have A3:=I hp;have A4:=I (M.o _ _ hD);have T:=I (D6.o _ _ A);have D:w.heap.size≠b:=ae;have B:b≠w.heap.size:=ae;clear u k hp hD A K f s o j;apply I;go_wp2;refine aK (v:=.tuple #[.agg #[zI zz,zG [],zI 0,.slice (some ⟨w3.heap.size+1,0,none⟩) 1 1],.bool true]) Rh rfl ?_;obtain ⟨U,y⟩:=W.o.Ay d;have oO:=(A2.o.t y).dF w.heap.size (zI zz) (zG []) (zI 0) (.slice (some ⟨w3.heap.size+1,0,none⟩) 1 1) (aG _) hs;have agv:∀ v0 v1 v2 v3,(((((w3.setCell ⟨b,1,none⟩ (zI d)).setCell ⟨w.heap.size,0,none⟩ v0).setCell ⟨w.heap.size,1,none⟩ v1).setCell ⟨w.heap.size,2,none⟩ v2).setCell ⟨w.heap.size,3,none⟩ v3).heap.size=w3.heap.size:=λv0 v1 v2 v3=>aq;have ajQ:=J;refine Or.inl ⟨S,Z+1+1,.un zz p,some ⟨w3.heap.size+1,0,none⟩,1,1,rfl,dR.un zz ((A3.o.next λq hq=>?_).wide λq hq=>?_) ?_ (t:=87) (fr:=(0,0)) ?_ 1,A4.o,((U.ep w.heap.size _ _ _ _ hs).next (aY _ _ _)),ae,oO.next (aY _ _ _) BU,ae,T.o⟩
   ·exact Xv
   ·exact Gm
   ·simp;omega
   ·have:=bL ((((((w3.setCell ⟨b,1,none⟩ (zI d)).setCell ⟨w.heap.size,0,none⟩ (zI zz)).setCell ⟨w.heap.size,1,none⟩ (zG [])).setCell ⟨w.heap.size,2,none⟩ (zI 0)).setCell ⟨w.heap.size,3,none⟩ (.slice (some ⟨w3.heap.size+1,0,none⟩) 1 1)).alloc (.cells #[zI p.k,zG p.nm,zI p.n,.slice a l c] 87)) (.cells #[zI p.k,zG p.nm,zI p.n,.slice a l c] 87);simpa using this
  ·obtain ⟨f,s,k⟩:=HC.o w3 o;obtain ⟨⟨k0,k1,k2,k3⟩,⟨f0,f1,f2,f3⟩,oU⟩:=aX f;obtain ⟨⟨g0,_,_,_⟩,_,E⟩:=aX s;obtain ⟨_,c1,_,K⟩:=x.cell;have O:=K 1;have P:b<w3.heap.size:=x.size;have W:=I x;have A2:=I k;have T:=I (HNO.o _ _ _ F);have A6:=I C;have D:w.heap.size≠b:=ae;have B:b≠w.heap.size:=ae;clear x k F K f s o C;apply I;go_wp2;refine aK (v:=.tuple #[.agg #[zI zz,zG [],zI 0,.slice (some ⟨w3.heap.size+1,0,none⟩) 1 1],.bool false]) Rh rfl ?_;obtain ⟨R,y⟩:=W.o.Ay (wrap64 (d3 - 1));have oO:=(A2.o.t y).dF w.heap.size (zI zz) (zG []) (zI 0) (.slice (some ⟨w3.heap.size+1,0,none⟩) 1 1) (aG _) hs;exact Or.inr ⟨S,Z+1+1,wrap64 (d3 - 1),er,(zz:Int),0,[],some ⟨w3.heap.size+1,0,none⟩,1,1,rfl,((R.ep w.heap.size _ _ _ _ hs).next (aY _ _ _)),A6.o,oO.next (aY _ _ _) BU,ae,T.o⟩
def Ez (a:fV ts) (F:Nat) (z:zv len ts b bl cp F) (n i d:Nat) (e:Int) (w:zW) (B:d<=6) (A:i<G ts) (c:zw n (aw ts i)) (hF:10*(G ts - i)+(7 - n)<F+1) (m:St len ts w b bl cp i d e) :
  zC prog 128 #[zJ b,zI n] w (dQ len ts [aH (lv n) d] (λf p=>bh ts n i f p) (2*n) b bl cp i d e w):=by
 have o:1<=n/\n<=6:=by rcases c with ⟨rfl,_⟩|⟨rfl,_⟩<;>omega
 by_cases y:d=6
 ·subst y;refine (adx n i e w m.rd).m ?_;rintro r w' ⟨rfl,x,v⟩;refine Or.inr ⟨i,2,6,4,0,0,[],none,0,0,rfl,x,ai,v,ae,?_⟩;refine ic.sym ae ?_;rw [Eu n _ c];exact ic.deep
 ·have g:d<6:=ae;obtain ⟨k,q,h,u,_⟩:=a.cls m.rd.lt;have l:=LD n _ k c q;refine ajP a n i d e w o.1 g A c m k (if n=6 then 14 else 6) h ?_ ?_ ?_
  ·rcases l with ⟨rfl,rfl⟩|⟨rfl,rfl⟩
   ·right;decide
   ·left;decide
  ·intro f p t;rcases c with ⟨rfl,s⟩|⟨rfl,s⟩
   ·exact bh.jV i f p s t
   ·exact bh.neg i f p s t
  ·intro w2 j;exact z n (i+1) (d+1) e w2 o.1 o.2 ae ae j
end
end
end
section
section
def akh {w:zW} {q:Nat} {v0 v1 v2:zV} {t:TypeId} (h:w.heap[q]?=some (.cells #[v0,v1,v2] t (0,0))) :
  (w.cell? ⟨q,0,none⟩=some v0/\w.cell? ⟨q,1,none⟩=some v1/\w.cell? ⟨q,2,none⟩=some v2)/\q<w.heap.size:=
 ⟨⟨(bq w q 0 _ _ _ h).t rfl,(bq w q 1 _ _ _ h).t rfl,(bq w q 2 _ _ _ h).t rfl⟩,(cz.1 h).1⟩
def Jd (b:Nat) (a:By) (p:Pt) (w:zW) (e:Ending) (w':zW):Prop:=e=.returned (.tuple #[])/\Bu b (a++txt p) w'/\qs b w w'
structure WS (p:Pt) (a:Option zD) (c b:Nat) (acc:By) (w:zW) (t:By) (wr:zW):Prop where
 bu:Bu b (acc++t) wr
 ok:qs b w wr
 Mo:wr.heap[w.heap.size]?=some (.cells #[zI p.k,zG p.nm,zI p.n,.slice a (G p.kids) c] 87 (0,0))
 spl:wr.heap[w.heap.size+1]?=some (.cells #[.string ⟨(iP p.k).toArray⟩,.string ⟨(lL p.k).toArray⟩,.string ⟨(jO p.k).toArray⟩] 212 (0,0))
 lt:b<w.heap.size
section
variable {p:Pt} {a:Option zD} {c b:Nat} {acc:By} {w wr w1:zW} {t s:By}
def WS.call (h:WS p a c b acc w t wr) (d:Bu b (acc++t++s) w1) (hO:qs b wr w1):WS p a c b acc w (t++s) w1:=by
 have e:=h.lt;exact ⟨by rw [<- kI];exact d,h.ok.t hO,hO.blk h.Mo ae ai,hO.blk h.spl ae ai,h.lt⟩
def WS.next (h:WS p a c b acc w t wr) (g:zB wr w1):WS p a c b acc w t w1:=
 ⟨h.bu.next g,h.ok.next g (by have:=h.bu.2;omega),(g.block _ (cz.1 h.Mo).1).t h.Mo,(g.block _ (cz.1 h.spl).1).t h.spl,h.lt⟩
end
def L5 (p:Pt) (a:Option zD) (c b:Nat) (acc:By) (w:zW) (A:Nat->Option zD) (L C:Nat->Nat) (V:Env w) (O:11<=b) (F:p.k<20) (D:p.n<=gP) (m:Bu b acc w) (i:(G acc)+(txt p).length<=1000000)
  (X:∀ j (h:j<G p.kids),∃ g,a=some ⟨g,0,none⟩/\g<b/\w.cell? ⟨g,j*4,none⟩=some (zI ((p.kids[j]).k:Int))/\w.cell? ⟨g,j*4+1,none⟩=some (.string ⟨((p.kids[j]).nm).toArray⟩)/\w.cell? ⟨g,j*4+2,none⟩=some (zI ((p.kids[j]).n:Int))/\w.cell? ⟨g,j*4+3,none⟩=some (.slice (A j) (L j) (C j)))
  (r:∀ j (h:j<G p.kids) FV w',Below b w w'->Bu b FV w'->G FV+(txt p.kids[j]).length<=1000000->zC prog 95 #[.agg #[zI ((p.kids[j]).k:Int),.string ⟨((p.kids[j]).nm).toArray⟩,zI ((p.kids[j]).n:Int),.slice (A j) (L j) (C j)],zJ b] w' (Jd b FV p.kids[j] w')) :
  zC prog 95 #[.agg #[zI p.k,zG p.nm,zI p.n,.slice a (G p.kids) c],zJ b] w (Jd b acc p w):=by
 have Tn:(G p.kids)<=3:=NR;have HC:=I X;have SK:=I r;have HB:=I m;have HE:=I V;obtain ⟨s0,s1,s2⟩:=V.adE p.k F;have R:=m.2;have hgs:=gI w _ s0;have Z:(0:Int)<=(p.k:Int):=ae;have hk2:(p.k:Int)<20:=ae;have HLEN:=I i;have HW:=I (λFV s' w' (h:Bu b FV w') hl=>ag6 b FV s' w' h hl);clear X r m V i;go_in;have y:=BM p 0;have z:jN p 0=L4 p:=by unfold jN;simp [jn]
 rw [z] at y;have P:(L4 p).length=(iP p.k).length+G p.nm+(gu p.k p.n).length:=by unfold L4;simp only [b6]
 have Q:=I (show (G acc)+(iP p.k).length<=1000000 by have:=HLEN.o;omega);have T:=I (show (acc++iP p.k).length+G p.nm<=1000000 from Wf);have U:=I (show (acc++(iP p.k++p.nm)).length+(gu p.k p.n).length<=1000000 from agp);clear y z P;have E:=I (show WS p a c b acc w [] ((w.alloc (.cells #[zI p.k,zG p.nm,zI p.n,.slice a (G p.kids) c] 87)).alloc (.cells #[.string ⟨(iP p.k).toArray⟩,.string ⟨(lL p.k).toArray⟩,.string ⟨(jO p.k).toArray⟩] 212)) from
  ⟨by rw [iq];exact HB.o.next (aY _ _ _),(qs.refl b w).next (aY _ _ _) ae,(cj _ _ _ aq).t (bL _ _),by have:=bL (w.alloc (.cells #[zI p.k,zG p.nm,zI p.n,.slice a (G p.kids) c] 87)) (.cells #[.string ⟨(iP p.k).toArray⟩,.string ⟨(lL p.k).toArray⟩,.string ⟨(jO p.k).toArray⟩] 212);simpa using this,R⟩)
 go_wp2_with (go_at_call 131;refine mo (HW.o acc (iP p.k) _ (by have:=E.o.bu;rw [iq] at this;exact this) Q.o) ?_;rintro e w1 ⟨rfl,n,K⟩);have l:=I (E.o.call (s:=iP p.k) (by rw [iq];exact n) K);clear n K s0 s1 s2;obtain ⟨⟨k0,k1,k2,k3⟩,_,v⟩:=aX l.o.Mo;apply I;go_wp2_with (go_at_call 131;refine mo (HW.o (acc++iP p.k) p.nm _ l.o.bu T.o) ?_;rintro e w2 ⟨rfl,B,J⟩);have d:=I (l.o.call (s:=p.nm) B J);rw [ko] at d;clear B J k0 k1 k2 k3 v;obtain ⟨⟨k0,k1,k2,k3⟩,_,t⟩:=aX d.o.Mo;apply I;by_cases hk:p.k=1
 ·have S:((p.k:Int) == 1)=true:=oW;have N:=I (show gu p.k p.n=Lib.decDigits p.n by unfold gu;rw [aB hk]);have Y:=I (λw' (h:Env w')=>U7 p.n w' h D);have M:=I (show Env w2 from HE.o.below d.o.ok.bS O);clear hk;go_wp2_with (go_at_call 132;refine (Y.o _ M.o).m ?_;rw [<- N.o];rintro e w3 ⟨rfl,H⟩;apply Hid.o);have o:=I (d.o.next H);clear H k0 k1 k2 k3 t;apply I;go_wp2_with (go_at_call 131;refine mo (HW.o (acc++(iP p.k++p.nm)) (gu p.k p.n) _ o.o.bu U.o) ?_;rintro e w4 ⟨rfl,u,x⟩);have f:=I (show WS p a c b acc w (jN p 0) w4 by have:=o.o.call (s:=gu p.k p.n) u x;unfold jN L4;simpa [jn] using this);clear u x;obtain ⟨⟨k0,k1,k2,k3⟩,_,W⟩:=aX f.o.Mo;apply I;go_wp2_with fail;go_loopw [30] (λk wr=>∃ j:Nat,j<=G p.kids/\k=zI j/\Hid (WS p a c b acc w (jN p j) wr)) (λk _=>G p.kids - (intOf k).toNat)
  case atStart=>exact ⟨0,bE _,rfl,f⟩
  case round=>
   exact Wc
 ·have S:((p.k:Int) == 1)=false:=bo.2 ae;have f:=I (show WS p a c b acc w (jN p 0) w2 by have:=d.o;unfold jN L4 gu;rw [aA hk];simpa [jn] using this);clear hk;go_wp2_with fail;go_loopw [30] (λk wr=>∃ j:Nat,j<=G p.kids/\k=zI j/\Hid (WS p a c b acc w (jN p j) wr)) (λk _=>G p.kids - (intOf k).toNat)
  case atStart=>exact ⟨0,bE _,rfl,f⟩
  case round=>
   exact Wc
def adF {y:zW} {S:Nat->Prop} {p:Pt} {a:Option zD} {l c:Nat} (B:dR y S p a l c):∀ (b:Nat) (d:By) (w:zW),(∀ q,S q->q<b)->Below b y w->Env w->11<=b->Good p->Bu b d w->G d+(txt p).length<=1000000 ->
  zC prog 95 #[.agg #[zI p.k,zG p.nm,zI p.n,.slice a l c],zJ b] w (Jd b d p w):=by
 induction B with
 | leaf p z=>
  intro b d w _ _ r n f s t;have F:(G p.kids)=0:=by rw [z];rfl
  have:=L5 p none 0 b d w (λ_=>none) (λ_=>0) (λ_=>0) r n f.get.1 f.get.2.1 s t (λj h=>ae) (λj h=>ae);rw [F] at this;exact this
 | node p g x A L C m z E _ D=>
  intro b d w e i r n f s t;refine L5 p (some ⟨g,0,none⟩) x b d w A L C r n f.get.1 f.get.2.1 s t (λj h=>⟨g,rfl,e g m,?_⟩) (λj h o w' k u v=>?_)
  ·rw [i.cell (e g m),i.cell (e g m),i.cell (e g m),i.cell (e g m)];exact E j h
  ·exact D j h b o w' e (i.t k) (r.below k n) n (f.get.2.2 j h) u v
end
end
def Au (w:zW) (o:Obj) (cs:Array zV) (t:TypeId):((w.alloc o).alloc (.cells cs t)).heap[w.heap.size+1]?=some (.cells cs t (0,0)):=Xy
def fX (w:zW) (cs:Array zV) (t:TypeId) (o:Obj):((w.alloc (.cells cs t)).alloc o).heap[w.heap.size]?=some (.cells cs t (0,0)):=
 (cj _ _ _ aq).t (bL w _)
def L6 {S:Nat->Prop} (p:Pt) (a:Option zD) (l c:Nat) (w:zW) (m:dR w S p a l c) (i:∀ q,S q->q<w.heap.size) (j:Env w) (o:Good p) (t:(txt p).length<=1000000) :
  zC prog 63 #[.agg #[zI p.k,zG p.nm,zI p.n,.slice a l c]] w λe w'=>e=.returned (.string ⟨(txt p).toArray⟩)/\zB w w':=by
 have s:=j.size;have g:Bu (w.heap.size+1) [] ((w.alloc (.cells #[zI p.k,zG p.nm,zI p.n,.slice a l c] 87)).alloc (.cells #[.pointer none,zN] 170)):=by
  refine ⟨?_,aq⟩;have:=Lib.IsBuilderF.of (Lib.fresh_isBuilder 170 5 (w.alloc (.cells #[zI p.k,zG p.nm,zI p.n,.slice a l c] 87)));show Lib.IsBuilderF 170 5 (w.heap.size+1) (w.heap.size+1) [] _;simpa using this
 have f:zB w (w.alloc (.cells #[zI p.k,zG p.nm,zI p.n,.slice a l c] 87)):=(aM _ _).alloc (aG _) _;have b:Below (w.heap.size+1) (w.alloc (.cells #[zI p.k,zG p.nm,zI p.n,.slice a l c] 87)) ((w.alloc (.cells #[zI p.k,zG p.nm,zI p.n,.slice a l c] 87)).alloc (.cells #[.pointer none,zN] 170)):=(aM _ _).alloc aq _;have u:=I (adF (m.next λq k=>f.block q (i q k)) (w.heap.size+1) [] _ (λq k=>by have:=i q k;omega) b ((j.next f).next (bZ _)) ae o g (by simpa using t));clear m i j o g f b;go_in;go_wp2_with (go_at_call 95;refine mo u.o ?_;rintro e w1 ⟨rfl,d,h⟩);rw [ko] at d;have n:=I d;have r:=I h;clear d h;apply I;go_wp2_with (go_at_call 96;refine (Builder_String_any_k (w.heap.size+1) (w.heap.size+1) (txt p) _ n.o.1 (by have:=n.o.2;omega)).m ?_;rintro e w2 ⟨rfl,v,b⟩);go_ret;exact ⟨rfl,((bZ _).alloc aq _).t ((r.o.bS.t b.1).m ae)⟩
def uy {S:Nat->Prop} (p:Pt) (a:Option zD) (l c:Nat) (w:zW) (h:dR w S p a l c) (b:∀ q,S q->q<w.heap.size) (j:Env w) (i:Good p) (k:(txt p).length<=1000000) :
  zC prog 44 #[.agg #[zI p.k,zG p.nm,zI p.n,.slice a l c]] w λe w'=>e=.returned (.string ⟨(txt p).toArray⟩)/\zB w w':=by
 have H:=I (λw1 (g:zB w w1)=>L6 p a l c w1 (h.next λq f=>g.block q (b q f)) (λq f=>bG (b q f) g.size) (j.next g) i k);clear h b j i;go_in;go_wp2_with (go_at_call 63;refine (H.o _ (bZ _)).m ?_;rintro e w1 ⟨rfl,d⟩);go_ret;exact ⟨rfl,(bZ _).t (d.m aq)⟩
def Dq {S:Nat->Prop} (p:Pt) (a:Option zD) (l c:Nat) (w:zW) (k:dR w S p a l c) (i:∀ q,S q->q<w.heap.size) (o:Env w) (r:Good p) (u:(txt p).length<=1000000) :
  zC prog 62 #[.agg #[zI p.k,zG p.nm,zI p.n,.slice a l c]] w λe w'=>zB w w'/\((100<(txt p).length/\e=.returned (.tuple #[.agg #[zI 0,zG [],zI 0,zN],zI 7]))\/(¬ 100<(txt p).length/\e=.returned (.tuple #[.agg #[zI p.k,zG p.nm,zI p.n,.slice a l c],zI 0]))):=by
 have H:=I (λw1 (h:zB w w1)=>L6 p a l c w1 (k.next λq j=>h.block q (i q j)) (λq j=>bG (i q j) h.size) (o.next h) r u);clear k i o r;go_in;go_wp2_with (go_at_call 63;refine mo (H.o _ (aY _ _ _)) ?_;rintro e w1 ⟨rfl,b⟩);have s:=(b.block (w.heap.size+1) aq).t (Au w _ _ _);have f:=(b.block w.heap.size aN).t (fX w _ _ _);obtain ⟨⟨k0,k1,k2,k3⟩,⟨f0,f1,f2,f3⟩,t⟩:=aX s;obtain ⟨⟨A,y,z,x⟩,_,m⟩:=aX f;have n:=I (show zB w w1 from (aY w _ _).t (b.m aN));clear b s f;apply I;by_cases g:100<(txt p).length<;>have d:=I g
 ·go_wp2;refine aK (v:=.tuple #[.agg #[zI 0,zG [],zI 0,zN],zI 7]) ZW rfl ?_;exact ⟨(((n.o.setCell (p:=⟨w.heap.size+1,0,none⟩) aq _).setCell (p:=⟨w.heap.size+1,1,none⟩) aq _).setCell (p:=⟨w.heap.size+1,2,none⟩) aq _).setCell (p:=⟨w.heap.size+1,3,none⟩) aq _,Or.inl ⟨d.o,rfl⟩⟩
 ·go_wp2;refine aK (v:=.tuple #[.agg #[zI p.k,zG p.nm,zI p.n,.slice a l c],zI 0]) ZW rfl ?_;exact ⟨(((n.o.setCell (p:=⟨w.heap.size+1,0,none⟩) aq _).setCell (p:=⟨w.heap.size+1,1,none⟩) aq _).setCell (p:=⟨w.heap.size+1,2,none⟩) aq _).setCell (p:=⟨w.heap.size+1,3,none⟩) aq _,Or.inr ⟨d.o,rfl⟩⟩
def bJ {w:zW} {q:Nat} {v0 v1 v2 v3 v4 v5:zV} {t:TypeId} (h:w.heap[q]?=some (.cells #[v0,v1,v2,v3,v4,v5] t (0,0))) :
  (w.cell? ⟨q,0,none⟩=some v0/\w.cell? ⟨q,1,none⟩=some v1/\w.cell? ⟨q,2,none⟩=some v2/\w.cell? ⟨q,3,none⟩=some v3/\w.cell? ⟨q,4,none⟩=some v4/\w.cell? ⟨q,5,none⟩=some v5)/\(w.frozen? ⟨q,0,none⟩=false/\w.frozen? ⟨q,1,none⟩=false/\w.frozen? ⟨q,2,none⟩=false/\w.frozen? ⟨q,3,none⟩=false/\w.frozen? ⟨q,4,none⟩=false/\w.frozen? ⟨q,5,none⟩=false)/\q<w.heap.size:=
 ⟨⟨(bq w q 0 _ _ _ h).t rfl,(bq w q 1 _ _ _ h).t rfl,(bq w q 2 _ _ _ h).t rfl,(bq w q 3 _ _ _ h).t rfl,(bq w q 4 _ _ _ h).t rfl,(bq w q 5 _ _ _ h).t rfl⟩,⟨bF h 0,bF h 1,bF h 2,bF h 3,bF h 4,bF h 5⟩,(cz.1 h).1⟩
def kU {w w':zW} (h:zB w w') (g:Nat) (a:w.heap.size<=g) (v0 v1 v2 v3 v4 v5:zV):zB w ((((((w'.setCell ⟨g,0,none⟩ v0).setCell ⟨g,1,none⟩ v1).setCell ⟨g,2,none⟩ v2).setCell ⟨g,3,none⟩ v3).setCell ⟨g,4,none⟩ v4).setCell ⟨g,5,none⟩ v5):=
 (((((h.setCell (p:=⟨g,0,none⟩) a _).setCell (p:=⟨g,1,none⟩) a _).setCell (p:=⟨g,2,none⟩) a _).setCell (p:=⟨g,3,none⟩) a _).setCell (p:=⟨g,4,none⟩) a _).setCell (p:=⟨g,5,none⟩) a _
def afu {w w':zW} (h:zB w w') (g:Nat) (a:w.heap.size<=g) (v2 v3 v4 v5:zV):zB w ((((w'.setCell ⟨g,2,none⟩ v2).setCell ⟨g,3,none⟩ v3).setCell ⟨g,4,none⟩ v4).setCell ⟨g,5,none⟩ v5):=
 (((h.setCell (p:=⟨g,2,none⟩) a _).setCell (p:=⟨g,3,none⟩) a _).setCell (p:=⟨g,4,none⟩) a _).setCell (p:=⟨g,5,none⟩) a _
def Qa (w':zW) (g q:Nat) (a:q≠g) (v0 v1 v2 v3 v4 v5:zV):((((((w'.setCell ⟨g,0,none⟩ v0).setCell ⟨g,1,none⟩ v1).setCell ⟨g,2,none⟩ v2).setCell ⟨g,3,none⟩ v3).setCell ⟨g,4,none⟩ v4).setCell ⟨g,5,none⟩ v5).heap[q]?=w'.heap[q]?:=by
 rw [cY _ _ _ _ a,cY _ _ _ _ a,cY _ _ _ _ a,cY _ _ _ _ a,cY _ _ _ _ a,cY _ _ _ _ a]
def ajl (w':zW) (g q:Nat) (hq:q≠g) (v2 v3 v4 v5:zV):((((w'.setCell ⟨g,2,none⟩ v2).setCell ⟨g,3,none⟩ v3).setCell ⟨g,4,none⟩ v4).setCell ⟨g,5,none⟩ v5).heap[q]?=w'.heap[q]?:=Xt
def R9 (d:Int) (f:Option zD) (ln cn len:Nat) (ts:List (By × Nat)) (w:zW) (e:Ending) (w':zW):Prop:=
 zB w w' /\
 ((∃ (p:Pt) (a:Option zD) (l c b:Nat),e=.returned (.tuple #[.agg #[zI d,.slice f ln cn,zI p.k,zG p.nm,zI p.n,.slice a l c],zI 0,zI 0])/\dR w' (λq=>w.heap.size<=q/\q<w'.heap.size) p a l c/\bh ts 1 0 (G ts) p/\txt p=bV ts (G ts)/\¬ 100<(bV ts (G ts)).length/\b<=1000000/\cF len b [aH 82 0] ts=some (0,0)) \/
  (∃ b,e=.returned (.tuple #[.agg #[zI d,zN,zI 0,zG [],zI 0,zN],zI 7,zI 0])/\100<(bV ts (G ts)).length/\b<=1000000/\cF len b [aH 82 0] ts=some (0,0)) \/
  (∃ er p b,e=.returned (.tuple #[.agg #[zI d,zN,zI 0,zG [],zI 0,zN],zI er,zI ((p:Nat):Int)])/\er≠0/\b<=1000000/\cF len b [aH 82 0] ts=some (er,p)))
def Qb (a er:Int) (p:Nat):Ending:=.returned (.tuple #[.agg #[zI a,zN,zI 0,zG [],zI 0,zN],zI er,zI p])
def UQ (r:Int) (t:Option zD) (ln cn len:Nat) (ts:List (By × Nat)) (bl i n m:Nat) (w:zW) (c0:w.cell? ⟨bl,i*4,none⟩=some (zI 18)) (R:bl<w.heap.size) (O:n<=m) (L:∀ W,zB w W->zC prog 43 #[.slice (some ⟨bl,i*4+4,none⟩) (n+1) (m+1)] W (Bo len ts W)) :
  zC prog 97 #[.agg #[zI r,.slice t ln cn,zI 0,zG [],zI 0,zN],.slice (some ⟨bl,i*4,none⟩) (n+2) (m+2)] w (R9 r t ln cn len ts w):=by
 have H:=I L;clear L;have Q:(0:Int)<(n:Int)+2:=ae;have P:(0:Int)<=(n:Int):=ae;have M:(n:Int)<=(m:Int):=ae;go_in;go_wp2_with (go_at_call 43;refine (H.o _ (aY _ _ _)).m ?_;rintro e w1 ⟨d,(⟨p,a,l,c,o,rfl,G,b⟩|⟨o,rfl,b⟩|⟨er,p,o,rfl,j,b⟩)⟩<;>apply Hid.o)
 ·obtain ⟨⟨k0,k1,k2,k3,k4,k5⟩,⟨f0,f1,f2,f3,f4,f5⟩,hsz⟩:=bJ ((d.block (w.heap.size+1) aq).t (bc w _ _ _));obtain ⟨⟨z,y,B,A,J,K⟩,⟨D,E,u,C,x,F⟩,h⟩:=bJ ((d.block w.heap.size aN).t (fX w _ _ _));have g:w.heap.size≠w.heap.size+1:=ae;have f:w.heap.size+1≠w.heap.size:=ae;have s:=I (show zB w w1 from (aY w _ _).t (d.m aN));have N:=I G;have k:=I b;clear d G b H;apply I;go_wp2;refine aK (v:=.tuple #[.agg #[zI r,.slice t ln cn,zI p.k,zG p.nm,zI p.n,.slice a l c],zI 0,zI 0]) Zp rfl ?_;refine ⟨(kU (afu s.o w.heap.size (aG _) _ _ _ _) (w.heap.size+1) ae _ _ _ _ _ _).alloc aN _,Or.inl ⟨p,a,l,c,o,rfl,(N.o.next λq hq=>?_).wide λq hq=>?_,k.o⟩⟩
  ·have Gn:=hq.1;simp at Gn;rw [cj _ _ _ (by simp;exact hq.2),Qa _ _ _ ae,ajl _ _ _ ae]
  ·exact Gm
 ·obtain ⟨⟨k0,k1,k2,k3,k4,k5⟩,⟨f0,f1,f2,f3,f4,f5⟩,hsz⟩:=bJ ((d.block (w.heap.size+1) aq).t (bc w _ _ _));obtain ⟨⟨z,y,B,A,J,K⟩,⟨D,E,u,C,x,F⟩,h⟩:=bJ ((d.block w.heap.size aN).t (fX w _ _ _));have g:w.heap.size≠w.heap.size+1:=ae;have f:w.heap.size+1≠w.heap.size:=ae;have s:=I (show zB w w1 from (aY w _ _).t (d.m aN));have k:=I b;clear d b H;apply I;go_wp2;refine aK (v:=.tuple #[.agg #[zI r,zN,zI 0,zG [],zI 0,zN],zI 7,zI 0]) Zp rfl ?_;exact ⟨(kU s.o (w.heap.size+1) ae _ _ _ _ _ _).alloc aN _,Or.inr (Or.inl ⟨o,rfl,k.o⟩)⟩
 ·have S:(er != 0)=true:=by simp [j]
  obtain ⟨⟨k0,k1,k2,k3,k4,k5⟩,⟨f0,f1,f2,f3,f4,f5⟩,hsz⟩:=bJ ((d.block (w.heap.size+1) aq).t (bc w _ _ _));obtain ⟨⟨z,y,B,A,J,K⟩,⟨D,E,u,C,x,F⟩,h⟩:=bJ ((d.block w.heap.size aN).t (fX w _ _ _));have g:w.heap.size≠w.heap.size+1:=ae;have f:w.heap.size+1≠w.heap.size:=ae;have s:=I (show zB w w1 from (aY w _ _).t (d.m aN));have k:=I (And.intro j b);clear d b H j;apply I;go_wp2;refine aK (v:=.tuple #[.agg #[zI r,zN,zI 0,zG [],zI 0,zN],zI er,zI p]) Zp rfl ?_;exact ⟨(kU s.o (w.heap.size+1) ae _ _ _ _ _ _).alloc aN _,Or.inr (Or.inr ⟨er,p,o,rfl,k.o.1,k.o.2⟩)⟩
def UR (b:Int) (h:Option zD) (ln cn:Nat) (bl i n m a:Nat) (k:Int) (hk:k≠18) (w:zW) (c0:w.cell? ⟨bl,i*4,none⟩=some (zI k)) (c1:w.cell? ⟨bl,i*4+1,none⟩=some (zI a)) (f:bl<w.heap.size) :
  zC prog 97 #[.agg #[zI b,.slice h ln cn,zI 0,zG [],zI 0,zN],.slice (some ⟨bl,i*4,none⟩) (n+1) (m+1)] w λe w'=>e=Qb b 3 a/\zB w w':=by
 have d:(k != 18)=true:=oW;have g:(0:Int)<(n:Int)+1:=ae;have j:bl≠w.heap.size+1:=ae;have c:w.heap.size+1≠bl:=ae;clear hk;go_in;go_wp2_with fail
 go_region
 all_goals go_wp2
 all_goals refine aK (v:=.tuple #[.agg #[zI b,zN,zI 0,zG [],zI 0,zN],zI 3,zI a]) (by simp [results,results97,go_sem]) rfl ?_
 all_goals exact ⟨rfl,(aY _ _ _).drew⟩
def acy:∀ args w,(callFunc 239 args).run prog w=.ok (.enter 239 args) w:=oK func239 aD rfl
def K9 (a:Option zD) (n c:Nat) (lb:zV) (w:zW) (q:Nat->Pt) (A:Nat->Option zD) (L C:Nat->Nat) (f:Nat->Bool) (F:n<=3) (t:ib w a n q A L C)
  (u:∀ j,j<n->∀ W,zB w W->zC prog 239 #[.agg #[zI ((q j).k:Int),.string ⟨((q j).nm).toArray⟩,zI ((q j).n:Int),.slice (A j) (L j) (C j)],lb] W λe w'=>e=.returned (.bool (f j))/\zB w w') :
  zC prog 257 #[.slice a n c,.func (.func 239) #[] #[lb]] w λe w'=>∃ z:Int,e=.returned (zI z)/\(0<=z↔∃ j,j<n/\f j=true)/\zB w w':=by
 have y:=I t;have x:=I u;have D:=acy;clear t u;go_in;go_wp2_with fail;go_loopg [5,8] n (λgk _ B wr=>∃ j:Nat,j<=n/\n<=j+gk/\B=zI j/\Hid (zB w wr)/\Hid (∀ i,i<j->f i=false))
 case atStart=>exact YJ
 case round=>
  obtain ⟨j,E,v,rfl,l,s⟩:=hrel;by_cases d:j<n
  ·obtain ⟨g,rfl,o,c0,c1,c2,c3⟩:=y.o j d;have d0:=(l.o.cell (p:=⟨g,j*4,none⟩) o).t c0;have d1:=(l.o.cell (p:=⟨g,j*4+1,none⟩) o).t c1;have d2:=(l.o.cell (p:=⟨g,j*4+2,none⟩) o).t c2;have d3:=(l.o.cell (p:=⟨g,j*4+3,none⟩) o).t c3;have k:=I (x.o j d wr l.o);have m:(j:Int)<(n:Int):=ae;clear c0 c1 c2 c3;cases r:f j with
   | true=>
    rw [r] at k;go_wp2_with (first|(go_at_fn 239;refine k.o.m ?_;rintro e w1 ⟨rfl,b⟩)|(go_at_call 239;refine k.o.m ?_;rintro e w1 ⟨rfl,b⟩));go_ret;exact ⟨_,rfl,⟨λ_=>⟨j,d,r⟩,λ_=>ae⟩,b⟩
   | false=>
    rw [r] at k;go_wp2_with (first|(go_at_fn 239;refine k.o.m ?_;rintro e w1 ⟨rfl,b⟩)|(go_at_call 239;refine k.o.m ?_;rintro e w1 ⟨rfl,b⟩));go_roundg (n - (j+1))
    case measure=>omega
    case rel=>
     refine ⟨j+1,ae,ae,ez,b,(show Hid _ from λi hi=>?_)⟩;by_cases e:i=j
     ·subst e;exact r
     ·exact s.o i ae
  ·have m:¬ (j:Int)<(n:Int):=ae;go_wp2;go_ret;refine ⟨_,rfl,⟨λh=>ae,λ⟨i,hi,h⟩=>?_⟩,l.o⟩;rw [s.o i ae] at h;cases h
def Dj (a:Option zD) (n c:Nat) (lb:zV) (w:zW) (q:Nat->Pt) (A:Nat->Option zD) (L C:Nat->Nat) (f:Nat->Bool) (b:Bool) (r:n<=3) (l:ib w a n q A L C) (p:b=true↔∃ j,j<n/\f j=true)
  (m:∀ j,j<n->∀ W,zB w W->zC prog 239 #[.agg #[zI ((q j).k:Int),.string ⟨((q j).nm).toArray⟩,zI ((q j).n:Int),.slice (A j) (L j) (C j)],lb] W λe w'=>e=.returned (.bool (f j))/\zB w w') :
  zC prog 238 #[.slice a n c,.func (.func 239) #[] #[lb]] w λe w'=>e=.returned (.bool b)/\zB w w':=by
 have H:=I (K9 a n c lb w q A L C f r l m);have s:=I p;clear l m p;go_in;go_wp2_with (go_at_call 257;refine mo H.o ?_;rintro e w1 ⟨z,rfl,o,d⟩);have g:decide (0<=z)=b:=by
  have k:=o.t s.o.symm;cases b with
  | true=>exact decide_eq_true (k.2 rfl)
  | false=>exact decide_eq_false (λh=>by cases k.1 h)
 have t:=I g;have i:=I d;clear o d g;apply I;go_wp2;go_ret;exact ⟨eL (λb=>Ending.returned (.bool b)) t.o,i.o⟩
def aje (x:By) (k n:Int) (y:By) (a:Option zD) (l c B:Nat) (b:Bool) (w:zW) (h:B<w.heap.size) (i:w.cell? ⟨B,0,none⟩=some (zG x))
  (f:∀ W,zB w W->zC prog 218 #[.agg #[zI k,zG y,zI n,.slice a l c],zG x] W λe w'=>e=.returned (.bool b)/\zB W w') :
  zC prog 239 #[.agg #[zI k,zG y,zI n,.slice a l c],zJ B] w λe w'=>e=.returned (.bool b)/\zB w w':=by
 have g:=I f;clear f;go_in;go_wp2_with (go_at_call 218;refine (g.o _ (bZ _)).m ?_;rintro e w1 ⟨rfl,d⟩);go_ret;exact ⟨rfl,(bZ _).t (d.m aq)⟩
def Dk (x:By) (p:Pt) (a:Option zD) (c:Nat) (w:zW) (q:Nat->Pt) (A:Nat->Option zD) (L C:Nat->Nat) (f:Nat->Bool) (b:Bool) (n:(G p.kids)<=3) (k:ib w a (G p.kids) q A L C) (d:b=true↔∃ j,j<G p.kids/\f j=true)
  (l:∀ j,j<G p.kids->∀ W,zB w W->zC prog 218 #[.agg #[zI ((q j).k:Int),.string ⟨((q j).nm).toArray⟩,zI ((q j).n:Int),.slice (A j) (L j) (C j)],zG x] W λe w'=>e=.returned (.bool (f j))/\zB W w') :
  zC prog 218 #[.agg #[zI p.k,zG p.nm,zI p.n,.slice a (G p.kids) c],zG x] w λe w'=>e=.returned (.bool ((p.k == 2&&p.nm == x)||b))/\zB w w':=by
 have u:=I k;have o:=I l;clear k l;have HCF:=I (Dj a (G p.kids) c (.pointer (some ⟨w.heap.size+1,0,none⟩)) ((w.alloc (.cells #[zI p.k,zG p.nm,zI p.n,.slice a (G p.kids) c] 87)).alloc (.cells #[zG x] 9)) q A L C f b n (u.o.next (aY _ _ _)) d (λj t W hW=>by
  have i:w.heap.size+1<((w.alloc (.cells #[zI p.k,zG p.nm,zI p.n,.slice a (G p.kids) c] 87)).alloc (.cells #[zG x] 9)).heap.size:=aq;have v:W.cell? ⟨w.heap.size+1,0,none⟩=some (zG x):=(hW.cell (p:=⟨w.heap.size+1,0,none⟩) i).t (Aq (bc w _ _ _)).1;exact (aje x _ _ _ _ _ _ (w.heap.size+1) (f j) W (bG i hW.size) v (λm g=>o.o j t m ((aY w _ _).t ((hW.m aN).t (g.m NC))))).m λe w' h=>⟨h.1,hW.t (h.2.m hW.size)⟩))
 by_cases hk:p.k=2
 ·have s:((p.k:Int) == 2)=true:=oW;by_cases hx:p.nm=x
  ·have r:(p.nm == x)=true:=iE;have HE:=I (show ((p.k == 2&&p.nm == x)||b)=true by simp [hk,hx]);rw [HE.o];clear hk hx d;go_in;go_wp2;go_ret;exact ⟨rfl,aY w _ _⟩
  ·have r:(p.nm == x)=false:=iE;have HE:=I (show Ending.returned (.bool b)=Ending.returned (.bool ((p.k == 2&&p.nm == x)||b)) from iE);clear hk hx d;exact Xj
 ·have s:((p.k:Int) == 2)=false:=bo.2 ae;have HE:=I (show Ending.returned (.bool b)=Ending.returned (.bool ((p.k == 2&&p.nm == x)||b)) from oW);clear hk d;exact Xj
def Iu (x:By) {s:zW} {S:Nat->Prop} {p:Pt} {a:Option zD} {l c:Nat} (t:dR s S p a l c):∀ w,(∀ q,S q->q<w.heap.size/\w.heap[q]?=s.heap[q]?) ->
  zC prog 218 #[.agg #[zI p.k,zG p.nm,zI p.n,.slice a l c],zG x] w λe w'=>e=.returned (.bool (aC x p))/\zB w w':=by
 induction t with
 | leaf p o=>
  intro w _;have B:(G p.kids)=0:=by rw [o];rfl
  have:=Dk x p none 0 w (λ_=>p) (λ_=>none) (λ_=>0) (λ_=>0) (λ_=>false) false ae (λj b=>ae) ⟨λh=>ir,λ⟨j,b,_⟩=>ae⟩ (λj b=>ae);rw [B] at this;rw [Fq,o];exact this
 | node p g n A L C i o v _ u=>
  intro w d;have k:∀ j (h:j<G p.kids),(p.kids[j]?).getD (.atom 1 [] 0)=p.kids[j]:=λj h=>by simp [h]
  rw [Fq];refine Dk x p (some ⟨g,0,none⟩) n w (λj=>(p.kids[j]?).getD (.atom 1 [] 0)) A L C (λj=>aC x ((p.kids[j]?).getD (.atom 1 [] 0))) _ NR (λj b=>?_) ?_ (λj b W r=>?_)
  ·refine ⟨g,rfl,(d g i).1,?_⟩;simp only [k j b];rw [aS (d g i).2,aS (d g i).2,aS (d g i).2,aS (d g i).2];exact v j b
  ·rw [List.any_map,rD];constructor
   ·rintro ⟨y,z,h⟩;obtain ⟨j,b,rfl⟩:=e9 z;exact ⟨j,b,by simp only [k j b];exact h⟩
   ·rintro ⟨j,b,h⟩;simp only [k j b] at h;exact ⟨_,bt b,h⟩
  ·simp only [k j b];exact u j b W λm f=>⟨bG (d m f).1 r.size,(r.block m (d m f).1).t (d m f).2⟩
def Sb:∀ (k u:Nat),u<10 ^ (k+1)->(Lib.decDigits u).length<=k+1
 | 0,u,h=>by rw [Lib.decDigits,dif_pos ae];simp
 | k+1,u,h=>by
  rw [Lib.decDigits];split
  ·simp
  ·have:=Sb k (u / 10) (by rw [Nat.pow_succ] at h;omega);simp;exact this
def Du (d:Nat) (h:d<10):cT (UInt8.ofNat (48+d))=true/\(UInt8.ofNat (48+d)).toNat - 48=d:=by
 rcases (show d=0\/d=1\/d=2\/d=3\/d=4\/d=5\/d=6\/d=7\/d=8\/d=9 from ae) with rfl|rfl|rfl|rfl|rfl|rfl|rfl|rfl|rfl|rfl<;>decide
def UX (n:Nat):kv (Lib.decDigits n)/\cR (Lib.decDigits n)=n/\Lib.decDigits n≠[]:=by
 induction n using Nat.strongRecOn with
 | ind n f=>
  rw [Lib.decDigits];split
  ·rename_i h;obtain ⟨b,c⟩:=Du n h;refine ⟨λx a=>?_,?_,aq⟩
   ·rw [iB.1 a];exact b
   ·simp only [cR,wC,List.foldl_nil];omega
  ·rename_i h;obtain ⟨e,d,g⟩:=f (n / 10) ae;obtain ⟨b,c⟩:=Du (n % 10) ae;refine ⟨λx a=>?_,?_,aq⟩
   ·rcases cG.1 a with a|a
    ·exact e x a
    ·rw [iB.1 a];exact b
   ·rw [Cr,d,c];omega
def xI (s:By):fV (aI s).1:=λt p a=>⟨⟨x9 _ _ _ t p a,lz _ _ _ t p a⟩,xj _ _ _ t p a⟩
def rV (a:Int) (w:zW):zC prog 48 #[zI a] w λr w'=>r=.returned (.bool (a == 1||(a == 2||a == 3)))/\w'=w:=by
 by_cases h1:a=1
 ·subst h1;go_in;go_wp2;go_ret;simp
 ·have c:(a == 1)=false:=vP;by_cases h2:a=2
  ·subst h2;go_in;go_wp2;go_ret;simp
  ·have b:(a == 2)=false:=tI;go_in;go_wp2;go_ret;simp [c,b]
structure Aside (Z:zW->Prop) (q g:Nat):Prop where
 a:∀ W j u,Z W->Z (W.setCell ⟨q,j,none⟩ u)
 b:∀ W j u,Z W->Z (W.setCell ⟨g,j,none⟩ u)
def rT (a:Int):Bool:=a == 1||(a == 2||a == 3)
def ace (e q g:Nat) (Z:zW->Prop) (a er:Int) (Q:zW->Prop):Prop:=
 (∀ W j u,Q W->Q (W.setCell ⟨q,j,none⟩ u))/\if er≠0/\rT a=true then ∀ W,Z W->zC prog 49 #[.pointer (some ⟨e,1,none⟩)] W λr w'=>(∃ x,r=.returned (zI x))/\w'.heap[q]?=W.heap[q]?/\w'.heap[g]?=W.heap[g]?/\Q w' else ∀ W,Z W->Q W
def RX (Q:Int->Int->By->Option zD->Nat->Nat->Int->Int->zW->Prop) (e q g a:Nat) (b:Obj) (c:Int) (r:Ending) (w2:zW):Prop:=
 ∃ er at_ tx bn ln cn kd nn Z,r=.returned (Ik er at_ tx bn ln cn kd nn)/\w2.heap[q]?=some bM/\w2.heap[g]?=some bM/\w2.heap[a]?=some b/\Aside Z q g/\Z w2/\ace e q g Z c er (Q er at_ tx bn ln cn kd nn)
def ai3 (Q:Int->Int->By->Option zD->Nat->Nat->Int->Int->zW->Prop) (e:Nat) (w:zW) (r:Ending) (w1:zW):Prop:=
 Below (w.heap.size+1) (w.alloc bM) w1/\∃ a c ln cn k nm n d f b,r=.returned (.tuple #[j7 a c ln cn k nm n d f b,zI 0,zI 0]) /\
  zC prog 47 #[zJ e,j7 a c ln cn k nm n d f b] ((w1.alloc (jx a c ln cn k nm n d f b)).alloc bM) (RX Q e w.heap.size (w1.heap.size+1) w1.heap.size (jx a c ln cn k nm n d f b) a)
def PV (e:Nat) (s:By) (w:zW) (Q:Int->Int->By->Option zD->Nat->Nat->Int->Int->zW->Prop)
  (hR:zC prog 46 #[zG s] (w.alloc bM) (ai3 Q e w)) :
  zC prog 20 #[zJ e,zG s] w λr w'=>∃ er at_ tx bn ln cn kd nn,r=.returned (Ik er at_ tx bn ln cn kd nn)/\Q er at_ tx bn ln cn kd nn w':=by
 have X:=I hR;clear hR;unfold bM at X;go_in;go_wp2_with (go_at_call 46;refine X.o.m ?_;rintro r w1 ⟨hb1,f,an,ln,cn,k,nm,n,K,N,Y,F,hf⟩;unfold j7 at F;subst F;apply Hid.o);have hs1:w.heap.size<w1.heap.size:=vM;have M:=I hf;unfold j7 bM at M;have z:=I (show zC prog 47 #[zJ e,.agg #[zI f,.slice an ln cn,zI k,zG nm,zI n,.slice K N Y]] ((w1.alloc (.cells #[zI f,.slice an ln cn,zI k,zG nm,zI n,.slice K N Y] 97 (0,0))).alloc (.cells #[zI 0,zI 0,zG [],zN,zI 0,zI 0] 39 (0,0))) (RX Q e w.heap.size (w1.heap.size+1) w1.heap.size (jx f an ln cn k nm n K N Y) f) from M.o);clear hb1 hf X M;apply I;go_wp2_with (go_at_call 47;refine z.o.m ?_;rintro r w2 ⟨er,at_,tx,bn,b,a,kd,nn,Z,F,h1,R,h3,hA,hZ,hE⟩;unfold Ik at F;subst F;apply Hid.o);obtain ⟨⟨k0,k1,k2,k3,k4,k5⟩,⟨f0,f1,f2,f3,f4,f5⟩,hsz⟩:=bJ h1;obtain ⟨⟨j0,j1,j2,j3,j4,j5⟩,⟨g0,g1,g2,g3,g4,g5⟩,A⟩:=bJ R;obtain ⟨⟨l0,l1,l2,l3,l4,l5⟩,⟨m0,m1,m2,m3,m4,m5⟩,oU⟩:=bJ h3;have hne:w.heap.size≠w1.heap.size+1:=ae;have amj:w1.heap.size+1≠w.heap.size:=ae;have RY:w.heap.size≠w1.heap.size:=ae;have T:w1.heap.size≠w.heap.size:=ae;have c:=I hA;have HZ:=I hZ;have m:=I hE;have H1:=I h1;have H2:=I R;clear h1 R h3 hA hZ hE z;apply I;have B:=I (show ∀ W:zW,W.heap[w1.heap.size+1]?=some bM->((((((W.setCell ⟨w1.heap.size+1,0,none⟩ (zI er)).setCell ⟨w1.heap.size+1,1,none⟩ (zI at_)).setCell ⟨w1.heap.size+1,2,none⟩ (zG tx)).setCell ⟨w1.heap.size+1,3,none⟩ (.slice bn b a)).setCell ⟨w1.heap.size+1,4,none⟩ (zI kd)).setCell ⟨w1.heap.size+1,5,none⟩ (zI nn)).heap[w1.heap.size+1]?=some (.cells #[zI er,zI at_,zG tx,.slice bn b a,zI kd,zI nn] 39 (0,0)) from λW L=>(aj (aj (aj (aj (aj (aj L 0 _) 1 _) 2 _) 3 _) 4 _) 5 _).t rfl);have E:=I (show ∀ W:zW,W.heap[w.heap.size]?=some bM->((((((W.setCell ⟨w1.heap.size+1,0,none⟩ (zI er)).setCell ⟨w1.heap.size+1,1,none⟩ (zI at_)).setCell ⟨w1.heap.size+1,2,none⟩ (zG tx)).setCell ⟨w1.heap.size+1,3,none⟩ (.slice bn b a)).setCell ⟨w1.heap.size+1,4,none⟩ (zI kd)).setCell ⟨w1.heap.size+1,5,none⟩ (zI nn)).heap[w.heap.size]?=some bM from λW L=>by
  rw [cY _ _ _ _ hne,cY _ _ _ _ hne,cY _ _ _ _ hne,cY _ _ _ _ hne,cY _ _ _ _ hne,cY _ _ _ _ hne];exact L)
 have t:=c.o.b _ 5 (zI nn) (c.o.b _ 4 (zI kd) (c.o.b _ 3 (.slice bn b a) (c.o.b _ 2 (zG tx) (c.o.b _ 1 (zI at_) (c.o.b _ 0 (zI er) HZ.o)))));have p:=I t;have C:=B.o w2 H2.o;have D:=E.o w2 H1.o;have u:=I C;have H:=I D;clear t C D B E;have j:=I m.o.1;have o:(¬ (er≠0/\rT f=true))->Hid (∀ W,Z W->Q er at_ tx bn b a kd nn W):=λh0=>by
  have:=m.o.2;rw [aA h0] at this;exact I this
 have J:=I o;clear o;by_cases her:er=0
 ·subst her;go_wp2;refine aK (v:=.agg #[zI 0,zI at_,zG tx,.slice bn b a,zI kd,zI nn]) Re gN ?_;refine ⟨0,at_,tx,bn,b,a,kd,nn,rfl,(J.o (λh=>h.1 rfl)).o _ ?_⟩;exact c.o.a _ _ _ (c.o.a _ _ _ (c.o.a _ _ _ (c.o.a _ _ _ (c.o.a _ _ _ (c.o.a _ _ _ p.o)))))
 ·have amk:(er == 0)=false:=Ot;by_cases g:rT f=true
  ·have d:(f == 1||(f == 2||f == 3))=true:=g;have i:=I (λW=>rV f W);rw [d] at i;have l:=m.o.2;rw [aB ⟨her,g⟩] at l;have V:=I (l _ p.o);clear l g d J m c HZ;have S:=I (Eq.refl ((((((w2.setCell ⟨w1.heap.size+1,0,none⟩ (zI er)).setCell ⟨w1.heap.size+1,1,none⟩ (zI at_)).setCell ⟨w1.heap.size+1,2,none⟩ (zG tx)).setCell ⟨w1.heap.size+1,3,none⟩ (.slice bn b a)).setCell ⟨w1.heap.size+1,4,none⟩ (zI kd)).setCell ⟨w1.heap.size+1,5,none⟩ (zI nn)));go_wp2_with (go_at_call 48;refine mo (i.o _) ?_;rintro r w3 ⟨rfl,rfl⟩);obtain ⟨⟨q0,q1,q2,q3,q4,q5⟩,⟨s0,s1,s2,s3,s4,s5⟩,arH⟩:=bJ H.o;obtain ⟨⟨u0,u1,u2,u3,u4,u5⟩,⟨t0,t1,t2,t3,t4,t5⟩,arI⟩:=bJ u.o;generalize P:((((((w2.setCell ⟨w1.heap.size+1,0,none⟩ (zI er)).setCell ⟨w1.heap.size+1,1,none⟩ (zI at_)).setCell ⟨w1.heap.size+1,2,none⟩ (zG tx)).setCell ⟨w1.heap.size+1,3,none⟩ (.slice bn b a)).setCell ⟨w1.heap.size+1,4,none⟩ (zI kd)).setCell ⟨w1.heap.size+1,5,none⟩ (zI nn))=w6 at *;clear P S i;apply I;go_wp2_with (go_at_call 49;refine mo V.o ?_;rintro r w3 ⟨⟨x,rfl⟩,G,q,y⟩);obtain ⟨⟨k0,k1,k2,k3,k4,k5⟩,⟨f0,f1,f2,f3,f4,f5⟩,hsz⟩:=bJ (G.t H.o);obtain ⟨⟨j0,j1,j2,j3,j4,j5⟩,⟨g0,g1,g2,g3,g4,g5⟩,A⟩:=bJ (q.t u.o);have O:=I y;clear G q y;apply I;go_wp2;refine aK (v:=.agg #[zI er,zI at_,zG tx,.slice bn b a,zI kd,zI nn]) Re gN ?_;refine ⟨er,at_,tx,bn,b,a,kd,nn,rfl,?_⟩;exact j.o _ _ _ (j.o _ _ _ (j.o _ _ _ (j.o _ _ _ (j.o _ _ _ (j.o _ _ _ O.o)))))
  ·have d:(f == 1||(f == 2||f == 3))=false:=by simpa [rT] using g
   have i:=I (λW=>rV f W);rw [d] at i;have U:=I ((J.o (λh=>g h.2)).o);clear g d J m HZ;go_wp2_with (go_at_call 48;refine (i.o _).m ?_;rintro r w3 ⟨rfl,rfl⟩);refine aK (v:=.agg #[zI er,zI at_,zG tx,.slice bn b a,zI kd,zI nn]) Re gN ?_;refine ⟨er,at_,tx,bn,b,a,kd,nn,rfl,U.o _ ?_⟩;exact c.o.a _ _ _ (c.o.a _ _ _ (c.o.a _ _ _ (c.o.a _ _ _ (c.o.a _ _ _ (c.o.a _ _ _ p.o)))))
end Go.Proofs.YtihgojcfpnhelaaGreatDoor
