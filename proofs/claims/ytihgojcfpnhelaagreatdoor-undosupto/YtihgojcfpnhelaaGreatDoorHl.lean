import Derived.Test.YtihgojcfpnhelaaGreatDoorMw
set_option maxRecDepth 100000
set_option maxHeartbeats 4000000
set_option linter.all false
namespace Go.Proofs.YtihgojcfpnhelaaGreatDoor
open Value renaming slice->B,agg->zd,tuple->zp,bool->zF,pointer->zK
open Obj renaming cells->zM
open Ending renaming returned->zP
open Option renaming some->A
open Or renaming inl->zR,inr->zZ
open Go renaming World->zW,Value->zV,Calls->zC,Addr->zD
open Go.RowKit Go.Proofs.Tryz
open List renaming length→G
def P7 (r:zV) (p:Pt) (a:Option zD) (n c:Nat) (w:zW) (q:Nat->Pt) (Q0:Nat->Option zD) (L C:Nat->Nat) (v:Nat->Vl) (hn:n=3) (U:ib w a n q Q0 L C) (hV:kG r w n q Q0 L C v) :
  zC prog 246 #[zd #[bH r],zd #[J p.k,Q p.nm,J p.n,B a n c]] w (dx (fQ (v 0) (v 1) (v 2)) w):=by
 subst hn;obtain ⟨g,rfl,s,c0,c1,c2,c3⟩:=U 0 (by omega);obtain ⟨g',x,_,d0,d1,d2,d3⟩:=U 1 (by omega);obtain rfl:g=g':=(by simpa using x);obtain ⟨g',x,_,u0,u1,u2,u3⟩:=U 2 (by omega);obtain rfl:g=g':=(by simpa using x);rw [jC] at c0 c1 c2 c3;rw [mQ] at d0 d1 d2 d3;rw [show 2*4=8 from rfl] at u0 u1 u2 u3;have HV:=I hV;have wR:(0:Int)<((3:Nat):Int):=(by omega);have ao:(1:Int)<((3:Nat):Int):=(by omega);obtain ⟨K,R⟩:∃ K,K=(((w.alloc (zM #[bH r] 306)).alloc (zM #[J p.k,Q p.nm,J p.n,zS g 3 c] 87)).alloc (zM #[J 0,J 0] 177)):=⟨_,rfl⟩;have Q6:K.heap.size=w.heap.size+1+1+1:=(by rw [R];simp);have f:zB w K:=(by rw [R];exact og w _ _ _);have r0:K.heap[w.heap.size]?=A (zM #[bH r] 306 (0,0)):=(by rw [R,cj _ _ _ (by simp;omega),cj _ _ _ (by simp)];exact bL w _);have r2:K.heap[w.heap.size+1]?=A (zM #[J p.k,Q p.nm,J p.n,zS g 3 c] 87 (0,0)):=(by rw [R,cj _ _ _ (by simp)];exact bc w _ _ _);have r3:K.heap[w.heap.size+1+1]?=A (zM #[J 0,J 0] 177 (0,0)):=by
  rw [R];exact fZ w _ _ _ _
 have C0:=(f.cell (p:=yh g) s).t c0;have C1:=(f.cell (p:=X g (0+1)) s).t c1;have C2:=(f.cell (p:=X g (0+2)) s).t c2;have C3:=(f.cell (p:=X g (0+3)) s).t c3;rw [cS] at C1 C2 C3;obtain ⟨i0,_,_⟩:=Aq r0;obtain ⟨⟨_,_,_,i2⟩,_,_⟩:=aX r2;have aa:=I f;have HR:=I (And.intro r0 (And.intro r2 r3));have ac:=I R;have am:g<K.heap.size:=(by omega);have af:w.heap.size<K.heap.size:=(by omega);have ag:w.heap.size+1<K.heap.size:=(by omega);have QV:w.heap.size+1+1<K.heap.size:=(by omega);have ar:(2:Int)<((3:Nat):Int):=(by omega);clear U hV x;have Jt:=I (show zC prog 243 #[zd #[bH r],J 2,zd #[J ((q 0).k:Int),Q ((q 0).nm),J ((q 0).n:Int),B (Q0 0) (L 0) (C 0)]] K.drew λe P=>e=zP (zd #[J (aP 2 (v 0)).1,J (aP 2 (v 0)).2])/\zB K P from
  ((HV.o.next (w':=K.drew) f.drew).only 0 (by omega) 2).m λe P h=>⟨h.1,(aM _ _).drew.t h.2⟩)
 have B1:=I (show zC prog 243 #[zd #[bH r],J 2,zd #[J ((q 0).k:Int),Q ((q 0).nm),J ((q 0).n:Int),B (Q0 0) (L 0) (C 0)]] (K.alloc (zM #[J 0,J 0] 177)).drew λe P=>e=zP (zd #[J (aP 2 (v 0)).1,J (aP 2 (v 0)).2])/\zB K P/\P.heap[K.heap.size]?=A (zM #[J 0,J 0] 177 (0,0)) from
  ((HV.o.next (w':=(K.alloc (zM #[J 0,J 0] 177)).drew) (f.alloc f.size _).drew).only 0 (by omega) 2).m λe P h=>⟨h.1,(bZ _).drew.t (h.2.m (by show K.heap.size<=(K.alloc _).heap.size;simp)),(h.2.block K.heap.size (by show K.heap.size<(K.alloc _).heap.size;simp)).t (bL K _)⟩)
 go_in
 go_upto_region 1 with fail
 rw [<- ac.o];have ak:=I Q6;clear R ac r0 r2 r3 Q6 f
 go_cut [5] (λs7 wc=>∃ F,s7=zJ F/\K.heap.size<=F/\Hid (zB K wc)/\wc.heap[F]?=A (zM #[J (aP 2 (v 0)).1,J (aP 2 (v 0)).2] 177 (0,0)))
 case first=>
  go_region_with (first|(go_at_call 243;refine Jt.o.m ?_;rintro e P ⟨rfl,Z⟩;have S:=I Z;clear Z)|(go_at_call 243;refine B1.o.m ?_;rintro e P ⟨rfl,Z,hF⟩;obtain ⟨⟨y0,y1⟩,⟨z0,z1⟩,lX⟩:=cq hF;have S:=I Z;have B2:=I hF;clear Z hF))
  all_goals (go_wp2_with fail;go_meet;first|exact ⟨_,rfl,S.o.size,S.o.alloc S.o.size _,bL _ _⟩|exact ⟨_,rfl,aG _,(S.o.setCell (p:=yh K.heap.size) (aG _) _).setCell (p:=X K.heap.size 1) (aG _) _,yC B2.o _ _⟩)
 case rest=>
 obtain ⟨F,rfl,an,o,hF⟩:=hcut;obtain ⟨R0,R2,R3⟩:=HR.o;have al:=o.o.size;obtain ⟨⟨x0,x1⟩,_,lX⟩:=cq hF;obtain ⟨GU,_,_⟩:=Aq ((o.o.block _ af).t R0);obtain ⟨⟨_,_,_,j2⟩,_,_⟩:=aX ((o.o.block _ ag).t R2);obtain ⟨⟨M,N⟩,⟨f0,f1⟩,Q5⟩:=cq ((o.o.block _ QV).t R3);have JU:=I ((o.o.block _ QV).t R3);have d:=I (aa.o.t (o.o.m aa.o.size));have k:=I (show ∀ W,zB wc W->W.cell? (yh w.heap.size)=A (bH r)/\W.cell? (X (w.heap.size+1) 3)=A (zS g 3 c)/\(W.cell? (yh (w.heap.size+1+1))=A (J 0)/\W.cell? (X (w.heap.size+1+1) 1)=A (J 0))/\(W.frozen? (yh (w.heap.size+1+1))=false/\W.frozen? (X (w.heap.size+1+1) 1)=false)/\(W.cell? (yh F)=A (J (aP 2 (v 0)).1)/\W.cell? (X F 1)=A (J (aP 2 (v 0)).2)) /\
   (W.cell? (X g 4)=A (J ((q 1).k:Int))/\W.cell? (X g 5)=A (Q ((q 1).nm))/\W.cell? (X g 6)=A (J ((q 1).n:Int))/\W.cell? (X g 7)=A (B (Q0 1) (L 1) (C 1))) /\
   (W.cell? (X g 8)=A (J ((q 2).k:Int))/\W.cell? (X g 9)=A (Q ((q 2).nm))/\W.cell? (X g 10)=A (J ((q 2).n:Int))/\W.cell? (X g 11)=A (B (Q0 2) (L 2) (C 2))) from λW E=>by
  have i:zB w W:=d.o.t (E.m d.o.size);obtain ⟨a0,a1,_⟩:=cq ((E.block _ Q5).t JU.o);refine ⟨(E.cell (p:=yh w.heap.size) (by show w.heap.size<_;omega)).t GU,(E.cell (p:=X (w.heap.size+1) 3) (by show w.heap.size+1<_;omega)).t j2,a0,a1,⟨(E.cell (p:=yh F) lX).t x0,(E.cell (p:=X F 1) lX).t x1⟩,⟨(i.cell (p:=X g 4) s).t d0,(i.cell (p:=X g 5) s).t d1,(i.cell (p:=X g 6) s).t d2,(i.cell (p:=X g 7) s).t d3⟩,(i.cell (p:=X g 8) s).t u0,(i.cell (p:=X g 9) s).t u1,(i.cell (p:=X g 10) s).t u2,(i.cell (p:=X g 11) s).t u3⟩)
 have Q4:=I (λj (hj:j<3) W (E:zB wc W)=>HV.o j hj W (d.o.t (E.m d.o.size)));have HT:=I (λbb W=>lK bb W);clear hF R0 R2 R3 i0 i2 C0 C1 C2 C3 c0 c1 c2 c3 d0 d1 d2 d3 u0 u1 u2 u3 Jt B1 GU j2 M N f0 f1;generalize QT:aP 2 (v 0)=vf at *;obtain ⟨H,u⟩:=vf;have k0:=I QT;clear QT;go_wp2_with (go_at_call 241;refine mo (HT.o true _) ?_;rintro e w2 ⟨rfl,k1⟩);have t:=I k1;obtain ⟨p0,z,⟨M,N⟩,⟨f0,f1⟩,⟨y,w1⟩,⟨e0,e1,W4,Y⟩,⟨o0,o1,o2,V⟩⟩:=k.o _ k1;have au:=k1.size;clear k1;rw [show (bD true).1=2 from rfl,show (bD true).2=1 from rfl];by_cases T:(H,u)=(2,1)
 .obtain ⟨rfl,rfl⟩:=Prod.mk.inj T;have G:=I (show fQ (v 0) (v 1) (v 2)=v 1 by unfold fQ;rw [k0.o,aB rfl]);have b:=t;clear T;apply I;go_wp2_with fail
  go_region_with (first|(go_at_call 220;refine (Q4.o 1 (by omega) _ (b.o.drew)).m ?_;rintro e w5 ⟨rfl,l⟩;obtain ⟨_,_,⟨m0,m1⟩,⟨n0,n1⟩,_⟩:=k.o _ (b.o.drew.t (l.m b.o.size));have B3:=I (b.o.drew.t (l.m b.o.size));clear l))
  all_goals go_wp2
  all_goals refine aK (v:=zd #[J (v 1).1,J (v 1).2]) (by simp [results,results246,go_sem,m0,m1]) rfl ?_
  all_goals (rw [G.o];exact ⟨rfl,dJ (d.o.t (B3.o.m d.o.size)) _ (by omega) _ _⟩)
 .by_cases O:H=2
  .subst O;have D:u≠1:=λh=>T (by rw [h]);have q2:(u == 1)=false:=bo.2 D;have q1:((2:Int) == 2)=true:=rfl;clear T;apply I;go_wp2_with (go_at_call 241;refine mo (HT.o false _) ?_;rintro e w3 ⟨rfl,m⟩);have b:=I (t.o.t (m.m t.o.size));clear p0 z M N f0 f1 y w1 e0 e1 W4 Y o0 o1 o2 V;obtain ⟨p0,z,⟨M,N⟩,⟨f0,f1⟩,⟨y,w1⟩,⟨e0,e1,W4,Y⟩,⟨o0,o1,o2,V⟩⟩:=k.o _ b.o;have ad:=m.size;clear m;rw [show (bD false).1=2 from rfl,show (bD false).2=0 from rfl];by_cases h0:u=0
   .subst h0;have G:=I (show fQ (v 0) (v 1) (v 2)=v 2 by unfold fQ;rw [k0.o,aA (by decide),aB rfl]);clear q2 D;apply I;go_wp2_with fail
    go_region_with (first|(go_at_call 220;refine (Q4.o 2 (by omega) _ (b.o.drew)).m ?_;rintro e w5 ⟨rfl,l⟩;obtain ⟨_,_,⟨m0,m1⟩,⟨n0,n1⟩,_⟩:=k.o _ (b.o.drew.t (l.m b.o.size));have B3:=I (b.o.drew.t (l.m b.o.size));clear l))
    all_goals go_wp2
    all_goals refine aK (v:=zd #[J (v 2).1,J (v 2).2]) (by simp [results,results246,go_sem,m0,m1]) rfl ?_
    all_goals (rw [G.o];exact ⟨rfl,dJ (d.o.t (B3.o.m d.o.size)) _ (by omega) _ _⟩)
   .have q3:(u == 0)=false:=bo.2 h0;have G:=I (show fQ (v 0) (v 1) (v 2)=(2,u) by unfold fQ;rw [k0.o,aA (λh=>D (Prod.mk.inj h).2),aA (λh=>h0 (Prod.mk.inj h).2)]);clear h0 D;apply I;go_wp2;refine aK (v:=zd #[J 2,J u]) (by simp [results,results246,go_sem,M,N]) rfl ?_;rw [G.o];exact ⟨rfl,dJ (d.o.t (b.o.m d.o.size)) _ (by omega) _ _⟩
  .have q1:(H == 2)=false:=bo.2 O;have G:=I (show fQ (v 0) (v 1) (v 2)=(H,u) by unfold fQ;rw [k0.o,aA (λh=>O (Prod.mk.inj h).1),aA (λh=>O (Prod.mk.inj h).1)]);clear T O;apply I;go_wp2_with (go_at_call 241;refine mo (HT.o false _) ?_;rintro e w3 ⟨rfl,m⟩);have b:=I (t.o.t (m.m t.o.size));clear p0 z M N f0 f1 y w1 e0 e1 W4 Y o0 o1 o2 V;obtain ⟨p0,z,⟨M,N⟩,⟨f0,f1⟩,⟨y,w1⟩,⟨e0,e1,W4,Y⟩,⟨o0,o1,o2,V⟩⟩:=k.o _ b.o;have ad:=m.size;clear m;rw [show (bD false).1=2 from rfl,show (bD false).2=0 from rfl];apply I;go_wp2;refine aK (v:=zd #[J H,J u]) (by simp [results,results246,go_sem,M,N]) rfl ?_;rw [G.o];exact ⟨rfl,dJ (d.o.t (b.o.m d.o.size)) _ (by omega) _ _⟩
section
section
section
variable {len:Nat} {K:List (By × Nat)} {b bl cp:Nat}
def wN (n i:Nat) (e:Int) (w:zW) (h:cX w b bl cp (aL len K) i 6 e) :
  zC prog 128 #[zJ b,J n] w λr C=>r=zP (zp #[zd #[J 0,Q [],J 0,zN],zF false])/\cX C b bl cp (aL len K) i 6 4/\Kp b w C:=by
 have H:=I (λw1 (g:cX w1 b bl cp (aL len K) i 6 e)=>FJ w1 b bl cp _ i e g);have D:=h.size;have s:=I h;have l:=h.blk;clear h;go_in;go_wp2_with (go_at_call 158;refine mo (H.o _ (s.o.next (bZ _))) ?_;rintro e C ⟨rfl,k,a⟩);obtain ⟨⟨m,o,p,u⟩,⟨f0,f1,f2,f3⟩,d⟩:=aX (a.blk (q:=w.heap.size) (bL w _) (by omega));have t:=I a;have f:=I k;clear k a;apply I;go_wp2;refine aK (v:=zp #[zd #[J 0,Q [],J 0,zN],zF false]) (by simp [results,results128,go_sem,m,o,p,u,d]) rfl ?_;have j:Kp b w C:=(Kp.of (bZ _) D).t t.o;have c:=j.dF w.heap.size (J 0) (Q []) (J 0) (zN) (aG _) D;exact ⟨rfl,(f.o.ep w.heap.size _ _ _ _ D).next (bZ _),c.next (bZ _) (by have:=c.size;omega)⟩
def wP (AU:fV K) (n i d:Nat) (e:Int) (w:zW) (av:1<=n) (hd:d<6) (hi:i<G K) (hA:zw n (aw K i)) (hS:St len K w b bl cp i d e) (z E:Nat) (hz:((aL len K)[i]'hS.rd.lt).1=(z:Int)) (aa:(z=13/\E=14)\/(z≠13/\E=z))
  (Q0:∀ L p,bh K n (i+1) L p->bh K n i L (.un E p))
  (hL:∀ w2,St len K w2 b bl cp (i+1) (d+1) e->zC prog 93 #[zJ b,J n] w2 (dQ len K [aH (lv n) (d+1)] (λL p=>bh K n (i+1) L p) (2*n) b bl cp (i+1) (d+1) e w2)) :
  zC prog 128 #[zJ b,J n] w (dQ len K [aH (lv n) d] (λL p=>bh K n i L p) (2*n) b bl cp i d e w):=by
 have ay:=hS.rd.lt;have ad:=I (λP (al:cX P b bl cp (aL len K) i (d:Int) e)=>DG P b bl cp _ i d e al hd (by rw [kP];omega));have HL:=I hL;have HS:=I hS;have er:=I Q0;have O:=hS.rd.size;have ax:=hS.rd.blk;have D6:=I (λ(L zz:Nat) (h:kH len K [aH (lv n) (d+1)] (i+1) L zz)=>(show kH len K [aH (lv n) d] i L (zz+1+1) from kH.sym (by omega) (by rw [vZ n _ d hA hd];exact kH.tok (AU.tk hi) rfl h)));have k3:=I (λ(q:Int) (p zz:Nat) (h:ic len K [aH (lv n) (d+1)] (i+1) q p zz)=>(show ic len K [aH (lv n) d] i q p (zz+1+1) from ic.sym (by omega) (by rw [vZ n _ d hA hd];exact ic.tok (AU.tk hi) rfl h)));have HZ:=I hz;clear hL Q0 hA AU hz;go_in;go_wp2_with (go_at_call 158;refine (ad.o _ (HS.o.rd.next (bZ _))).m ?_;rw [HZ.o];rintro ac P ⟨rfl,hr,k0⟩;apply Hid.o);have k1:=k0.blk (q:=w.heap.size) (bL w _) (by omega);have Q6:Kp b w P:=(Kp.of (bZ _) O).t k0;have oU:=I (show St len K P b bl cp (i+1) (d+1) e from HS.o.down (d':=d+1) hr Q6.bS);have QV:=(cz.1 k1).1;have ag:=I k1;have af:=I Q6;generalize ((aL len K)[i]).2.2.2=tn at *;generalize ((aL len K)[i]).2.2.1=tx at *;generalize ((aL len K)[i]).2.1=tp at *;clear hr k0 k1 Q6;apply I;have HC:=I (show ∀ D,Kp b (P.alloc (zM #[J E,J tp,Q tx,J tn] 134)) D->D.heap[w.heap.size]?=A (zM #[J 0,Q [],J 0,zN] 87 (0,0))/\D.heap[P.heap.size]?=A (zM #[J E,J tp,Q tx,J tn] 134 (0,0))/\Kp b w D from λD h=>by
  refine ⟨h.blk ((cj _ _ _ QV).t ag.o) (by omega),h.blk (bL P _) (by omega),?_⟩;exact (af.o.next (bZ _) (by omega)).t h)
 have ar:(E=14/\((z:Int) == 13)=true)\/(E=z/\((z:Int) == 13)=false):=by
  rcases aa with ⟨h1,h2⟩|⟨h1,h2⟩
  .exact zR ⟨h2,by simp [h1]⟩
  .exact zZ ⟨h2,bo.2 (by omega)⟩
 clear aa;rcases ar with ⟨rfl,ao⟩|⟨rfl,ao⟩
 .go_wp2_with (go_at_call 93;refine (HL.o _ (oU.o.next (bZ _))).m ?_;rintro ac D (⟨S,Z,p,a,l,c,rfl,hp,hD,u,am,o,Q5,r⟩|⟨S,Z,d3,q,au,n3,s3,a,l,c,rfl,x,C,o,Q5,F⟩)<;>apply Hid.o)
  .obtain ⟨f,s,k⟩:=HC.o D o;obtain ⟨⟨V,Y,g,j⟩,⟨f0,f1,f2,f3⟩,m⟩:=aX f;obtain ⟨⟨g0,_,_,_⟩,_,oO⟩:=aX s;obtain ⟨_,c1,_,H⟩:=u.rd.cell;have hs:=H 1;have w3:((d+1:Nat):Int)=(d:Int)+1:=(by omega);rw [w3] at c1;have w1:b<D.heap.size:=u.rd.size;have W:=I u;have R:=I k;have A3:=I hp;have A4:=I (er.o _ _ hD);have T:=I (D6.o _ _ r);have hq:w.heap.size≠b:=(by omega);have Q4:b≠w.heap.size:=(by omega);clear u k hp hD r H f s o w3;apply I;go_wp2;refine aK (v:=zp #[zd #[J 14,Q [],J 0,B (A (yh (D.heap.size+1))) 1 1],zF true]) (by simp [results,results128,go_sem,V,Y,g,j,m]) rfl ?_;obtain ⟨Gn,y⟩:=W.o.Ay d;have N:=(R.o.t y).dF w.heap.size (J 14) (Q []) (J 0) (B (A (yh (D.heap.size+1))) 1 1) (aG _) O;have k2:∀ v0 v1 v2 v3,(((((D.setCell (X b 1) (J d)).setCell (yh w.heap.size) v0).setCell (X w.heap.size 1) v1).setCell (X w.heap.size 2) v2).setCell (X w.heap.size 3) v3).heap.size=D.heap.size:=λv0 v1 v2 v3=>(by simp);have ak:=QV;refine zR ⟨S,Z+1+1,.un 14 p,A (yh (D.heap.size+1)),1,1,rfl,dR.un 14 ((A3.o.next λQT M=>?_).wide λQT M=>?_) ?_ (t:=87) (fr:=(0,0)) ?_ 1,A4.o,((Gn.ep w.heap.size _ _ _ _ O).next (aY _ _ _)),by omega,N.next (aY _ _ _) (by have:=N.size;omega),by omega,T.o⟩
   .have U:=M.1;simp at U;rw [tC _ _ _ (by rw [k2];exact M.2),lx _ _ _ _ _ _ (by omega),cY _ _ _ _ (by show QT≠b;omega)]
   .have U:=M.1;have an:=M.2;simp at U ⊢;omega
   .simp;omega
   .have:=bL ((((((D.setCell (X b 1) (J d)).setCell (yh w.heap.size) (J 14)).setCell (X w.heap.size 1) (Q [])).setCell (X w.heap.size 2) (J 0)).setCell (X w.heap.size 3) (B (A (yh (D.heap.size+1))) 1 1)).alloc (zM #[J p.k,Q p.nm,J p.n,B a l c] 87)) (zM #[J p.k,Q p.nm,J p.n,B a l c] 87);simpa using this
  .obtain ⟨f,s,k⟩:=HC.o D o;obtain ⟨⟨V,Y,g,j⟩,⟨f0,f1,f2,f3⟩,m⟩:=aX f;obtain ⟨⟨g0,_,_,_⟩,_,oO⟩:=aX s;obtain ⟨_,c1,_,H⟩:=x.cell;have hs:=H 1;have w1:b<D.heap.size:=x.size;have W:=I x;have R:=I k;have T:=I (k3.o _ _ _ F);have A6:=I C;have hq:w.heap.size≠b:=(by omega);have Q4:b≠w.heap.size:=(by omega);clear x k F H f s o C;apply I;go_wp2;refine aK (v:=zp #[zd #[J 14,Q [],J 0,B (A (yh (D.heap.size+1))) 1 1],zF false]) (by simp [results,results128,go_sem,V,Y,g,j,m]) rfl ?_;obtain ⟨A2,y⟩:=W.o.Ay (wrap64 (d3 - 1));have N:=(R.o.t y).dF w.heap.size (J 14) (Q []) (J 0) (B (A (yh (D.heap.size+1))) 1 1) (aG _) O;exact zZ ⟨S,Z+1+1,wrap64 (d3 - 1),q,14,0,[],A (yh (D.heap.size+1)),1,1,rfl,((A2.ep w.heap.size _ _ _ _ O).next (aY _ _ _)),A6.o,N.next (aY _ _ _) (by have:=N.size;omega),by omega,T.o⟩
 .go_wp2_with (go_at_call 93;refine (HL.o _ (oU.o.next (bZ _))).m ?_;rintro ac D (⟨S,Z,p,a,l,c,rfl,hp,hD,u,am,o,Q5,r⟩|⟨S,Z,d3,q,au,n3,s3,a,l,c,rfl,x,C,o,Q5,F⟩)<;>apply Hid.o)
  .obtain ⟨f,s,k⟩:=HC.o D o;obtain ⟨⟨V,Y,g,j⟩,⟨f0,f1,f2,f3⟩,m⟩:=aX f;obtain ⟨⟨g0,_,_,_⟩,_,oO⟩:=aX s;obtain ⟨_,c1,_,H⟩:=u.rd.cell;have hs:=H 1;have w3:((d+1:Nat):Int)=(d:Int)+1:=(by omega);rw [w3] at c1;have w1:b<D.heap.size:=u.rd.size;have W:=I u;have R:=I k;have A3:=I hp;have A4:=I (er.o _ _ hD);have T:=I (D6.o _ _ r);have hq:w.heap.size≠b:=(by omega);have Q4:b≠w.heap.size:=(by omega);clear u k hp hD r H f s o w3;apply I;go_wp2;refine aK (v:=zp #[zd #[J E,Q [],J 0,B (A (yh (D.heap.size+1))) 1 1],zF true]) (by simp [results,results128,go_sem,V,Y,g,j,m]) rfl ?_;obtain ⟨Gn,y⟩:=W.o.Ay d;have N:=(R.o.t y).dF w.heap.size (J E) (Q []) (J 0) (B (A (yh (D.heap.size+1))) 1 1) (aG _) O;have k2:∀ v0 v1 v2 v3,(((((D.setCell (X b 1) (J d)).setCell (yh w.heap.size) v0).setCell (X w.heap.size 1) v1).setCell (X w.heap.size 2) v2).setCell (X w.heap.size 3) v3).heap.size=D.heap.size:=λv0 v1 v2 v3=>(by simp);have ak:=QV;refine zR ⟨S,Z+1+1,.un E p,A (yh (D.heap.size+1)),1,1,rfl,dR.un E ((A3.o.next λQT M=>?_).wide λQT M=>?_) ?_ (t:=87) (fr:=(0,0)) ?_ 1,A4.o,((Gn.ep w.heap.size _ _ _ _ O).next (aY _ _ _)),by omega,N.next (aY _ _ _) (by have:=N.size;omega),by omega,T.o⟩
   .have U:=M.1;simp at U;rw [tC _ _ _ (by rw [k2];exact M.2),lx _ _ _ _ _ _ (by omega),cY _ _ _ _ (by show QT≠b;omega)]
   .have U:=M.1;have an:=M.2;simp at U ⊢;omega
   .simp;omega
   .have:=bL ((((((D.setCell (X b 1) (J d)).setCell (yh w.heap.size) (J E)).setCell (X w.heap.size 1) (Q [])).setCell (X w.heap.size 2) (J 0)).setCell (X w.heap.size 3) (B (A (yh (D.heap.size+1))) 1 1)).alloc (zM #[J p.k,Q p.nm,J p.n,B a l c] 87)) (zM #[J p.k,Q p.nm,J p.n,B a l c] 87);simpa using this
  .obtain ⟨f,s,k⟩:=HC.o D o;obtain ⟨⟨V,Y,g,j⟩,⟨f0,f1,f2,f3⟩,m⟩:=aX f;obtain ⟨⟨g0,_,_,_⟩,_,oO⟩:=aX s;obtain ⟨_,c1,_,H⟩:=x.cell;have hs:=H 1;have w1:b<D.heap.size:=x.size;have W:=I x;have R:=I k;have T:=I (k3.o _ _ _ F);have A6:=I C;have hq:w.heap.size≠b:=(by omega);have Q4:b≠w.heap.size:=(by omega);clear x k F H f s o C;apply I;go_wp2;refine aK (v:=zp #[zd #[J E,Q [],J 0,B (A (yh (D.heap.size+1))) 1 1],zF false]) (by simp [results,results128,go_sem,V,Y,g,j,m]) rfl ?_;obtain ⟨A2,y⟩:=W.o.Ay (wrap64 (d3 - 1));have N:=(R.o.t y).dF w.heap.size (J E) (Q []) (J 0) (B (A (yh (D.heap.size+1))) 1 1) (aG _) O;exact zZ ⟨S,Z+1+1,wrap64 (d3 - 1),q,(E:Int),0,[],A (yh (D.heap.size+1)),1,1,rfl,((A2.ep w.heap.size _ _ _ _ O).next (aY _ _ _)),A6.o,N.next (aY _ _ _) (by have:=N.size;omega),by omega,T.o⟩
def Ez (a:fV K) (F:Nat) (z:zv len K b bl cp F) (n i d:Nat) (e:Int) (w:zW) (Q4:d<=6) (Q0:i<G K) (c:zw n (aw K i)) (hF:10*(G K - i)+(7 - n)<F+1) (m:St len K w b bl cp i d e) :
  zC prog 128 #[zJ b,J n] w (dQ len K [aH (lv n) d] (λf p=>bh K n i f p) (2*n) b bl cp i d e w):=by
 have o:1<=n/\n<=6:=by rcases c with ⟨rfl,_⟩|⟨rfl,_⟩<;>omega
 by_cases y:d=6
 .subst y;refine (wN n i e w m.rd).m ?_;rintro r D ⟨rfl,x,v⟩;refine zZ ⟨i,2,6,4,0,0,[],none,0,0,rfl,x,by decide,v,by omega,?_⟩;refine ic.sym (by omega) ?_;rw [Eu n _ c];exact ic.deep
 .have g:d<6:=(by omega);obtain ⟨k,q,h,u,_⟩:=a.cls m.rd.lt;have l:=LD n _ k c q;refine wP a n i d e w o.1 g Q0 c m k (if n=6 then 14 else 6) h ?_ ?_ ?_
  .rcases l with ⟨rfl,rfl⟩|⟨rfl,rfl⟩
   .right;decide
   .left;decide
  .intro f p t;rcases c with ⟨rfl,s⟩|⟨rfl,s⟩
   .exact bh.jV i f p s t
   .exact bh.neg i f p s t
  .intro C j;exact z n (i+1) (d+1) e C o.1 o.2 (by omega) (by omega) j
end
end
end
section
section
def wQ {w:zW} {q:Nat} {v0 v1 v2:zV} {t:TypeId} (h:w.heap[q]?=A (zM #[v0,v1,v2] t (0,0))) :
  (w.cell? (yh q)=A v0/\w.cell? (X q 1)=A v1/\w.cell? (X q 2)=A v2)/\q<w.heap.size:=
 ⟨⟨(bq w q 0 _ _ _ h).t rfl,(bq w q 1 _ _ _ h).t rfl,(bq w q 2 _ _ _ h).t rfl⟩,(cz.1 h).1⟩
def Jd (b:Nat) (a:By) (p:Pt) (w:zW) (e:Ending) (w':zW):Prop:=e=zP (zp #[])/\Bu b (a++ai p) w'/\qs b w w'
structure WS (p:Pt) (a:Option zD) (c b:Nat) (acc:By) (w:zW) (t:By) (wr:zW):Prop where
 bu:Bu b (acc++t) wr
 ok:qs b w wr
 Mo:wr.heap[w.heap.size]?=A (zM #[J p.k,Q p.nm,J p.n,B a (G p.kids) c] 87 (0,0))
 spl:wr.heap[w.heap.size+1]?=A (zM #[Q (iP p.k),Q (lL p.k),Q (jO p.k)] 212 (0,0))
 lt:b<w.heap.size
section
variable {p:Pt} {a:Option zD} {c b:Nat} {acc:By} {w wr w1:zW} {t s:By}
def WS.call (h:WS p a c b acc w t wr) (d:Bu b (acc++t++s) w1) (hO:qs b wr w1):WS p a c b acc w (t++s) w1:=by
 have e:=h.lt;exact ⟨by rw [<- kI];exact d,h.ok.t hO,hO.blk h.Mo (by omega) (by decide),hO.blk h.spl (by omega) (by decide),h.lt⟩
def WS.next (h:WS p a c b acc w t wr) (g:zB wr w1):WS p a c b acc w t w1:=
 ⟨h.bu.next g,h.ok.next g (by have:=h.bu.2;omega),(g.block _ (cz.1 h.Mo).1).t h.Mo,(g.block _ (cz.1 h.spl).1).t h.spl,h.lt⟩
end
def L5 (p:Pt) (a:Option zD) (c b:Nat) (F:By) (w:zW) (Q0:Nat->Option zD) (L C:Nat->Nat) (V:Env w) (O:11<=b) (We:p.k<20) (D:p.n<=gP) (m:Bu b F w) (i:G F+(ai p).length<=1000000)
  (Q6:∀ j (h:j<G p.kids),∃ g,a=A (yh g)/\g<b/\w.cell? (X g (j*4))=A (J ((p.kids[j]).k:Int))/\w.cell? (X g (j*4+1))=A (Q ((p.kids[j]).nm))/\w.cell? (X g (j*4+2))=A (J ((p.kids[j]).n:Int))/\w.cell? (X g (j*4+3))=A (B (Q0 j) (L j) (C j)))
  (r:∀ j (h:j<G p.kids) FV w',Below b w w'->Bu b FV w'->G FV+(ai p.kids[j]).length<=1000000->zC prog 95 #[zd #[J ((p.kids[j]).k:Int),Q ((p.kids[j]).nm),J ((p.kids[j]).n:Int),B (Q0 j) (L j) (C j)],zJ b] w' (Jd b FV p.kids[j] w')) :
  zC prog 95 #[zd #[J p.k,Q p.nm,J p.n,B a (G p.kids) c],zJ b] w (Jd b F p w):=by
 have Tn:G p.kids<=3:=(by cases p<;>simp [Pt.kids]);have HC:=I Q6;have SK:=I r;have HB:=I m;have HE:=I V;obtain ⟨y,s1,s2⟩:=V.adE p.k We;have ac:=m.2;have ay:=gI w _ y;have ao:(0:Int)<=(p.k:Int):=(by omega);have a1:(p.k:Int)<20:=(by omega);have R:=I i;have Z:=I (λFV s' w' (h:Bu b FV w') hl=>ix b FV s' w' h hl);clear Q6 r m V i;go_in;have k3:=BM p 0;have HW:jN p 0=L4 p:=by unfold jN;simp [jn]
 rw [HW] at k3;have aa:(L4 p).length=(iP p.k).length+G p.nm+(gu p.k p.n).length:=by unfold L4;simp only [b6]
 have Q5:=I (show (G F)+(iP p.k).length<=1000000 by have:=R.o;omega);have af:=I (show (F++iP p.k).length+G p.nm<=1000000 by have:=R.o;rw [b6];omega);have ag:=I (show (F++(iP p.k++p.nm)).length+(gu p.k p.n).length<=1000000 by have:=R.o;rw [b6,b6];omega);clear k3 HW aa;have E:=I (show WS p a c b F w [] ((w.alloc (zM #[J p.k,Q p.nm,J p.n,B a (G p.kids) c] 87)).alloc (zM #[Q (iP p.k),Q (lL p.k),Q (jO p.k)] 212)) from
  ⟨by rw [iq];exact HB.o.next (aY _ _ _),(qs.refl b w).next (aY _ _ _) (by omega),(cj _ _ _ (by simp)).t (bL _ _),by have:=bL (w.alloc (zM #[J p.k,Q p.nm,J p.n,B a (G p.kids) c] 87)) (zM #[Q (iP p.k),Q (lL p.k),Q (jO p.k)] 212);simpa using this,ac⟩)
 go_wp2_with (go_at_call 131;refine mo (Z.o F (iP p.k) _ (by have:=E.o.bu;rw [iq] at this;exact this) Q5.o) ?_;rintro e w1 ⟨rfl,SL,QT⟩);have l:=I (E.o.call (s:=iP p.k) (by rw [iq];exact SL) QT);clear SL QT y s1 s2;obtain ⟨⟨T,U,W,Y⟩,_,am⟩:=aX l.o.Mo;apply I;go_wp2_with (go_at_call 131;refine mo (Z.o (F++iP p.k) p.nm _ l.o.bu af.o) ?_;rintro e w2 ⟨rfl,Q4,QV⟩);have d:=I (l.o.call (s:=p.nm) Q4 QV);rw [ko] at d;clear Q4 QV T U W Y am;obtain ⟨⟨T,U,W,Y⟩,_,al⟩:=aX d.o.Mo;apply I;by_cases o:p.k=1
 focus have ad:((p.k:Int) == 1)=true:=(by simp [o]);have w5:=I (show gu p.k p.n=Lib.decDigits p.n by unfold gu;rw [aB o]);have ak:=I (λw' (h:Env w')=>U7 p.n w' h D);have s0:=I (show Env w2 from HE.o.below d.o.ok.bS O);clear o;go_wp2_with (go_at_call 132;refine (ak.o _ s0.o).m ?_;rw [<- w5.o];rintro e w3 ⟨rfl,H⟩;apply Hid.o);have k0:=I (d.o.next H);clear H T U W Y al;apply I;go_wp2_with (go_at_call 131;refine mo (Z.o (F++(iP p.k++p.nm)) (gu p.k p.n) _ k0.o.bu ag.o) ?_;rintro e w4 ⟨rfl,k1,k2⟩);have f:=I (show WS p a c b F w (jN p 0) w4 by have:=k0.o.call (s:=gu p.k p.n) k1 k2;unfold jN L4;simpa [jn] using this);clear k1 k2;obtain ⟨⟨T,U,W,Y⟩,_,an⟩:=aX f.o.Mo;apply I;go_wp2_with fail
 rotate_left;focus have ad:((p.k:Int) == 1)=false:=bo.2 (by omega);have f:=I (show WS p a c b F w (jN p 0) w2 by have:=d.o;unfold jN L4 gu;rw [aA o];simpa [jn] using this);clear o;go_wp2_with fail
 all_goals
  go_loopw [30] (λk wr=>∃ j:Nat,j<=G p.kids/\k=J j/\Hid (WS p a c b F w (jN p j) wr)) (λk _=>G p.kids - (intOf k).toNat)
  case atStart=>exact ⟨0,bE _,rfl,f⟩
  case round=>
   obtain ⟨j,hj,rfl,K⟩:=hrel;clear T U W Y;obtain ⟨⟨T,U,W,Y⟩,_,ar⟩:=aX K.o.Mo;obtain ⟨⟨y,s1,s2⟩,au⟩:=wQ K.o.spl;by_cases u:j<G p.kids
   .obtain ⟨g,rfl,v,c0,c1,c2,c3⟩:=HC.o j u;have d0:=(K.o.ok.bS.cell (p:=X g (j*4)) v).t c0;have d1:=(K.o.ok.bS.cell (p:=X g (j*4+1)) v).t c1;have d2:=(K.o.ok.bS.cell (p:=X g (j*4+2)) v).t c2;have d3:=(K.o.ok.bS.cell (p:=X g (j*4+3)) v).t c3;have aJ:j+1<=G p.kids:=u;have BK:=I (SK.o j u);have Ge:=I (BL p j u);have t:=BM p (j+1);rw [BL p j u] at t;simp only [b6] at t;have ax:=K.o.bu.2;clear c0 c1 c2 c3;generalize p.kids[j]=q at *;by_cases x:j=0
    .subst x;have n:=I (show (F++jN p 0).length+(ai q).length<=1000000 by have:=R.o;rw [b6];omega);have S:=I (K.o.next (bZ (zM #[J q.k,Q q.nm,J q.n,B (Q0 0) (L 0) (C 0)] 87)));rw [jC] at d0 d1 d2 d3;clear t;go_wp2_with (go_at_call 95;refine mo (BK.o _ _ S.o.ok.bS S.o.bu n.o) ?_;rintro e z ⟨rfl,N,M⟩);have P:=I (show WS p (A (yh g)) c b F w (jN p (0+1)) z by have:=S.o.call (s:=ai q) N M;rw [Ge.o,aB trivial,iq];exact this);clear N M;apply I;go_wp2;go_roundw
     case rel=>exact ⟨0+1,by omega,by go_num,P⟩
     case measure=>simp [intOf];omega
    .have a0:(0:Int)<(j:Int):=(by omega);rw [aA x] at t;have n:=I (show (F++jN p j).length+(lL p.k).length<=1000000 by have:=R.o;rw [b6];omega);have hk:=I (show (F++(jN p j++lL p.k)).length+(ai q).length<=1000000 by have:=R.o;rw [b6,b6];omega);have S:=I (K.o.next (bZ (zM #[J q.k,Q q.nm,J q.n,B (Q0 j) (L j) (C j)] 87)));clear t;go_wp2_with (go_at_call 131;refine mo (Z.o (F++jN p j) (lL p.k) _ S.o.bu n.o) ?_;rintro e z ⟨rfl,N,M⟩);have P:=I (S.o.call (s:=lL p.k) N M);obtain ⟨⟨x0,x1,x2,x3⟩,_,av⟩:=aX (M.blk (q:=wr.heap.size) (bL wr _) (by omega) (by decide));clear N M;apply I;go_wp2_with (go_at_call 95;refine mo (BK.o _ _ P.o.ok.bS P.o.bu hk.o) ?_;rintro e w6 ⟨rfl,Gd,Jk⟩);have h0:=I (show WS p (A (yh g)) c b F w (jN p (j+1)) w6 by have:=P.o.call (s:=ai q) Gd Jk;rw [Ge.o,aA x];exact this);clear Gd Jk;apply I;go_wp2;go_roundw
     case rel=>exact ⟨j+1,by omega,by go_num,h0⟩
     case measure=>simp [intOf];omega
   .obtain rfl:j=G p.kids:=(by omega);have n:=I (show (F++jN p (G p.kids)).length+(jO p.k).length<=1000000 by have:=R.o;have:=BM p (G p.kids);rw [b6];omega);go_wp2_with (go_at_call 131;refine mo (Z.o (F++jN p (G p.kids)) (jO p.k) _ K.o.bu n.o) ?_;rintro e z ⟨rfl,N,M⟩);have P:=I (K.o.call (s:=jO p.k) N M);clear N M;apply I;go_wp2
    go_end0
    exact ⟨rfl,by have:=P.o.bu;rw [<- Gq] at this;exact this,P.o.ok⟩
def xy {y:zW} {S:Nat->Prop} {p:Pt} {a:Option zD} {l c:Nat} (Q4:dR y S p a l c):∀ (b:Nat) (d:By) (w:zW),(∀ q,S q->q<b)->Below b y w->Env w->11<=b->Good p->Bu b d w->G d+(ai p).length<=1000000 ->
  zC prog 95 #[zd #[J p.k,Q p.nm,J p.n,B a l c],zJ b] w (Jd b d p w):=by
 induction Q4 with
 | leaf p z=>
  intro b d w _ _ r n f s t;have F:G p.kids=0:=by rw [z];rfl
  have:=L5 p none 0 b d w (λ_=>none) (λ_=>0) (λ_=>0) r n f.get.1 f.get.2.1 s t (λj h=>by omega) (λj h=>by omega);rw [F] at this;exact this
 | node p g x H L C m z E _ D=>
  intro b d w e i r n f s t;refine L5 p (A (yh g)) x b d w H L C r n f.get.1 f.get.2.1 s t (λj h=>⟨g,rfl,e g m,?_⟩) (λj h o K k u v=>?_)
  .rw [i.cell (e g m),i.cell (e g m),i.cell (e g m),i.cell (e g m)];exact E j h
  .exact D j h b o K e (i.t k) (r.below k n) n (f.get.2.2 j h) u v
end
end
def Au (w:zW) (o:Obj) (cs:Array zV) (t:TypeId):((w.alloc o).alloc (zM cs t)).heap[w.heap.size+1]?=A (zM cs t (0,0)):=by have:=bL (w.alloc o) (zM cs t);rw [show (w.alloc o).heap.size=w.heap.size+1 by simp] at this;exact this
def fX (w:zW) (cs:Array zV) (t:TypeId) (o:Obj):((w.alloc (zM cs t)).alloc o).heap[w.heap.size]?=A (zM cs t (0,0)):=
 (cj _ _ _ (by simp)).t (bL w _)
def L6 {S:Nat->Prop} (p:Pt) (a:Option zD) (l c:Nat) (w:zW) (m:dR w S p a l c) (i:∀ q,S q->q<w.heap.size) (j:Env w) (o:Good p) (t:(ai p).length<=1000000) :
  zC prog 63 #[zd #[J p.k,Q p.nm,J p.n,B a l c]] w λe C=>e=zP (Q (ai p))/\zB w C:=by
 have s:=j.size;have g:Bu (w.heap.size+1) [] ((w.alloc (zM #[J p.k,Q p.nm,J p.n,B a l c] 87)).alloc (zM #[zK none,zN] 170)):=by
  refine ⟨?_,by simp⟩;have:=Lib.IsBuilderF.of (Lib.fresh_isBuilder 170 5 (w.alloc (zM #[J p.k,Q p.nm,J p.n,B a l c] 87)));show Lib.IsBuilderF 170 5 (w.heap.size+1) (w.heap.size+1) [] _;simpa using this
 have f:zB w (w.alloc (zM #[J p.k,Q p.nm,J p.n,B a l c] 87)):=(aM _ _).alloc (aG _) _;have b:Below (w.heap.size+1) (w.alloc (zM #[J p.k,Q p.nm,J p.n,B a l c] 87)) ((w.alloc (zM #[J p.k,Q p.nm,J p.n,B a l c] 87)).alloc (zM #[zK none,zN] 170)):=(aM _ _).alloc (by simp) _;have u:=I (xy (m.next λq k=>f.block q (i q k)) (w.heap.size+1) [] _ (λq k=>by have:=i q k;omega) b ((j.next f).next (bZ _)) (by omega) o g (by simpa using t));clear m i j o g f b;go_in;go_wp2_with (go_at_call 95;refine mo u.o ?_;rintro e D ⟨rfl,d,h⟩);rw [ko] at d;have n:=I d;have r:=I h;clear d h;apply I;go_wp2_with (go_at_call 96;refine (Builder_String_any_k (w.heap.size+1) (w.heap.size+1) (ai p) _ n.o.1 (by have:=n.o.2;omega)).m ?_;rintro e E ⟨rfl,v,b⟩);go_ret;exact ⟨rfl,((bZ _).alloc (by simp) _).t ((r.o.bS.t b.1).m (by omega))⟩
def uy {S:Nat->Prop} (p:Pt) (a:Option zD) (l c:Nat) (w:zW) (h:dR w S p a l c) (b:∀ q,S q->q<w.heap.size) (j:Env w) (i:Good p) (k:(ai p).length<=1000000) :
  zC prog 44 #[zd #[J p.k,Q p.nm,J p.n,B a l c]] w λe D=>e=zP (Q (ai p))/\zB w D:=by
 have H:=I (λC (g:zB w C)=>L6 p a l c C (h.next λq f=>g.block q (b q f)) (λq f=>bG (b q f) g.size) (j.next g) i k);clear h b j i;go_in;go_wp2_with (go_at_call 63;refine (H.o _ (bZ _)).m ?_;rintro e C ⟨rfl,d⟩);go_ret;exact ⟨rfl,(bZ _).t (d.m (by simp))⟩
def Dq {S:Nat->Prop} (p:Pt) (a:Option zD) (l c:Nat) (w:zW) (k:dR w S p a l c) (i:∀ q,S q->q<w.heap.size) (o:Env w) (r:Good p) (u:(ai p).length<=1000000) :
  zC prog 62 #[zd #[J p.k,Q p.nm,J p.n,B a l c]] w λe L=>zB w L/\((100<(ai p).length/\e=zP (zp #[zd #[J 0,Q [],J 0,zN],J 7]))\/(¬ 100<(ai p).length/\e=zP (zp #[zd #[J p.k,Q p.nm,J p.n,B a l c],J 0]))):=by
 have H:=I (λC (h:zB w C)=>L6 p a l c C (k.next λq j=>h.block q (i q j)) (λq j=>bG (i q j) h.size) (o.next h) r u);clear k i o r;go_in;go_wp2_with (go_at_call 63;refine mo (H.o _ (aY _ _ _)) ?_;rintro e C ⟨rfl,b⟩);have s:=(b.block (w.heap.size+1) (by simp)).t (Au w _ _ _);have f:=(b.block w.heap.size (by simp;omega)).t (fX w _ _ _);obtain ⟨⟨D,E,F,K⟩,⟨f0,f1,f2,f3⟩,t⟩:=aX s;obtain ⟨⟨M,y,z,x⟩,_,m⟩:=aX f;have n:=I (show zB w C from (aY w _ _).t (b.m (by simp;omega)));clear b s f;apply I;by_cases g:100<(ai p).length<;>have d:=I g
 .go_wp2;refine aK (v:=zp #[zd #[J 0,Q [],J 0,zN],J 7]) (by simp [results,results62,go_sem,D,E,F,K]) rfl ?_;exact ⟨(((n.o.setCell (p:=yh (w.heap.size+1)) (by simp) _).setCell (p:=X (w.heap.size+1) 1) (by simp) _).setCell (p:=X (w.heap.size+1) 2) (by simp) _).setCell (p:=X (w.heap.size+1) 3) (by simp) _,zR ⟨d.o,rfl⟩⟩
 .go_wp2;refine aK (v:=zp #[zd #[J p.k,Q p.nm,J p.n,B a l c],J 0]) (by simp [results,results62,go_sem,D,E,F,K]) rfl ?_;exact ⟨(((n.o.setCell (p:=yh (w.heap.size+1)) (by simp) _).setCell (p:=X (w.heap.size+1) 1) (by simp) _).setCell (p:=X (w.heap.size+1) 2) (by simp) _).setCell (p:=X (w.heap.size+1) 3) (by simp) _,zZ ⟨d.o,rfl⟩⟩
def bJ {w:zW} {q:Nat} {v0 v1 v2 v3 v4 v5:zV} {t:TypeId} (h:w.heap[q]?=A (zM #[v0,v1,v2,v3,v4,v5] t (0,0))) :
  (w.cell? (yh q)=A v0/\w.cell? (X q 1)=A v1/\w.cell? (X q 2)=A v2/\w.cell? (X q 3)=A v3/\w.cell? (X q 4)=A v4/\w.cell? (X q 5)=A v5)/\(w.frozen? (yh q)=false/\w.frozen? (X q 1)=false/\w.frozen? (X q 2)=false/\w.frozen? (X q 3)=false/\w.frozen? (X q 4)=false/\w.frozen? (X q 5)=false)/\q<w.heap.size:=
 ⟨⟨(bq w q 0 _ _ _ h).t rfl,(bq w q 1 _ _ _ h).t rfl,(bq w q 2 _ _ _ h).t rfl,(bq w q 3 _ _ _ h).t rfl,(bq w q 4 _ _ _ h).t rfl,(bq w q 5 _ _ _ h).t rfl⟩,⟨bF h 0,bF h 1,bF h 2,bF h 3,bF h 4,bF h 5⟩,(cz.1 h).1⟩
def kU {w w':zW} (h:zB w w') (g:Nat) (a:w.heap.size<=g) (v0 v1 v2 v3 v4 v5:zV):zB w ((((((w'.setCell (yh g) v0).setCell (X g 1) v1).setCell (X g 2) v2).setCell (X g 3) v3).setCell (X g 4) v4).setCell (X g 5) v5):=
 (((((h.setCell (p:=yh g) a _).setCell (p:=X g 1) a _).setCell (p:=X g 2) a _).setCell (p:=X g 3) a _).setCell (p:=X g 4) a _).setCell (p:=X g 5) a _
def xC {w w':zW} (h:zB w w') (g:Nat) (a:w.heap.size<=g) (v2 v3 v4 v5:zV):zB w ((((w'.setCell (X g 2) v2).setCell (X g 3) v3).setCell (X g 4) v4).setCell (X g 5) v5):=
 (((h.setCell (p:=X g 2) a _).setCell (p:=X g 3) a _).setCell (p:=X g 4) a _).setCell (p:=X g 5) a _
def Qa (w':zW) (g q:Nat) (a:q≠g) (v0 v1 v2 v3 v4 v5:zV):((((((w'.setCell (yh g) v0).setCell (X g 1) v1).setCell (X g 2) v2).setCell (X g 3) v3).setCell (X g 4) v4).setCell (X g 5) v5).heap[q]?=w'.heap[q]?:=by
 rw [cY _ _ _ _ a,cY _ _ _ _ a,cY _ _ _ _ a,cY _ _ _ _ a,cY _ _ _ _ a,cY _ _ _ _ a]
def xH (w':zW) (g q:Nat) (C:q≠g) (v2 v3 v4 v5:zV):((((w'.setCell (X g 2) v2).setCell (X g 3) v3).setCell (X g 4) v4).setCell (X g 5) v5).heap[q]?=w'.heap[q]?:=by rw [cY _ _ _ _ C,cY _ _ _ _ C,cY _ _ _ _ C,cY _ _ _ _ C]
def R9 (d:Int) (f:Option zD) (ln cn len:Nat) (K:List (By × Nat)) (w:zW) (e:Ending) (w':zW):Prop:=
 zB w w' /\
 ((∃ (p:Pt) (a:Option zD) (l c b:Nat),e=zP (zp #[zd #[J d,B f ln cn,J p.k,Q p.nm,J p.n,B a l c],J 0,J 0])/\dR w' (λq=>w.heap.size<=q/\q<w'.heap.size) p a l c/\bh K 1 0 (G K) p/\ai p=bV K (G K)/\¬ 100<(bV K (G K)).length/\b<=1000000/\cF len b [aH 82 0] K=A (0,0)) \/
  (∃ b,e=zP (zp #[zd #[J d,zN,J 0,Q [],J 0,zN],J 7,J 0])/\100<(bV K (G K)).length/\b<=1000000/\cF len b [aH 82 0] K=A (0,0)) \/
  (∃ C p b,e=zP (zp #[zd #[J d,zN,J 0,Q [],J 0,zN],J C,J ((p:Nat):Int)])/\C≠0/\b<=1000000/\cF len b [aH 82 0] K=A (C,p)))
def Qb (a er:Int) (p:Nat):Ending:=zP (zp #[zd #[J a,zN,J 0,Q [],J 0,zN],J er,J p])
def UQ (r:Int) (t:Option zD) (ln cn len:Nat) (K:List (By × Nat)) (bl i n m:Nat) (w:zW) (c0:w.cell? (X bl (i*4))=A (J 18)) (R:bl<w.heap.size) (O:n<=m) (L:∀ W,zB w W->zC prog 43 #[B (A (X bl (i*4+4))) (n+1) (m+1)] W (Bo len K W)) :
  zC prog 97 #[zd #[J r,B t ln cn,J 0,Q [],J 0,zN],B (A (X bl (i*4))) (n+2) (m+2)] w (R9 r t ln cn len K w):=by
 have H:=I L;clear L;have Q5:(0:Int)<(n:Int)+2:=(by omega);have Gn:(0:Int)<=(n:Int):=(by omega);have k5:(n:Int)<=(m:Int):=(by omega);go_in;go_wp2_with (go_at_call 43;refine (H.o _ (aY _ _ _)).m ?_;rintro w1 q ⟨d,(⟨p,a,l,c,o,rfl,G,b⟩|⟨o,rfl,b⟩|⟨e,p,o,rfl,j,b⟩)⟩<;>apply Hid.o)
 .obtain ⟨⟨P,S,T,U,V,Y⟩,⟨f0,f1,f2,f3,f4,f5⟩,N⟩:=bJ ((d.block (w.heap.size+1) (by simp)).t (bc w _ _ _));obtain ⟨⟨k2,k1,x,u,z,y⟩,⟨D,E,hq,C,k0,F⟩,h⟩:=bJ ((d.block w.heap.size (by simp;omega)).t (fX w _ _ _));have g:w.heap.size≠w.heap.size+1:=(by omega);have f:w.heap.size+1≠w.heap.size:=(by omega);have s:=I (show zB w q from (aY w _ _).t (d.m (by simp;omega)));have k3:=I G;have k:=I b;clear d G b H;apply I;go_wp2;refine aK (v:=zp #[zd #[J r,B t ln cn,J p.k,Q p.nm,J p.n,B a l c],J 0,J 0]) (by simp [results,results97,go_sem,P,S,T,U,V,Y,N]) rfl ?_;refine ⟨(kU (xC s.o w.heap.size (aG _) _ _ _ _) (w.heap.size+1) (by omega) _ _ _ _ _ _).alloc (by simp;omega) _,zR ⟨p,a,l,c,o,rfl,(k3.o.next λk4 M=>?_).wide λk4 M=>?_,k.o⟩⟩
  .have Z:=M.1;simp at Z;rw [cj _ _ _ (by simp;exact M.2),Qa _ _ _ (by omega),xH _ _ _ (by omega)]
  .have Z:=M.1;have Q0:=M.2;simp at Z ⊢;omega
 .obtain ⟨⟨P,S,T,U,V,Y⟩,⟨f0,f1,f2,f3,f4,f5⟩,N⟩:=bJ ((d.block (w.heap.size+1) (by simp)).t (bc w _ _ _));obtain ⟨⟨k2,k1,x,u,z,y⟩,⟨D,E,hq,C,k0,F⟩,h⟩:=bJ ((d.block w.heap.size (by simp;omega)).t (fX w _ _ _));have g:w.heap.size≠w.heap.size+1:=(by omega);have f:w.heap.size+1≠w.heap.size:=(by omega);have s:=I (show zB w q from (aY w _ _).t (d.m (by simp;omega)));have k:=I b;clear d b H;apply I;go_wp2;refine aK (v:=zp #[zd #[J r,zN,J 0,Q [],J 0,zN],J 7,J 0]) (by simp [results,results97,go_sem,P,S,T,U,V,Y,N]) rfl ?_;exact ⟨(kU s.o (w.heap.size+1) (by omega) _ _ _ _ _ _).alloc (by simp;omega) _,zZ (zR ⟨o,rfl,k.o⟩)⟩
 .have er:(e != 0)=true:=by simp [j]
  obtain ⟨⟨P,S,T,U,V,Y⟩,⟨f0,f1,f2,f3,f4,f5⟩,N⟩:=bJ ((d.block (w.heap.size+1) (by simp)).t (bc w _ _ _));obtain ⟨⟨k2,k1,x,u,z,y⟩,⟨D,E,hq,C,k0,F⟩,h⟩:=bJ ((d.block w.heap.size (by simp;omega)).t (fX w _ _ _));have g:w.heap.size≠w.heap.size+1:=(by omega);have f:w.heap.size+1≠w.heap.size:=(by omega);have s:=I (show zB w q from (aY w _ _).t (d.m (by simp;omega)));have k:=I (And.intro j b);clear d b H j;apply I;go_wp2;refine aK (v:=zp #[zd #[J r,zN,J 0,Q [],J 0,zN],J e,J p]) (by simp [results,results97,go_sem,P,S,T,U,V,Y,N]) rfl ?_;exact ⟨(kU s.o (w.heap.size+1) (by omega) _ _ _ _ _ _).alloc (by simp;omega) _,zZ (zZ ⟨e,p,o,rfl,k.o.1,k.o.2⟩)⟩
def UR (b:Int) (h:Option zD) (ln cn:Nat) (bl i n m a:Nat) (k:Int) (C:k≠18) (w:zW) (c0:w.cell? (X bl (i*4))=A (J k)) (c1:w.cell? (X bl (i*4+1))=A (J a)) (f:bl<w.heap.size) :
  zC prog 97 #[zd #[J b,B h ln cn,J 0,Q [],J 0,zN],B (A (X bl (i*4))) (n+1) (m+1)] w λe D=>e=Qb b 3 a/\zB w D:=by
 have d:(k != 18)=true:=(by simp [C]);have g:(0:Int)<(n:Int)+1:=(by omega);have j:bl≠w.heap.size+1:=(by omega);have c:w.heap.size+1≠bl:=(by omega);clear C;go_in;go_wp2_with fail
 go_region
 all_goals go_wp2
 all_goals refine aK (v:=zp #[zd #[J b,zN,J 0,Q [],J 0,zN],J 3,J a]) (by simp [results,results97,go_sem]) rfl ?_
 all_goals exact ⟨rfl,(aY _ _ _).drew⟩
def yk:∀ args w,(callFunc 239 args).run prog w=.ok (.enter 239 args) w:=oK func239 (by kernel_rfl) rfl
def K9 (a:Option zD) (n c:Nat) (lb:zV) (w:zW) (q:Nat->Pt) (Q0:Nat->Option zD) (L C:Nat->Nat) (f:Nat->Bool) (F:n<=3) (t:ib w a n q Q0 L C)
  (u:∀ j,j<n->∀ W,zB w W->zC prog 239 #[zd #[J ((q j).k:Int),Q ((q j).nm),J ((q j).n:Int),B (Q0 j) (L j) (C j)],lb] W λe H=>e=zP (zF (f j))/\zB w H) :
  zC prog 257 #[B a n c,.func (.func 239) #[] #[lb]] w λe H=>∃ z:Int,e=zP (J z)/\(0<=z↔∃ j,j<n/\f j=true)/\zB w H:=by
 have y:=I t;have x:=I u;have D:=yk;clear t u;go_in;go_wp2_with fail;go_loopg [5,8] n (λgk _ N wr=>∃ j:Nat,j<=n/\n<=j+gk/\N=J j/\Hid (zB w wr)/\Hid (∀ i,i<j->f i=false))
 case atStart=>exact ⟨0,bE _,by omega,rfl,aM _ _,λi M=>by omega⟩
 case round=>
  obtain ⟨j,E,v,rfl,l,s⟩:=hrel;by_cases d:j<n
  .obtain ⟨g,rfl,o,c0,c1,c2,c3⟩:=y.o j d;have d0:=(l.o.cell (p:=X g (j*4)) o).t c0;have d1:=(l.o.cell (p:=X g (j*4+1)) o).t c1;have d2:=(l.o.cell (p:=X g (j*4+2)) o).t c2;have d3:=(l.o.cell (p:=X g (j*4+3)) o).t c3;have k:=I (x.o j d wr l.o);have m:(j:Int)<(n:Int):=(by omega);clear c0 c1 c2 c3;cases r:f j with
   | true=>
    rw [r] at k;go_wp2_with (first|(go_at_fn 239;refine k.o.m ?_;rintro e K ⟨rfl,b⟩)|(go_at_call 239;refine k.o.m ?_;rintro e K ⟨rfl,b⟩));go_ret;exact ⟨_,rfl,⟨λ_=>⟨j,d,r⟩,λ_=>by omega⟩,b⟩
   | false=>
    rw [r] at k;go_wp2_with (first|(go_at_fn 239;refine k.o.m ?_;rintro e K ⟨rfl,b⟩)|(go_at_call 239;refine k.o.m ?_;rintro e K ⟨rfl,b⟩));go_roundg (n - (j+1))
    case measure=>omega
    case rel=>
     refine ⟨j+1,by omega,by omega,by go_num,b,(show Hid _ from λi M=>?_)⟩;by_cases e:i=j
     .subst e;exact r
     .exact s.o i (by omega)
  .have m:¬ (j:Int)<(n:Int):=(by omega);go_wp2;go_ret;refine ⟨_,rfl,⟨λh=>by omega,λ⟨i,M,h⟩=>?_⟩,l.o⟩;rw [s.o i (by omega)] at h;cases h
def Dj (a:Option zD) (n c:Nat) (lb:zV) (w:zW) (q:Nat->Pt) (Q0:Nat->Option zD) (L C:Nat->Nat) (f:Nat->Bool) (b:Bool) (r:n<=3) (l:ib w a n q Q0 L C) (p:b=true↔∃ j,j<n/\f j=true)
  (m:∀ j,j<n->∀ W,zB w W->zC prog 239 #[zd #[J ((q j).k:Int),Q ((q j).nm),J ((q j).n:Int),B (Q0 j) (L j) (C j)],lb] W λe D=>e=zP (zF (f j))/\zB w D) :
  zC prog 238 #[B a n c,.func (.func 239) #[] #[lb]] w λe D=>e=zP (zF b)/\zB w D:=by
 have H:=I (K9 a n c lb w q Q0 L C f r l m);have s:=I p;clear l m p;go_in;go_wp2_with (go_at_call 257;refine mo H.o ?_;rintro e E ⟨z,rfl,o,d⟩);have g:decide (0<=z)=b:=by
  have k:=o.t s.o.symm;cases b with
  | true=>exact decide_eq_true (k.2 rfl)
  | false=>exact decide_eq_false (λh=>by cases k.1 h)
 have t:=I g;have i:=I d;clear o d g;apply I;go_wp2;go_ret;exact ⟨eL (λb=>Ending.returned (zF b)) t.o,i.o⟩
def yp (x:By) (k n:Int) (y:By) (a:Option zD) (l c Q4:Nat) (b:Bool) (w:zW) (h:Q4<w.heap.size) (i:w.cell? (yh Q4)=A (Q x))
  (f:∀ W,zB w W->zC prog 218 #[zd #[J k,Q y,J n,B a l c],Q x] W λe C=>e=zP (zF b)/\zB W C) :
  zC prog 239 #[zd #[J k,Q y,J n,B a l c],zJ Q4] w λe C=>e=zP (zF b)/\zB w C:=by
 have g:=I f;clear f;go_in;go_wp2_with (go_at_call 218;refine (g.o _ (bZ _)).m ?_;rintro e D ⟨rfl,d⟩);go_ret;exact ⟨rfl,(bZ _).t (d.m (by simp))⟩
def Dk (x:By) (p:Pt) (a:Option zD) (c:Nat) (w:zW) (q:Nat->Pt) (Q0:Nat->Option zD) (L C:Nat->Nat) (f:Nat->Bool) (b:Bool) (n:G p.kids<=3) (k:ib w a (G p.kids) q Q0 L C) (d:b=true↔∃ j,j<G p.kids/\f j=true)
  (l:∀ j,j<G p.kids->∀ W,zB w W->zC prog 218 #[zd #[J ((q j).k:Int),Q ((q j).nm),J ((q j).n:Int),B (Q0 j) (L j) (C j)],Q x] W λe K=>e=zP (zF (f j))/\zB W K) :
  zC prog 218 #[zd #[J p.k,Q p.nm,J p.n,B a (G p.kids) c],Q x] w λe K=>e=zP (zF ((p.k == 2&&p.nm == x)||b))/\zB w K:=by
 have u:=I k;have o:=I l;clear k l;have N:=I (Dj a (G p.kids) c (zK (A (yh (w.heap.size+1)))) ((w.alloc (zM #[J p.k,Q p.nm,J p.n,B a (G p.kids) c] 87)).alloc (zM #[Q x] 9)) q Q0 L C f b n (u.o.next (aY _ _ _)) d (λj t W D=>by
  have i:w.heap.size+1<((w.alloc (zM #[J p.k,Q p.nm,J p.n,B a (G p.kids) c] 87)).alloc (zM #[Q x] 9)).heap.size:=(by simp);have v:W.cell? (yh (w.heap.size+1))=A (Q x):=(D.cell (p:=yh (w.heap.size+1)) i).t (Aq (bc w _ _ _)).1;exact (yp x _ _ _ _ _ _ (w.heap.size+1) (f j) W (bG i D.size) v (λm g=>o.o j t m ((aY w _ _).t ((D.m (by simp;omega)).t (g.m (by have:=D.size;simp at this;omega)))))).m λe K h=>⟨h.1,D.t (h.2.m D.size)⟩))
 by_cases E:p.k=2
 .have s:((p.k:Int) == 2)=true:=(by simp [E]);by_cases F:p.nm=x
  .have r:(p.nm == x)=true:=(by simp [F]);have H:=I (show ((p.k == 2&&p.nm == x)||b)=true by simp [E,F]);rw [H.o];clear E F d;go_in;go_wp2;go_ret;exact ⟨rfl,aY w _ _⟩
  .have r:(p.nm == x)=false:=(by simp [F]);have H:=I (show Ending.returned (zF b)=Ending.returned (zF ((p.k == 2&&p.nm == x)||b)) by simp [F]);clear E F d;go_in;go_wp2_with (go_at_call 238;refine N.o.m ?_;rintro e O ⟨rfl,M⟩);go_ret;exact ⟨H.o,(aY w _ _).t (M.m (by simp;omega))⟩
 .have s:((p.k:Int) == 2)=false:=bo.2 (by omega);have H:=I (show Ending.returned (zF b)=Ending.returned (zF ((p.k == 2&&p.nm == x)||b)) by simp [E]);clear E d;go_in;go_wp2_with (go_at_call 238;refine N.o.m ?_;rintro e O ⟨rfl,M⟩);go_ret;exact ⟨H.o,(aY w _ _).t (M.m (by simp;omega))⟩
def Iu (x:By) {s:zW} {S:Nat->Prop} {p:Pt} {a:Option zD} {l c:Nat} (t:dR s S p a l c):∀ w,(∀ q,S q->q<w.heap.size/\w.heap[q]?=s.heap[q]?) ->
  zC prog 218 #[zd #[J p.k,Q p.nm,J p.n,B a l c],Q x] w λe F=>e=zP (zF (aC x p))/\zB w F:=by
 induction t with
 | leaf p o=>
  intro w _;have E:G p.kids=0:=by rw [o];rfl
  have:=Dk x p none 0 w (λ_=>p) (λ_=>none) (λ_=>0) (λ_=>0) (λ_=>false) false (by omega) (λj b=>by omega) ⟨λh=>(by cases h),λ⟨j,b,_⟩=>by omega⟩ (λj b=>by omega);rw [E] at this;rw [Fq,o];exact this
 | node p g n D L C i o v _ u=>
  intro w d;have k:∀ j (h:j<G p.kids),(p.kids[j]?).getD (.atom 1 [] 0)=p.kids[j]:=λj h=>by simp [h]
  rw [Fq];refine Dk x p (A (yh g)) n w (λj=>(p.kids[j]?).getD (.atom 1 [] 0)) D L C (λj=>aC x ((p.kids[j]?).getD (.atom 1 [] 0))) _ (by cases p<;>simp [Pt.kids]) (λj b=>?_) ?_ (λj b W r=>?_)
  .refine ⟨g,rfl,(d g i).1,?_⟩;simp only [k j b];rw [aS (d g i).2,aS (d g i).2,aS (d g i).2,aS (d g i).2];exact v j b
  .rw [List.any_map,rD];constructor
   .rintro ⟨y,z,h⟩;obtain ⟨j,b,rfl⟩:=e9 z;exact ⟨j,b,by simp only [k j b];exact h⟩
   .rintro ⟨j,b,h⟩;simp only [k j b] at h;exact ⟨_,bt b,h⟩
  .simp only [k j b];exact u j b W λm f=>⟨bG (d m f).1 r.size,(r.block m (d m f).1).t (d m f).2⟩
def Sb:∀ (k u:Nat),u<10 ^ (k+1)->(Lib.decDigits u).length<=k+1
 | 0,u,h=>by rw [Lib.decDigits,dif_pos (by omega)];simp
 | k+1,u,h=>by
  rw [Lib.decDigits];split
  .simp
  .have:=Sb k (u / 10) (by rw [Nat.pow_succ] at h;omega);simp;exact this
def Du (d:Nat) (h:d<10):cT (UInt8.ofNat (48+d))=true/\(UInt8.ofNat (48+d)).toNat - 48=d:=by
 rcases (show d=0\/d=1\/d=2\/d=3\/d=4\/d=5\/d=6\/d=7\/d=8\/d=9 by omega) with rfl|rfl|rfl|rfl|rfl|rfl|rfl|rfl|rfl|rfl<;>decide
def UX (n:Nat):kv (Lib.decDigits n)/\cR (Lib.decDigits n)=n/\Lib.decDigits n≠[]:=by
 induction n using Nat.strongRecOn with
 | ind n f=>
  rw [Lib.decDigits];split
  .rename_i h;obtain ⟨b,c⟩:=Du n h;refine ⟨λx a=>?_,?_,by simp⟩
   .rw [iB.1 a];exact b
   .simp only [cR,wC,List.foldl_nil];omega
  .rename_i h;obtain ⟨e,d,g⟩:=f (n / 10) (by omega);obtain ⟨b,c⟩:=Du (n % 10) (by omega);refine ⟨λx a=>?_,?_,by simp⟩
   .rcases cG.1 a with a|a
    .exact e x a
    .rw [iB.1 a];exact b
   .rw [Cr,d,c];omega
def xI (s:By):fV (aI s).1:=λt p a=>⟨⟨x9 _ _ _ t p a,lz _ _ _ t p a⟩,xj _ _ _ t p a⟩
def rV (a:Int) (w:zW):zC prog 48 #[J a] w λr E=>r=zP (zF (a == 1||(a == 2||a == 3)))/\E=w:=by
 by_cases C:a=1
 .subst C;go_in;go_wp2;go_ret;simp
 .have c:(a == 1)=false:=(by simpa using C);by_cases D:a=2
  .subst D;go_in;go_wp2;go_ret;simp
  .have b:(a == 2)=false:=(by simpa using D);go_in;go_wp2;go_ret;simp [c,b]
structure Aside (Z:zW->Prop) (q g:Nat):Prop where
 a:∀ W j u,Z W->Z (W.setCell (X q j) u)
 b:∀ W j u,Z W->Z (W.setCell (X g j) u)
def rT (a:Int):Bool:=a == 1||(a == 2||a == 3)
def ii (e q g:Nat) (Z:zW->Prop) (a er:Int) (C:zW->Prop):Prop:=
 (∀ W j u,C W->C (W.setCell (X q j) u))/\if er≠0/\rT a=true then ∀ W,Z W->zC prog 49 #[zK (A (X e 1))] W λr D=>(∃ x,r=zP (J x))/\D.heap[q]?=W.heap[q]?/\D.heap[g]?=W.heap[g]?/\C D else ∀ W,Z W->C W
def RX (N:Int->Int->By->Option zD->Nat->Nat->Int->Int->zW->Prop) (e q g a:Nat) (b:Obj) (c:Int) (r:Ending) (w2:zW):Prop:=
 ∃ C D M E K F H L Z,r=zP (Ik C D M E K F H L)/\w2.heap[q]?=A bM/\w2.heap[g]?=A bM/\w2.heap[a]?=A b/\Aside Z q g/\Z w2/\ii e q g Z c C (N C D M E K F H L)
def yB (F:Int->Int->By->Option zD->Nat->Nat->Int->Int->zW->Prop) (e:Nat) (w:zW) (r:Ending) (w1:zW):Prop:=
 Below (w.heap.size+1) (w.alloc bM) w1/\∃ a c D C k E n d f b,r=zP (zp #[j7 a c D C k E n d f b,J 0,J 0]) /\
  zC prog 47 #[zJ e,j7 a c D C k E n d f b] ((w1.alloc (jx a c D C k E n d f b)).alloc bM) (RX F e w.heap.size (w1.heap.size+1) w1.heap.size (jx a c D C k E n d f b) a)
def PV (e:Nat) (s:By) (w:zW) (V:Int->Int->By->Option zD->Nat->Nat->Int->Int->zW->Prop)
  (hR:zC prog 46 #[Q s] (w.alloc bM) (yB V e w)) :
  zC prog 20 #[zJ e,Q s] w λr w'=>∃ D E P H U T K O,r=zP (Ik D E P H U T K O)/\V D E P H U T K O w':=by
 have x:=I hR;clear hR;unfold bM at x;go_in;go_wp2_with (go_at_call 46;refine x.o.m ?_;rintro r C ⟨k0,f,z,U,T,bn,nm,nn,y,N,Y,F,hf⟩;unfold j7 at F;subst F;apply Hid.o);have am:w.heap.size<C.heap.size:=(by have:=k0.size;simp at this;omega);have M:=I hf;unfold j7 bM at M;have w2:=I (show zC prog 47 #[zJ e,zd #[J f,B z U T,J bn,Q nm,J nn,B y N Y]] ((C.alloc (zM #[J f,B z U T,J bn,Q nm,J nn,B y N Y] 97 (0,0))).alloc (zM #[J 0,J 0,Q [],zN,J 0,J 0] 39 (0,0))) (RX V e w.heap.size (C.heap.size+1) C.heap.size (jx f z U T bn nm nn y N Y) f) from M.o);clear k0 hf x M;apply I;go_wp2_with (go_at_call 47;refine w2.o.m ?_;rintro r t ⟨D,E,P,H,b,a,K,O,ac,F,h1,R,h3,hA,hZ,hE⟩;unfold Ik at F;subst F;apply Hid.o);obtain ⟨⟨k,l,n,o,p,q⟩,⟨f0,f1,f2,f3,f4,f5⟩,h⟩:=bJ h1;obtain ⟨⟨j0,j1,j2,j3,j4,j5⟩,⟨g0,g1,g2,g3,g4,g5⟩,Q0⟩:=bJ R;obtain ⟨⟨l0,l1,l2,l3,l4,l5⟩,⟨m0,m1,m2,m3,m4,m5⟩,oU⟩:=bJ h3;have S:w.heap.size≠C.heap.size+1:=(by omega);have af:C.heap.size+1≠w.heap.size:=(by omega);have RY:w.heap.size≠C.heap.size:=(by omega);have ad:C.heap.size≠w.heap.size:=(by omega);have c:=I hA;have u:=I hZ;have m:=I hE;have H1:=I h1;have H2:=I R;clear h1 R h3 hA hZ hE w2;apply I;have Q4:=I (show ∀ W:zW,W.heap[C.heap.size+1]?=A bM->((((((W.setCell (yh (C.heap.size+1)) (J D)).setCell (X (C.heap.size+1) 1) (J E)).setCell (X (C.heap.size+1) 2) (Q P)).setCell (X (C.heap.size+1) 3) (B H b a)).setCell (X (C.heap.size+1) 4) (J K)).setCell (X (C.heap.size+1) 5) (J O)).heap[C.heap.size+1]?=A (zM #[J D,J E,Q P,B H b a,J K,J O] 39 (0,0)) from λW L=>(aj (aj (aj (aj (aj (aj L 0 _) 1 _) 2 _) 3 _) 4 _) 5 _).t rfl);have Q5:=I (show ∀ W:zW,W.heap[w.heap.size]?=A bM->((((((W.setCell (yh (C.heap.size+1)) (J D)).setCell (X (C.heap.size+1) 1) (J E)).setCell (X (C.heap.size+1) 2) (Q P)).setCell (X (C.heap.size+1) 3) (B H b a)).setCell (X (C.heap.size+1) 4) (J K)).setCell (X (C.heap.size+1) 5) (J O)).heap[w.heap.size]?=A bM from λW L=>by
  rw [cY _ _ _ _ S,cY _ _ _ _ S,cY _ _ _ _ S,cY _ _ _ _ S,cY _ _ _ _ S,cY _ _ _ _ S];exact L)
 have k3:=c.o.b _ 5 (J O) (c.o.b _ 4 (J K) (c.o.b _ 3 (B H b a) (c.o.b _ 2 (Q P) (c.o.b _ 1 (J E) (c.o.b _ 0 (J D) u.o)))));have tx:=I k3;have cn:=Q4.o t H2.o;have ln:=Q5.o t H1.o;have k4:=I cn;have QV:=I ln;clear k3 cn ln Q4 Q5;have j:=I m.o.1;have k1:(¬ (D≠0/\rT f=true))->Hid (∀ W,ac W->V D E P H b a K O W):=λh0=>by
  have:=m.o.2;rw [aA h0] at this;exact I this
 have Z:=I k1;clear k1;by_cases er:D=0
 .subst er;go_wp2;refine aK (v:=zd #[J 0,J E,Q P,B H b a,J K,J O]) (by simp [results,results20,go_sem,k,l,n,o,p,q,h,S]) (by simp [go_sem]) ?_;refine ⟨0,E,P,H,b,a,K,O,rfl,(Z.o (λw1=>w1.1 rfl)).o _ ?_⟩;exact c.o.a _ _ _ (c.o.a _ _ _ (c.o.a _ _ _ (c.o.a _ _ _ (c.o.a _ _ _ (c.o.a _ _ _ tx.o)))))
 .have ag:(D == 0)=false:=(by simpa using er);by_cases g:rT f=true
  .have d:(f == 1||(f == 2||f == 3))=true:=g;have i:=I (λW=>rV f W);rw [d] at i;have kd:=m.o.2;rw [aB ⟨er,g⟩] at kd;have aa:=I (kd _ tx.o);clear kd g d Z m c u;have QT:=I (Eq.refl ((((((t.setCell (yh (C.heap.size+1)) (J D)).setCell (X (C.heap.size+1) 1) (J E)).setCell (X (C.heap.size+1) 2) (Q P)).setCell (X (C.heap.size+1) 3) (B H b a)).setCell (X (C.heap.size+1) 4) (J K)).setCell (X (C.heap.size+1) 5) (J O)));go_wp2_with (go_at_call 48;refine mo (i.o _) ?_;rintro r w3 ⟨rfl,rfl⟩);obtain ⟨⟨q0,q1,q2,q3,q4,q5⟩,⟨s0,s1,s2,s3,s4,s5⟩,ak⟩:=bJ QV.o;obtain ⟨⟨u0,u1,u2,u3,u4,u5⟩,⟨t0,t1,t2,t3,t4,t5⟩,al⟩:=bJ k4.o;generalize Q6:((((((t.setCell (yh (C.heap.size+1)) (J D)).setCell (X (C.heap.size+1) 1) (J E)).setCell (X (C.heap.size+1) 2) (Q P)).setCell (X (C.heap.size+1) 3) (B H b a)).setCell (X (C.heap.size+1) 4) (J K)).setCell (X (C.heap.size+1) 5) (J O))=w6 at *;clear Q6 QT i;apply I;go_wp2_with (go_at_call 49;refine mo aa.o ?_;rintro r w3 ⟨⟨ao,rfl⟩,G,k2,k5⟩);obtain ⟨⟨k,l,n,o,p,q⟩,⟨f0,f1,f2,f3,f4,f5⟩,h⟩:=bJ (G.t QV.o);obtain ⟨⟨j0,j1,j2,j3,j4,j5⟩,⟨g0,g1,g2,g3,g4,g5⟩,Q0⟩:=bJ (k2.t k4.o);have HZ:=I k5;clear G k2 k5;apply I;go_wp2;refine aK (v:=zd #[J D,J E,Q P,B H b a,J K,J O]) (by simp [results,results20,go_sem,k,l,n,o,p,q,h,S]) (by simp [go_sem]) ?_;refine ⟨D,E,P,H,b,a,K,O,rfl,?_⟩;exact j.o _ _ _ (j.o _ _ _ (j.o _ _ _ (j.o _ _ _ (j.o _ _ _ (j.o _ _ _ HZ.o)))))
  .have d:(f == 1||(f == 2||f == 3))=false:=by simpa [rT] using g
   have i:=I (λW=>rV f W);rw [d] at i;have an:=I ((Z.o (λw1=>g w1.2)).o);clear g d Z m u;go_wp2_with (go_at_call 48;refine (i.o _).m ?_;rintro r w3 ⟨rfl,rfl⟩);refine aK (v:=zd #[J D,J E,Q P,B H b a,J K,J O]) (by simp [results,results20,go_sem,k,l,n,o,p,q,h,S]) (by simp [go_sem]) ?_;refine ⟨D,E,P,H,b,a,K,O,rfl,an.o _ ?_⟩;exact c.o.a _ _ _ (c.o.a _ _ _ (c.o.a _ _ _ (c.o.a _ _ _ (c.o.a _ _ _ (c.o.a _ _ _ tx.o)))))
end Go.Proofs.YtihgojcfpnhelaaGreatDoor
