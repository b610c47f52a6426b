import Derived.Test.YtihgojcfpnhelaaGreatDoorHl
import Derived.Test.YtihgojcfpnhelaaGreatDoorDa
set_option maxRecDepth 100000
set_option maxHeartbeats 4000000
set_option linter.all false
namespace Go.Proofs.YtihgojcfpnhelaaGreatDoor
open Value renaming slice->B,agg->zd,tuple->zp,bool->zF
open Obj renaming cells->zM
open Ending renaming returned->zP
open Option renaming some->A
open Or renaming inl->zR,inr->zZ
open Go renaming World->zW,Value->zV,Calls->zC,Addr->zD
open Go.RowKit Go.Proofs.Tryz
open List renaming length→G
section
section
section
variable {len:Nat} {K:List (By × Nat)} {b bl cp:Nat}
def yK (AU:fV K) (p3:Nat) (IH:zv len K b bl cp p3) (k n i d:Nat) (x:1<=n) (z:n<=5) (e:Int) (w:zW) (hd:d<=6) (hF:10*(G K - i)+(7 - n)<p3+1) (hS:St len K w b bl cp i d e)
  (bk:k<20) (hk:((aL len K)[i]'hS.rd.lt).1=(k:Int)) (ha:kY.getD k 0≠(n:Int)) (T:ku (lv n) d (aw K i)=[aH (lv (n+1)) d,aH (tl n) d]) :
  zC prog 93 #[zJ b,J n] w (dQ len K [aH (lv n) d] (λf p=>bh K n i f p) (2*n) b bl cp i d e w):=by
 have hs:=hS.rd.size;have ck:=hS.le;have a9:=I (λC (w2:cX C b bl cp (aL len K) i (d:Int) e)=>ou C b bl cp _ i d e w2);have HS:=I hS;have HK:=I hk;have hc:=hS.env.DU k bk;have xE:=gI w _ hc;have Jj:(0:Int)<=(k:Int):=(by omega);have ci:(k:Int)<20:=(by omega);generalize kY.getD k 0=av at *;have cc:(av == (n:Int))=false:=bo.2 ha;have cl:((n:Int) == 6)=false:=bo.2 (by omega);have SK:=I IH;have AW:=I AU;have ad:=I T;have p1:((n+1:Nat):Int)=(n:Int)+1:=(by omega);have aa:=I (λC (w2:St len K C b bl cp i d e)=>IH (n+1) i d e C (by omega) (by omega) hd (by omega) w2);rw [p1] at aa;have br:=I p1;clear hk ha IH AU T p1;go_in;go_wp2_with (first|(go_at_call 127;refine (a9.o _ (HS.o.rd.next (bZ _))).m ?_;rw [HK.o];rintro e w' ⟨rfl,rfl⟩)|(go_at_call 93;refine (aa.o _ (HS.o.next (bZ _))).m ?_;rintro k3 C (⟨Y,M,r,W,Z,c1,rfl,JT,Tr,ao,Tw,o,b0,al⟩|⟨Y,M,d1,er,k2,k1,s1,W,Z,c1,rfl,aJ,w1,o,b0,ag⟩)<;>apply Hid.o))
 .have g:=o.blk (q:=w.heap.size) (bL w _) (by omega);have k':=(cz.1 g).1;have A1:=I (show Jc len K b bl cp w C.heap.size d e (C.alloc (zM #[J r.k,Q r.nm,J r.n,B W Z c1] 87)) Y r W Z c1 from
   ⟨ao.next (bZ _),(((Kp.of (bZ _) hs).t o).next (bZ _) (by omega)),(cj _ _ _ k').t g,bL _ _,(JT.next λq hq=>cj _ _ _ hq.2).wide (λq hq=>by have h1:=hq.1;have h2:=hq.2;simp at h1 ⊢;omega),k',hs⟩)
  have A4:=I (show lQ len K [aH (lv n) d] [aH (tl n) d] i Y (M+1) from λH q=>by
   rw [show M+1+q=M+q+1 by omega,vL,ow len K (lv n) d i (M+q) H (by omega),ad.o];exact al (aH (tl n) d::H) q)
  have A5:=I (show bh K (if n=3 then 4 else n) i Y r by
   by_cases N:n=3
   .subst N;exact Tr
   .rw [aA N];exact bh.up n i Y r x z Tr)
  clear ao al hc JT Tr o g;apply I;go_wp2;go_loopg [7] (G K+1 - Y) (λgk h3 wr=>(h3=zF true/\∃ (f m:Nat) (p:Pt) (a:Option zD) (l c:Nat),G K+1<=f+gk/\i<f/\m+2*n+1<=20*(f - i)/\Hid (Jc len K b bl cp w C.heap.size d e wr f p a l c)/\Hid (bh K (if n=3 then 4 else n) i f p)/\Hid (lQ len K [aH (lv n) d] [aH (tl n) d] i f m))\/(h3=zF false/\∃ (kk nn:Int) (Q4:By) (a:Option zD) (l c:Nat),Hid (VL len K [aH (lv n) d] (2*n) b bl cp w C.heap.size i wr kk nn Q4 a l c)))
  case atStart=>exact zR ⟨rfl,Y,M+1,r,W,Z,c1,by omega,by omega,by omega,A1,A5,A4⟩
  case round=>
   rcases hrel with ⟨rfl,f,m,p,a,l,c,xA,ch,hm,D,w3,NL⟩|⟨rfl,kk,nn,Q4,a,l,c,h⟩
   .have bX:=D.o.st.rd.lt;have b2:=D.o.st.le;obtain ⟨L,yR,ay,bs,bS⟩:=AW.o.cls bX;have bb:=I yR;have a1:=I ay;have H':=I (ou wr b bl cp _ f d e D.o.st.rd);have Q0:=D.o.st.env.agj L bs;have o:(0:Int)<=(L:Int):=(by omega);have b3:(L:Int)<20:=(by omega);have Q5:=I (Vn _ L yR n x z);obtain ⟨⟨O,P,R,U⟩,⟨f0,f1,f2,f3⟩,a4⟩:=aX D.o.res;obtain ⟨⟨q0,q1,q2,q3⟩,⟨g0,g1,g2,g3⟩,ak⟩:=aX D.o.sO;have ce:=D.o.gw;clear yR ay bS;by_cases u:b5 (aw K f) (dc n)=true
    .obtain ⟨bO,bN,E⟩:=Lz n x z _ u;have ax:f<G K:=by
      rcases cC f (G K) with QT|QT
      .exact QT
      .exact absurd (kV K f QT) E
     rw [Q5.o.2 u] at Q0;have HT:=I (ye wr b bl cp _ f d e D.o.st.rd (by rw [kP];omega));have D6:=I (QH n x z d _ u);have ba:=I u;have cm:((n:Int) == (n:Int))=true:=(by simp);clear u bO bN E;go_wp2_with (first|(go_at_call 127;refine H'.o.m ?_;rw [a1.o];rintro k3 w' ⟨rfl,rfl⟩)|(go_at_call 130;refine HT.o.m ?_;rw [a1.o];rintro k3 F ⟨rfl,a0,QV⟩;apply Hid.o));have ar:St len K F b bl cp (f+1) d e:=D.o.st.down (d':=d) a0 QV.bS;have k0:=I (show F.heap[w.heap.size]?=_/\F.heap[C.heap.size]?=_ from ⟨QV.blk D.o.res (by omega),QV.blk D.o.sO (by omega)⟩);have OX:=I QV;have Cm:=QV.size;have ac:=I (λy (w2:St len K y b bl cp (f+1) d e)=>SK.o (n+1) (f+1) d e y (by omega) (by omega) hd (by omega) w2);rw [br.o] at ac;have bj:=I ar;generalize ((aL len K)[f]).2.2.2=tn at *;generalize ((aL len K)[f]).2.2.1=tx at *;generalize ((aL len K)[f]).2.1=tp at *;clear a0 QV ar Q0 O P R U f0 f1 f2 f3 q0 q1 q2 q3 g0 g1 g2 g3;apply I;go_wp2_with (go_at_call 93;refine (ac.o _ (bj.o.next (aY _ _ _))).m ?_;rintro k3 y (⟨V,t,s,a3,l3,c3,rfl,wJ,an,au,cf,j,b1,Q6⟩|⟨V,t,d3,er,a5,a8,s3,a3,l3,c3,rfl,a2,w1,j,b1,af⟩)<;>apply Hid.o)
     .obtain ⟨⟨q0,q1,q2,q3⟩,⟨g0,g1,g2,g3⟩,bn⟩:=aX (j.blk ((tC _ _ _ (by omega)).t k0.o.2) (by omega));obtain ⟨⟨x0,x1,x2,x3⟩,⟨y0,y1,y2,y3⟩,bu⟩:=aX (j.blk (q:=F.heap.size+1) (by have:=bL (F.alloc (zM #[J L,J tp,Q tx,J tn] 134)) (zM #[J 0,Q [],J 0,zN] 87);simpa using this) (by omega));obtain ⟨⟨z0,z1,z2,z3⟩,_,bw⟩:=aX (j.blk (q:=F.heap.size) ((cj _ _ _ (by simp)).t (bL F _)) (by omega));obtain ⟨⟨O,P,R,U⟩,⟨f0,f1,f2,f3⟩,oU⟩:=aX (j.blk ((tC _ _ _ (by omega)).t k0.o.1) (by omega));have e1:C.heap.size≠F.heap.size+1:=(by omega);have e2:F.heap.size+1≠C.heap.size:=(by omega);have e3:w.heap.size≠C.heap.size:=(by omega);have e4:C.heap.size≠w.heap.size:=(by omega);have e5:w.heap.size≠F.heap.size+1:=(by omega);have e6:F.heap.size+1≠w.heap.size:=(by omega);have e7:F.heap.size≠C.heap.size:=(by omega);have e8:C.heap.size≠F.heap.size:=(by omega);have B1:=I (D.o.more OX.o j au wJ L (J s.k) (Q s.nm) (J s.n) (B a3 l3 c3));have B2:=I (show bh K n i V (.bin L p s) from bh.more n i f V L p s x z w3.o ba.o bb.o an);have B4:=I (show lQ len K [aH (lv n) d] (if n=3 then [] else [aH (tl n) d]) i V (m+2+t) from λH q=>by
       rw [show m+2+t+q=m+(t+q+1+1) by omega,NL.o H (t+q+1+1),vL,ow len K (tl n) d f (t+q+1) H (by omega),D6.o,gT,mU len K _ f (t+q) _ (AW.o.tk ax) rfl];exact Q6 ((if n=3 then [] else [aH (tl n) d])++H) q)
      clear wJ an au j Q6;apply I;by_cases N:n=3
      .have i1:((n:Int) == 3)=true:=(by simp [N]);have B5:=I (show kH len K [aH (lv n) d] i V (m+2+t) from λH q=>by have:=B4.o H q;rw [aB N] at this;exact this);clear N;go_wp2;refine aK (v:=zp #[zd #[J L,Q [],J 0,zS y.heap.size 2 2],zF true]) (by simp [results,results93,go_sem,O,P,R,U,oU]) rfl ?_;rw [<- DV _ _ w.heap.size (by rw [js,js];exact oU)];exact B1.o.post (m:=m+2+t) B2.o (by omega) (by omega) B5.o _ _ _ _
      .have i1:((n:Int) == 3)=false:=bo.2 (by omega);have B5:=I (show lQ len K [aH (lv n) d] [aH (tl n) d] i V (m+2+t) by have:=B4.o;rw [aA N] at this;exact this);have B6:=I (show bh K (if n=3 then 4 else n) i V (.bin L p s) by rw [aA N];exact B2.o);clear N;go_wp2;go_roundg (G K+1 - V)
       case measure=>omega
       case rel=>exact zR ⟨rfl,V,m+2+t,.bin L p s,A (yh y.heap.size),2,2,by omega,by omega,by omega,B1,B6,B5⟩
     .obtain ⟨⟨q0,q1,q2,q3⟩,⟨g0,g1,g2,g3⟩,bn⟩:=aX (j.blk ((tC _ _ _ (by omega)).t k0.o.2) (by omega));obtain ⟨⟨x0,x1,x2,x3⟩,⟨y0,y1,y2,y3⟩,bu⟩:=aX (j.blk (q:=F.heap.size+1) (by have:=bL (F.alloc (zM #[J L,J tp,Q tx,J tn] 134)) (zM #[J 0,Q [],J 0,zN] 87);simpa using this) (by omega));obtain ⟨⟨z0,z1,z2,z3⟩,_,bw⟩:=aX (j.blk (q:=F.heap.size) ((cj _ _ _ (by simp)).t (bL F _)) (by omega));obtain ⟨⟨O,P,R,U⟩,⟨f0,f1,f2,f3⟩,oU⟩:=aX (j.blk ((tC _ _ _ (by omega)).t k0.o.1) (by omega));have e1:C.heap.size≠F.heap.size+1:=(by omega);have e2:F.heap.size+1≠C.heap.size:=(by omega);have e3:w.heap.size≠C.heap.size:=(by omega);have e4:C.heap.size≠w.heap.size:=(by omega);have e5:w.heap.size≠F.heap.size+1:=(by omega);have e6:F.heap.size+1≠w.heap.size:=(by omega);have e7:F.heap.size≠C.heap.size:=(by omega);have e8:C.heap.size≠F.heap.size:=(by omega);have B1:=I (D.o.fail (S:=[aH (lv n) d]) (c1:=2*n) (i:=i) (m:=m+2+t) OX.o j a2 w1 (by omega) (λH q=>by
       rw [show m+2+t+q=m+(t+q+1+1) by omega,NL.o H (t+q+1+1),vL,ow len K (tl n) d f (t+q+1) H (by omega),D6.o,gT,mU len K _ f (t+q) _ (AW.o.tk ax) rfl];exact af ((if n=3 then [] else [aH (tl n) d])++H) q) L (J a5) (Q s3) (J a8) (B a3 l3 c3) (zM #[J p.k,Q p.nm,J p.n,B a l c,J a5,Q s3,J a8,B a3 l3 c3] 87))
      clear a2 w1 j af;apply I;by_cases N:n=3
      .have i1:((n:Int) == 3)=true:=(by simp [N]);clear N;go_wp2;refine aK (v:=zp #[zd #[J L,Q [],J 0,zS y.heap.size 2 2],zF false]) (by simp [results,results93,go_sem,O,P,R,U,oU]) rfl ?_;rw [<- DV _ _ w.heap.size (by rw [js,js];exact oU)];exact B1.o.post _ _ _ _
      .have i1:((n:Int) == 3)=false:=bo.2 (by omega);clear N;go_wp2;go_roundg 0
       case measure=>omega
       case rel=>exact zZ ⟨rfl,(L:Int),0,[],A (yh y.heap.size),2,2,B1⟩
    .have am:b5 (aw K f) (dc n)=false:=by simpa using u
     have E:uv.getD L 0≠(n:Int):=λQT=>u (Q5.o.1 QT);generalize uv.getD L 0=bv at Q0 E;have cd:(bv == (n:Int))=false:=bo.2 E;have B5:=I (show kH len K [aH (lv n) d] i f (m+1) from λH q=>by
      rw [show m+1+q=m+(q+1) by omega,NL.o H (q+1),vL,ow len K (tl n) d f q H (by omega),IX n x z d _ am];rfl)
     have B6:=I (show bh K n i f p by
      have:=w3.o;by_cases N:n=3
      .subst N;exact bh.up 3 i f p x z this
      .rw [aA N] at this;exact this)
     have e3:w.heap.size≠C.heap.size:=(by omega);have e4:C.heap.size≠w.heap.size:=(by omega);clear u am E Q5;go_wp2_with (go_at_call 127;refine H'.o.m ?_;rw [a1.o];rintro k3 w' ⟨rfl,rfl⟩);refine aK (v:=zp #[zd #[J p.k,Q p.nm,J p.n,B a l c],zF true]) (by simp [results,results93,go_sem,O,P,R,U]) rfl ?_;exact D.o.post (m:=m+1) B6.o (by omega) (by omega) B5.o _ _ _ _
   .obtain ⟨⟨O,P,R,U⟩,⟨f0,f1,f2,f3⟩,a4⟩:=aX h.o.res;obtain ⟨⟨q0,q1,q2,q3⟩,⟨g0,g1,g2,g3⟩,ak⟩:=aX h.o.sO;go_wp2;refine aK (v:=zp #[zd #[J kk,Q Q4,J nn,B a l c],zF false]) (by simp [results,results93,go_sem,O,P,R,U]) rfl ?_;exact h.o.post _ _ _ _
 .have g:=o.blk (q:=w.heap.size) (bL w _) (by omega);have k':=(cz.1 g).1;have A1:=I (show VL len K [aH (lv n) d] (2*n) b bl cp w C.heap.size i (C.alloc (zM #[J k2,Q s1,J k1,B W Z c1] 87)) k2 k1 s1 W Z c1 from
   ⟨⟨Y,M+1,d1,er,aJ.next (bZ _),w1,by omega,λH q=>by
    rw [show M+1+q=M+q+1 by omega,vL,ow len K (lv n) d i (M+q) H (by omega),ad.o];exact ag (aH (tl n) d::H) q⟩,(((Kp.of (bZ _) hs).t o).next (bZ _) (by omega)),(cj _ _ _ k').t g,bL _ _,hs⟩)
  clear aJ w1 o ag g hc;apply I;go_wp2;go_loopg [7] 0 (λ_ h3 wr=>h3=zF false/\Hid (VL len K [aH (lv n) d] (2*n) b bl cp w C.heap.size i wr k2 k1 s1 W Z c1))
  case atStart=>exact ⟨rfl,A1⟩
  case round=>
   obtain ⟨rfl,h⟩:=hrel;obtain ⟨⟨O,P,R,U⟩,⟨f0,f1,f2,f3⟩,a4⟩:=aX h.o.res;obtain ⟨⟨q0,q1,q2,q3⟩,⟨g0,g1,g2,g3⟩,ak⟩:=aX h.o.sO;go_wp2;refine aK (v:=zp #[zd #[J k2,Q s1,J k1,B W Z c1],zF false]) (by simp [results,results93,go_sem,O,P,R,U]) rfl ?_;exact h.o.post _ _ _ _
def yL (c:fV K) (F:Nat):zv len K b bl cp F:=by
 induction F with
 | zero=>intro n i d e w _ _ _ h;omega
 | succ F s=>
  intro n i d e w f o r hF p;have q:=p.rd.lt;obtain ⟨k,j,g,a,v⟩:=c.cls q;by_cases m:kY.getD k 0=(n:Int)
  .have t:zw n (aw K i):=(xw _ k j n f o).1 m;have E:i<G K:=by
    rcases t with ⟨_,h⟩|⟨_,h⟩
    .exact uE (by decide) h
    .exact uE (by decide) h
   exact VK k n i d e w p a g m _ _ _ λC l=>Ez c F s n i d e C r E t hF l
  .by_cases z:n=6
   .subst z;have u:aw K i≠[45]:=λh=>m ((xw _ k j 6 (by omega) (by omega)).2 (zZ ⟨rfl,h⟩));exact mp k i d e w p a g m _ _ _ λC l=>me c F s i d e C r u (by omega) l
   .have y:ku (lv n) d (aw K i)=[aH (lv (n+1)) d,aH (tl n) d]:=
     Gj n f (by omega) d _ (λD x=>m ((xw _ k j n f o).2 (zR ⟨D,x⟩)))
    exact yK c F s k n i d f (by omega) e w r hF p a g m y
end
end
end
section
section
def Dr (len:Nat) (K:List (By × Nat)) (b bl cp Z:Nat) (w:zW) (r:Ending) (w':zW):Prop:=
 (∃ (p:Pt) (a:Option zD) (l c d:Nat),r=zP (zp #[zd #[J p.k,Q p.nm,J p.n,B a l c],zF true])/\dR w' (λq=>w.heap.size<=q/\q<w'.heap.size) p a l c/\bh K 1 Z (G K) p/\Kp b w w'/\d<=1000000/\cF len d [aH 82 0] (K.drop Z)=A (0,0)) \/
 (∃ (e d:Nat) (D C k n:Int) (s:By) (a:Option zD) (l c:Nat),r=zP (zp #[zd #[J k,Q s,J n,B a l c],zF false])/\cX w' b bl cp (aL len K) e D C/\C≠0/\Kp b w w'/\d<=1000000/\cF len d [aH 82 0] (K.drop Z)=A (C,eF len K e))
section
variable {len:Nat} {K:List (By × Nat)} {b bl cp Z:Nat}
def yM (Q4:fV K) (w:zW) (R:St len K w b bl cp Z 0 0) (hN:G K<=1000) :
  zC prog 61 #[zJ b] w (Dr len K b bl cp Z w):=by
 have L:=R.rd.size;have HL:=I (λM (g:St len K M b bl cp Z 0 0)=>yL (len:=len) (b:=b) (bl:=bl) (cp:=cp) Q4 (10*G K+7) 1 Z 0 0 M (by omega) (by omega) (by omega) (by omega) g);have k3:=I Q4;have HS:=I R;clear Q4 R;go_in;go_wp2_with (go_at_call 93;refine (HL.o _ (HS.o.next (bZ _))).m ?_;rintro r M (⟨e,m,p,a,l,c,rfl,nn,QT,i,ac,d,hm,D⟩|⟨e,m,d',er,k,O,s,a,l,c,rfl,C,E,d,hm,hs⟩)<;>apply Hid.o)
 .have f:=d.blk (q:=w.heap.size) (bL w _) (by omega);obtain ⟨⟨W,Y,q,x⟩,⟨f0,f1,f2,f3⟩,U⟩:=aX f;have k2:=i.rd.lt;have ad:=i.le;have o:=i.rd.size;have HI:=I (λN (g:cX N b bl cp (aL len K) e ((0:Nat):Int) 0) hk=>Bn N b bl cp _ e _ 0 0 g hk);have HN:=I (λN (g:cX N b bl cp (aL len K) e ((0:Nat):Int) 0) hk=>P9 N b bl cp _ e _ 0 0 g hk);have Q5:=I f;have S:=I nn;have A2:=I QT;have A3:=I i;have P:=I ((Kp.of (bZ _) L).t d);have Q6:=I D;clear nn QT i d D f;apply I;have w2:=I (A3.o.next (bZ (zM #[J p.k,Q p.nm,J p.n,B a l c] 87)));obtain ⟨k,QV,t,aa,u⟩:=k3.o.cls k2;by_cases k0:e<G K
  .have H:((aL len K)[e]).1≠0:=by
    rw [t];intro h;have:k=0:=(by omega);exact u.1 this k0
   have z:=I H;have F:=I (show cF len (m+1) [aH 82 0] (K.drop Z)=A (3,eF len K e) by
    have:=Q6.o [] 1;rw [iq] at this;refine (show cF len (m+1) [aH (lv 1) 0] (K.drop Z)=_ from this).t ?_;rcases l7 len K e with ⟨h,_,_⟩|⟨r,h⟩
    .have:=eL List.length h;simp at this;omega
    .rw [h];rfl)
   clear QV t u H;go_wp2_with fail
   go_region_with (first|(go_at_call 94;refine (HN.o _ w2.o.rd.drew z.o).m ?_;rintro r N ⟨rfl,w1,n⟩;obtain ⟨⟨y0,y1,y2,y3⟩,⟨z0,z1,z2,z3⟩,ak⟩:=aX (n.blk (q:=w.heap.size) ((cj _ _ _ U).t Q5.o) (by omega));obtain ⟨⟨x0,x1,x2,x3⟩,_,ag⟩:=aX (n.blk (q:=M.heap.size) (bL M _) (by omega));have B1:=I w1;have B2:=I n;clear w1 n))
   all_goals go_wp2
   all_goals refine aK (v:=zp #[zd #[J p.k,Q p.nm,J p.n,B a l c],zF false]) (by simp [results,results61,go_sem,y0,y1,y2,y3]) rfl ?_
   all_goals exact zZ ⟨e,m+1,_,3,_,_,p.nm,a,l,c,rfl,B1.o.ep w.heap.size _ _ _ _ L,by decide,((P.o.next (bZ _) o).drew.t B2.o).dF w.heap.size _ _ _ _ (aG _) L,by omega,F.o⟩
  .obtain rfl:e=G K:=(by omega);have k1:k=0:=u.2 k0;have z:=I (show ((aL len K)[G K]).1=0 by rw [t,k1];rfl);have F:=I (show cF len (m+1) [aH 82 0] (K.drop Z)=A (0,0) by
    have:=Q6.o [] 1;rw [iq,List.drop_length] at this;exact this)
   clear QV t u;have j:=I (show Dr len K b bl cp Z w (zP (zp #[zd #[J p.k,Q p.nm,J p.n,B a l c],zF true])) (((((M.setCell (yh w.heap.size) (J p.k)).setCell (X w.heap.size 1) (Q p.nm)).setCell (X w.heap.size 2) (J p.n)).setCell (X w.heap.size 3) (B a l c)).alloc (zM #[J p.k,Q p.nm,J p.n,B a l c] 87)).drew by
    have V:=P.o.dF w.heap.size (J p.k) (Q p.nm) (J p.n) (B a l c) (aG _) L;refine zR ⟨p,a,l,c,m+1,rfl,(S.o.next λQ0 T=>?_).wide λQ0 T=>?_,A2.o,(V.next (bZ _) (by rw [js];exact o)).drew,by omega,F.o⟩
    .have y:=T.1;simp at y;exact (cj _ _ _ (by rw [js];exact T.2)).t (lx _ _ _ _ _ _ (by omega))
    .have y:=T.1;have af:=T.2;simp at y;refine ⟨by omega,?_⟩;show Q0<(World.alloc _ _).heap.size;simp;omega)
   go_wp2_with fail
   go_region_with (first|(go_at_call 94;refine (HI.o _ w2.o.rd.drew z.o).m ?_;rintro r N ⟨rfl,rfl⟩))
   all_goals go_wp2
   all_goals refine aK (v:=zp #[zd #[J p.k,Q p.nm,J p.n,B a l c],zF true]) (by simp [results,results61,go_sem,W,Y,q,x,U]) rfl ?_
   all_goals exact j.o
 .have f:=d.blk (q:=w.heap.size) (bL w _) (by omega);obtain ⟨⟨W,Y,q,x⟩,⟨f0,f1,f2,f3⟩,U⟩:=aX f;have o:=C.size;have S:=I C;have P:=I ((Kp.of (bZ _) L).t d);have A6:=I E;have F:=I (show cF len m [aH 82 0] (K.drop Z)=A (er,eF len K e) by
   have:=hs [] 0;rw [iq] at this;exact this)
  clear C d hs E f;have j:=I (show Dr len K b bl cp Z w (zP (zp #[zd #[J k,Q s,J O,B a l c],zF false])) (((((M.setCell (yh w.heap.size) (J k)).setCell (X w.heap.size 1) (Q s)).setCell (X w.heap.size 2) (J O)).setCell (X w.heap.size 3) (B a l c)).alloc (zM #[J k,Q s,J O,B a l c] 87)).drew by
   have V:=P.o.dF w.heap.size (J k) (Q s) (J O) (B a l c) (aG _) L;exact zZ ⟨e,m,d',er,k,O,s,a,l,c,rfl,((S.o.ep w.heap.size _ _ _ _ L).next (bZ _)).drew,A6.o,(V.next (bZ _) (by rw [js];exact o)).drew,by omega,F.o⟩)
  apply I;go_wp2_with fail
  go_region
  all_goals go_wp2
  all_goals refine aK (v:=zp #[zd #[J k,Q s,J O,B a l c],zF false]) (by simp [results,results61,go_sem,W,Y,q,x,U]) rfl ?_
  all_goals exact j.o
end
def jg (K:List (By × Nat)) (Z i:Nat):aw (K.drop Z) i=aw K (Z+i):=by
 simp [aw,qz]
def bh.drop {K:List (By × Nat)} {n i j:Nat} {p:Pt} (h:bh K n i j p):∀ Z d,i=Z+d->bh (K.drop Z) n d (j - Z) p:=by
 induction h with
 | atom i k M v E=>
  rintro Z d rfl;have:=bh.atom (K:=K.drop Z) d k (by simp;omega) (by rw [jg];exact v) E;rw [jg] at this;rw [show Z+d+1 - Z=d+1 by omega];exact this
 | jV i j a N _ e=>
  rintro Z d rfl;exact bh.jV d _ a (by rw [jg];exact N) (e Z (d+1) (by omega))
 | neg i j a N _ e=>
  rintro Z d rfl;exact bh.neg d _ a (by rw [jg];exact N) (e Z (d+1) (by omega))
 | br i j a N D O e=>
  rintro Z d rfl;have R:=D.lt;rw [show j+1 - Z=j - Z+1 by omega];exact bh.br d _ a (by rw [jg];exact N) (e Z (d+1) (by omega)) (by rw [jg,show Z+(j - Z)=j by omega];exact O)
 | ifs i m o f a b c N C g u l x G y r w s=>
  rintro Z d rfl;have z:=g.lt;have H:=l.lt;have T:=G.lt;rw [show f+1 - Z=f - Z+1 by omega];exact bh.ifs d (m - Z) (o - Z) (f - Z) a b c (by rw [jg];exact N) (by rw [jg];exact C) (r Z (d+1+1) (by omega)) (by rw [jg,show Z+(m - Z)=m by omega];exact u) (w Z (m - Z+1) (by omega)) (by rw [jg,show Z+(o - Z)=o by omega];exact x) (s Z (o - Z+1) (by omega)) (by rw [jg,show Z+(f - Z)=f by omega];exact y)
 | up n i j a g l _ e=>
  rintro Z d rfl;exact bh.up n d _ a g l (e Z d rfl)
 | more n i j L k a b g l F P v S q t=>
  rintro Z d rfl;have z:=F.lt;exact bh.more n d (j - Z) _ k a b g l (q Z d rfl) (by rw [jg,show Z+(j - Z)=j by omega];exact P) (by rw [jg,show Z+(j - Z)=j by omega];exact v) (t Z (j - Z+1) (by omega))
def fV.drop {K:List (By × Nat)} (h:fV K) (Z:Nat):fV (K.drop Z):=λt p a=>h t p (lD a)
end
end
def io (s:By) (K:List (By × Nat)) (bl cp f:Nat) (B0:Nat) (w:zW) (hE:Env w) (ar:11<=B0) (H:fV K) (hN:G K<=120) (Ud:f<=G K) (S:∀ t p,(t,p)∈K->G t<=19) (d:w.ownsRow B0 134 4 (zS bl (G K+1) cp) (G K+1) (iY K++sM (G s))) :
  zC prog 43 #[B (A (X bl (f*4))) ((aL (G s) K).length - f) (cp - f)] w (Bo (G s) (K.drop f) w):=by
 rw [Fw] at d;have k2:(aL (G s) K).length=G K+1:=kP;rw [<- k2] at d;rcases d.2 with ⟨_,h0⟩|⟨ac,ad,an,af,au,k1,er,am,_⟩
 .omega
 .obtain ⟨rfl,rfl⟩:bl=ac/\cp=ad:=by simpa using af
  have e:bl<w.heap.size:=(cz.1 k1).1;have Gn:=I (pZ (K.drop f) (λt p hm=>S t p (lD hm)) (K.drop f).length);have Uw:=I (show St (G s) K ((w.alloc (zM #[J 0,Q [],J 0,zN] 89)).alloc (zM #[B (A (X bl (f*4))) ((aL (G s) K).length - f) (cp - f),J 0,J 0] 138)) (w.heap.size+1) bl cp f 0 0 by
   have h:=aY w (zM #[J 0,Q [],J 0,zN] 89) (zM #[B (A (X bl (f*4))) ((aL (G s) K).length - f) (cp - f),J 0,J 0] 138);refine ⟨⟨?_,by omega,by omega,er,by omega,?_,λj M=>?_⟩,hE.next h,by omega⟩
   .exact Au w _ _ _
   .intro t ht;obtain ⟨j,M,rfl⟩:=e9 ht;obtain ⟨ay,_,hk,ag,_⟩:=H.cls M;rw [hk];omega
   .rw [h.cell e,h.cell e,h.cell e,h.cell e];refine ⟨?_,?_,?_,?_⟩
    .rw [d.cellAt (j*4) (by omega)];exact (uu _ j M).1
    .rw [d.cellAt (j*4+1) (by omega)];exact (uu _ j M).2.1
    .rw [d.cellAt (j*4+2) (by omega)];exact (uu _ j M).2.2.1
    .rw [d.cellAt (j*4+3) (by omega)];exact (uu _ j M).2.2.2)
  have HW:=I (yM H _ Uw.o (by omega));have HE:=I hE;have QV:=I (show (K.drop f).length<=(G K) by rw [mG];omega);have Q6:=I H;clear d hE H k1 k2;go_in;go_wp2_with (go_at_call 61;refine HW.o.m ?_;rintro aJ R (⟨p,a,l,c,Y,rfl,hp,N,o,F,g⟩|⟨Z,Y,d',x,kk,nn,sx,a,l,c,rfl,u,k0,o,F,g⟩)<;>apply Hid.o)
  .have P:=o.blk (fX w _ _ _) (by omega);have z:=(cz.1 P).1;have C:zB w R:=(aY w _ _).t (o.bS.m (by omega));have HG:=I (N.good Q6.o);have N:bh (K.drop f) 1 0 (K.drop f).length p:=by
    have:=N.drop f 0 rfl;rw [mG];exact this
   have hq:ai p=bV (K.drop f) (K.drop f).length:=by
    have:=(N.told (Q6.o.drop f) rfl).2.2;rw [this];rfl
   have k:(ai p).length<=1000000:=by rw [hq];have:=Gn.o;have:=QV.o;omega
   have b:zB R (R.alloc (zM #[J p.k,Q p.nm,J p.n,B a l c] 87)):=(aM _ _).alloc (aG _) _;have Q0:=I (Dq p a l c _ (hp.next λq O=>b.block q O.2) (λq O=>bG O.2 b.size) ((HE.o.next C).next b) HG.o k);have Q5:=I P;have k3:=I C;have HP:=I hp;have HD:=I N;have w1:=I hq;have y:=I g;clear P C hp N hq g o b k;apply I;go_wp2_with (go_at_call 62;refine Q0.o.m ?_;rintro ao w2 ⟨b,(⟨i,rfl⟩|⟨i,rfl⟩)⟩<;>apply Hid.o)
   .have E:=(b.block w.heap.size (by simp;omega)).t ((cj _ _ _ z).t Q5.o);obtain ⟨⟨T,U,V,W⟩,⟨f0,f1,f2,f3⟩,m⟩:=aX E;have r:=I (show zB w w2 from (k3.o.alloc (by omega) _).t (b.m (by simp;omega)));have L:=I b;have D:=I i;clear b E i;apply I;go_wp2;refine aK (v:=zp #[zd #[J 0,Q [],J 0,zN],J 7,J 0]) (by simp [results,results43,go_sem,T,U,V,W,m]) rfl ?_;exact ⟨(Iy r.o w.heap.size (aG _) _ _ _ _).alloc (by rw [js];omega) _,zZ (zR ⟨Y,rfl,by rw [<- w1.o];exact D.o,F,y.o⟩)⟩
   .have E:=(b.block w.heap.size (by simp;omega)).t ((cj _ _ _ z).t Q5.o);obtain ⟨⟨T,U,V,W⟩,⟨f0,f1,f2,f3⟩,m⟩:=aX E;have r:=I (show zB w w2 from (k3.o.alloc (by omega) _).t (b.m (by simp;omega)));have L:=I b;have D:=I i;clear b E i;apply I;go_wp2;refine aK (v:=zp #[zd #[J p.k,Q p.nm,J p.n,B a l c],J 0,J 0]) (by simp [results,results43,go_sem,T,U,V,W,m]) rfl ?_;have QT:=L.o.size;simp at QT;refine ⟨(Iy r.o w.heap.size (aG _) _ _ _ _).alloc (by rw [js];omega) _,zR ⟨p,a,l,c,Y,rfl,(HP.o.next λq O=>?_).wide λq O=>?_,HD.o,w1.o,by rw [<- w1.o];exact D.o,F,y.o⟩⟩
    .have n:=O.1;simp at n;rw [cj _ _ _ (by rw [js];omega),lx _ _ _ _ _ _ (by omega),L.o.block q (by simp;omega),cj _ _ _ O.2]
    .have n:=O.1;have ax:=O.2;simp at n ⊢;omega
  .have P:=o.blk (fX w _ _ _) (by omega);obtain ⟨⟨T,U,V,W⟩,⟨f0,f1,f2,f3⟩,z⟩:=aX P;have C:zB w R:=(aY w _ _).t (o.bS.m (by omega));obtain ⟨c0,_,c3,_⟩:=u.cell;have l1:=(u.left Z u.lt).2.1;rw [Fx u.lt] at l1;have k:=u.lt;have av:=u.size;obtain ⟨Q4,hn⟩:∃ Q4,(aL (G s) K).length - Z=Q4+1:=⟨(aL (G s) K).length - Z - 1,by omega⟩;rw [hn] at c0;have wR:(0:Int)<(Q4:Int)+1:=(by omega);have ak:bl≠w.heap.size:=(by omega);have al:bl<R.heap.size:=(by omega);have RY:w.heap.size+1≠w.heap.size:=(by omega);have Cm:=I k0;have y:=I g;have HB:=I C;generalize eF (G s) K Z=p at *;clear u C o k0 g hn k P;apply I;have aa:=I (show Bo (G s) (K.drop f) w (zP (zp #[zd #[J 0,Q [],J 0,zN],J x,J p])) (((((R.setCell (yh w.heap.size) (J 0)).setCell (X w.heap.size 1) (Q [])).setCell (X w.heap.size 2) (J 0)).setCell (X w.heap.size 3) (zN)).alloc (zM #[J kk,Q sx,J nn,B a l c] 87)).drew from
    ⟨((Iy HB.o w.heap.size (aG _) _ _ _ _).alloc (by rw [js];omega) _).drew,zZ (zZ ⟨x,p,Y,rfl,Cm.o,F,y.o⟩)⟩)
   go_wp2_with fail
   go_region
   all_goals go_wp2
   all_goals refine aK (v:=zp #[zd #[J 0,Q [],J 0,zN],J x,J p]) (by simp [results,results43,go_sem,T,U,V,W,z]) rfl ?_
   all_goals exact aa.o
def yN (s:By) (K:List (By × Nat)) (v:zV) (e:Nat) (w:zW) (g:Env w) (d:11<=e) (c:fV K) (h:G K<=120) (b:∀ t p,(t,p)∈K->G t<=19) (a:w.ownsRow e 134 4 v (G K+1) (iY K++sM (G s))) :
  zC prog 43 #[v] w (Bo (G s) K w):=by
 obtain ⟨C,D,rfl,_⟩:=a.form (by omega);have f:=io s K C D 0 e w g d c h (bE _) b a;rw [List.drop_zero,jC,Nat.sub_zero,Nat.sub_zero,kP] at f;exact f
def kN (K:List (By × Nat)) (i:Nat):Int:=if i<(G K) then fU (aw K i) else 0
def nT (K:List (By × Nat)) (i:Nat):By:=if i<(G K) then ej (aw K i) else []
def fC (K:List (By × Nat)) (i n:Nat):List By:=(List.range n).map λj=>nT K (i+j)
def Iz (K:List (By × Nat)) (i n:Nat):fC K i (n+1)=fC K i n++[nT K (i+n)]:=by
 simp [fC,wB]
def CJ {K:List (By × Nat)} {i:Nat} (h:kN K i≠0):i<G K:=by
 unfold kN at h;split at h
 .assumption
 .exact absurd rfl h
def r6 {s:By} {K:List (By × Nat)} {m bl cp:Nat} {w:zW} (a:w.ownsRow m 134 4 (zS bl (G K+1) cp) (G K+1) (iY K++sM (G s))) (i:Nat) (q:i<=G K) :
  w.cell? (X bl (i*4))=A (J (kN K i))/\w.cell? (X bl (i*4+1))=A (J (eF (G s) K i:Int))/\w.cell? (X bl (i*4+2))=A (Q (nT K i))/\bl<w.heap.size/\G K+1<=cp:=by
 rw [Fw] at a;have f:(aL (G s) K).length=G K+1:=kP;rw [<- f] at a;rcases a.2 with ⟨_,p⟩|⟨d,c,l,g,n,e,j,k,_⟩
 .omega
 .obtain ⟨rfl,rfl⟩:bl=d/\cp=c:=by simpa using g
  have b:i<(aL (G s) K).length:=(by omega);have e1:((aL (G s) K)[i]).1=kN K i:=by
   by_cases h:i<G K
   .rw [qY b h];simp [kN,h]
   .rw [r7 b h];simp [kN,h]
  have o:((aL (G s) K)[i]).2.2.1=nT K i:=by
   by_cases h:i<G K
   .rw [qY b h];simp [nT,h]
   .rw [r7 b h];simp [nT,h]
  have h:=uu _ i b;rw [e1,Fx b,o] at h;refine ⟨?_,?_,?_,(cz.1 e).1,by omega⟩
  .rw [a.cellAt (i*4) (by omega)];exact h.1
  .rw [a.cellAt (i*4+1) (by omega)];exact h.2.1
  .rw [a.cellAt (i*4+2) (by omega)];exact h.2.2.1
inductive tR where
 | err (vb er:Int) (p:Nat)
 | ok (vb:Int) (ns:List By) (r:Option Pt)
def mZ (len:Nat) (K:List (By × Nat)) (a:Int) (n:Nat) (b:Bool) (r:tR):Prop:=
 (∃ j,j<n/\(∀ i,i<j->kN K (1+i)=2)/\kN K (1+j)≠2/\r=.err a 3 (eF len K (1+j))) \/
 ((∀ i,i<n->kN K (1+i)=2) /\
  ((b=false/\kN K (1+n)≠0/\r=.err a 3 (eF len K (1+n)))\/(b=false/\kN K (1+n)=0/\r=.ok a (fC K 1 n) none) \/
   (b=true/\kN K (1+n)≠18/\r=.err a 3 (eF len K (1+n))) \/
   (b=true/\kN K (1+n)=18/\∃ C p c,c<=1000000/\cF len c [aH 82 0] (K.drop (2+n))=A (C,p) /\
    ((C≠0/\r=.err a C p)\/(C=0/\p=0/\100<(bV (K.drop (2+n)) (K.drop (2+n)).length).length/\r=.err a 7 0) \/
    (C=0/\p=0/\∃ t,bh (K.drop (2+n)) 1 0 (K.drop (2+n)).length t/\ai t=bV (K.drop (2+n)) (K.drop (2+n)).length/\¬ 100<(ai t).length/\r=.ok a (fC K 1 n) (A t))))))
def sL (r:tR) (w:zW) (e:Ending) (w':zW):Prop:=
 match r with
 | .err f E p=>e=Qb f E p
 | .ok f b none=>∃ (d:Option zD) (D C:Nat),e=zP (zp #[zd #[J f,B d D C,J 0,Q [],J 0,zN],J 0,J 0])/\w'.ownsRow w.heap.size 9 1 (B d D C) (G b) (ab b)
 | .ok f b (some t)=>∃ (d:Option zD) (D C:Nat) (a:Option zD) (l c:Nat),e=zP (zp #[zd #[J f,B d D C,J t.k,Q t.nm,J t.n,B a l c],J 0,J 0])/\w'.ownsRow w.heap.size 9 1 (B d D C) (G b) (ab b)/\dR w' (λq=>w.heap.size<=q/\q<w'.heap.size) t a l c
def yW (len:Nat) (K:List (By × Nat)) (b:Int) (n:Nat) (a:Bool) (w:zW) (e:Ending) (w':zW):Prop:=∃ r,mZ len K b n a r/\sL r w e w'/\zB w w'
def eo {w:zW} {base z n q j:Nat} {e:TypeId} {v u:zV} {C:List zV} (h:w.ownsRow base e z v n C) (m:q<base):(w.setCell (X q j) u).ownsRow base e z v n C:=by
 obtain ⟨c,d⟩:=h;refine ⟨c,d.imp id ?_⟩;rintro ⟨g,a,b,l,f,k,i⟩;exact ⟨g,a,b,l,f,(cY _ _ _ _ (by show g≠q;omega)).t k,i⟩
def dS {w:zW} {base a z n:Nat} {e:TypeId} {v:zV} {C:List zV} (h:w.ownsRow base e z v n C) (i:a<=base):w.ownsRow a e z v n C:=by
 obtain ⟨d,j⟩:=h;refine ⟨d,j.imp id ?_⟩;rintro ⟨g,b,c,l,f,k⟩;exact ⟨g,b,c,l,bf i f,k⟩
def Av (K:List (By × Nat)) (i n:Nat):(fC K i n).length=n:=by simp [fC]
def b7 {w:zW} {base z n:Nat} {e:TypeId} {v:zV} {E:List zV} (h:w.ownsRow base e z v n E):∃ b D C,v=B b D C:=by
 rcases h.2 with ⟨rfl,_⟩|⟨g,c,a,rfl,_⟩
 .exact ⟨_,_,_,rfl⟩
 .exact ⟨_,_,_,rfl⟩
structure IA (K:List (By × Nat)) (wd:By) (vb:Int) (n:Nat) (rl:Bool) (w wr:zW) (v:zV) (j:Nat):Prop where
 h0:wr.heap[w.heap.size]?=A (zM #[Q wd,J vb,J n,zF rl] 144 (0,0))
 h1:wr.heap[w.heap.size+1]?=A (zM #[J 0,zN,J 0,Q [],J 0,zN] 97 (0,0))
 h2:wr.heap[w.heap.size+1+1]?=A (zM #[J vb,v,J 0,Q [],J 0,zN] 97 (0,0))
 own:wr.ownsRow (w.heap.size+1+1+1) 9 1 v j (ab (fC K 1 j))
 bS:zB w wr
 aJ:∀ i,i<j->kN K (1+i)=2
def IA.step {K:List (By × Nat)} {c:By} {g:Int} {n:Nat} {b:Bool} {w wr:zW} {v:zV} {j:Nat} (h:IA K c g n b w wr v j) {o:Obj} {w2:zW} {v':zV} (d:(wr.alloc o).grownBy w2 v.ownBlock) (m:kN K (1+j)=2)
  (k:w2.ownsRow (w.heap.size+1+1+1) 9 1 v' (j+1) (ab (fC K 1 j)++[Q (nT K (1+j))])):IA K c g n b w (w2.setCell (X (w.heap.size+1+1) 1) v') v' (j+1):=by
 have l:=(cz.1 h.h2).1;have a:∀ q,q<=w.heap.size+1+1->w2.heap[q]?=wr.heap[q]?:=λq f=>by
  rw [d.block q (by simp;omega) (λe=>by have:=(h.own.lt q e.symm).1;omega),cj _ _ _ (by omega)]
 refine ⟨?_,?_,?_,?_,?_,?_⟩
 .rw [cY _ _ _ _ (by show w.heap.size≠w.heap.size+1+1;omega),a _ (by omega)];exact h.h0
 .rw [cY _ _ _ _ (by show w.heap.size+1≠w.heap.size+1+1;omega),a _ (by omega)];exact h.h1
 .rw [aj ((a _ (by omega)).t h.h2)];rfl
 .rw [Iz,show ab (fC K 1 j++[nT K (1+j)])=ab (fC K 1 j)++[Q (nT K (1+j))] by simp [ab]];exact eo k (by omega)
 .exact ((h.bS.alloc h.bS.size _).grown d (by have:=h.bS.size;simp;omega) (λq f=>by have:=(h.own.lt q f).1;omega)).setCell (p:=X (w.heap.size+1+1) 1) (by show w.heap.size<=w.heap.size+1+1;omega) _
 .intro i r;by_cases e:i=j
  .subst e;exact m
  .exact h.aJ i (by omega)
def IA.drew {K:List (By × Nat)} {a:By} {c:Int} {n:Nat} {b:Bool} {w wr:zW} {v:zV} {j:Nat} (h:IA K a c n b w wr v j):IA K a c n b w wr.drew v j:=⟨h.h0,h.h1,h.h2,h.own,h.bS.drew,h.aJ⟩
def IA.line {K:List (By × Nat)} {b:By} {a:Int} {n:Nat} {f:Bool} {w wr:zW} {v:zV} {j:Nat} (h:IA K b a n f w wr v j) {o:Obj} {w2:zW} (c:(wr.alloc o).grownBy w2 v.ownBlock):w2.heap[w.heap.size+1+1]?=A (zM #[J a,v,J 0,Q [],J 0,zN] 97 (0,0)):=by
 have d:=(cz.1 h.h2).1;rw [c.block _ (by simp;omega) (λe=>by have:=(h.own.lt _ e.symm).1;omega),cj _ _ _ (by omega)];exact h.h2
def UT (s:By) (K:List (By × Nat)) (bl cp z n:Nat) (wd:By) (F:Int) (R:Bool) (w:zW) (hE:Env w) (aa:11<=z) (JD:fV K) (hN:G K<=120) (C:∀ t p,(t,p)∈K->G t<=19) (hn:n<=2) (h1:1<=G K)
  (k:w.ownsRow z 134 4 (zS bl (G K+1) cp) (G K+1) (iY K++sM (G s))) :
  zC prog 64 #[zd #[Q wd,J F,J n,zF R],B (A (X bl 4)) (G K) (cp - 1)] w (yW (G s) K F n R w):=by
 obtain ⟨i0,hi,ad,QV,af⟩:=fe yU;have ay:=(r6 k 0 (by omega)).2.2.2.2;have Q0:=(r6 k 0 (by omega)).2.2.2.1;have HO:=I k;have HE:=I hE;have AW:=I JD;have HL:=I C;clear k hE JD C;go_in;go_wp2_with fail;go_loopg [1,13] n (λgk s1 ag wr=>∃ (j:Nat) (Q4:zV),j<=n/\n<=j+gk/\1+j<=G K/\ag=J j/\s1=B (A (X bl ((1+j)*4))) (G K - j) (cp - 1 - j)/\Hid (IA K wd F n R w wr Q4 j))
 case atStart=>
  refine ⟨0,zN,bE _,by omega,by omega,rfl,rfl,⟨?_,?_,?_,?_,og _ _ _ _,λba hi=>by omega⟩⟩
  .rw [cj _ _ _ (by simp;omega),cj _ _ _ (by simp)];exact bL w _
  .rw [cj _ _ _ (by simp)];exact bc w _ _ _
  .exact fZ w _ _ _ _
  .exact eW _ _ _ _
 case round=>
  obtain ⟨j,Q4,hj,xA,Q6,rfl,rfl,D⟩:=hrel;obtain ⟨m,P,N,rfl⟩:∃ m P N,Q4=B m P N:=b7 D.o.own;have a4:=D.o.bS.size;obtain ⟨⟨a0,a1,a2,a3⟩,⟨b0,b1,b2,b3⟩,ak⟩:=aX D.o.h0;obtain ⟨⟨k0,k1,k2,k3,k4,k5⟩,⟨f0,f1,f2,f3,f4,f5⟩,V⟩:=bJ D.o.h1;obtain ⟨⟨l0,l1,l2,l3,l4,l5⟩,⟨g0,g1,g2,g3,g4,g5⟩,Cm⟩:=bJ D.o.h2;obtain ⟨c0,c1,c2,_,_⟩:=r6 HO.o (1+j) Q6;have d0:=(D.o.bS.cell (p:=X bl ((1+j)*4)) Q0).t c0;have d1:=(D.o.bS.cell (p:=X bl ((1+j)*4+1)) Q0).t c1;have d2:=(D.o.bS.cell (p:=X bl ((1+j)*4+2)) Q0).t c2;have am:bl≠w.heap.size:=(by omega);have al:bl≠w.heap.size+1:=(by omega);have RY:bl≠w.heap.size+1+1:=(by omega);have an:w.heap.size≠bl:=(by omega);have ao:w.heap.size+1≠bl:=(by omega);have ar:w.heap.size+1+1≠bl:=(by omega);clear c0 c1 c2;by_cases ac:j<n
  .have QT:(j:Int)<(n:Int):=(by omega);by_cases M:kN K (1+j)=2
   .have Tn:1+j<G K:=CJ (by omega);have HI:(kN K (1+j) != 2)=false:=(by simp [M]);have U:=I M;obtain ⟨x,g⟩:∃ x,G K - j=x+2:=⟨G K - j - 2,by omega⟩;obtain ⟨y,S⟩:∃ y,cp - 1 - j=y+2:=⟨cp - 1 - j - 2,by omega⟩;have a9:x<=y:=(by omega);have Q5:(0:Int)<(x:Int)+2:=(by omega);have a5:(0:Int)<=(x:Int):=(by omega);have a8:(x:Int)<=(y:Int):=(by omega);rw [g,S];have E:=I (And.intro g S);clear M g S;generalize q0:nT K (1+j)=r at *;have nn:=I q0;clear q0;have T:=I D.o.drew;have B0:=I (λv (hg:(wr.drew.alloc (zM #[Q r] 9)).grownBy v (B m P N).ownBlock)=>T.o.line hg);have Tt:=I (λv (hg:(wr.drew.alloc (zM #[Q r] 9)).grownBy v (B m P N).ownBlock)=>hg.cell (a:=X bl ((1+j)*4+2)) (v:=Q r) ((nu (cj wr.drew _ _ (by show bl<wr.heap.size;omega))).t d2) (λhk=>by have:=(T.o.own.lt bl hk.symm).1;omega));go_wp2_with fail
    go_region_law ((refine yw _ (by rfl) (.tmp 28) (.tmp 33) 24 (by rfl) (w.heap.size+1+1+1) 9 i0 (Q []) 1 16 underlying24 hi ad QV af rfl (by decide) (B m P N) j (ab (fC K 1 j)) (by rfl) (T.o.own.alloc _) (yh wr.heap.size) 1 1 [Q r] (by rfl) rfl (λln q4 l=>bC wr.drew [Q r] 9 ln q4 l) (λq4 hu=>by simp at hu;subst hu;rfl) (by omega) (by unfold maxLen;omega) (by omega) (by simp;omega) (wr.heap.size+1) (by simp) ?_;intro g' au v q5 f ax vQ;obtain ⟨⟨m0,m1,m2,m3,m4,m5⟩,⟨q,n1,n2,n3,n4,n5⟩,aJ⟩:=bJ (B0.o _ f);have av:=Tt.o _ f;have B1:=I q5;have B2:=I f;clear q5 f))
    all_goals have HS:=I (T.o.step B2.o U.o (by rw [nn.o];exact B1.o))
    all_goals go_wp2
    all_goals go_roundg (n - (j+1))
    all_goals try (case measure=>omega)
    all_goals exact ⟨j+1,_,by omega,by omega,by omega,by go_num,by obtain ⟨e1,e2⟩:=E.o;rw [show (1+(j+1))*4=(1+j)*4+4 by omega,show (G K) - (j+1)=x+1 by omega,show cp - 1 - (j+1)=y+1 by omega],HS⟩
   .have HI:(kN K (1+j) != 2)=true:=(by simp [M]);have HR:=I (show mZ (G s) K F n R (.err F 3 (eF (G s) K (1+j))) from zR ⟨j,ac,D.o.aJ,M,rfl⟩);obtain ⟨x,g⟩:∃ x,G K - j=x+1:=⟨G K - j - 1,by omega⟩;have Q5:(0:Int)<(x:Int)+1:=(by omega);rw [g];clear M g;generalize eF (G s) K (1+j)=cn at *;go_wp2_with fail
    go_region
    all_goals go_wp2
    all_goals refine aK (v:=zp #[zd #[J F,zN,J 0,Q [],J 0,zN],J 3,J cn]) (by simp [results,results64,go_sem,k0,k1,k2,k3,k4,k5,V]) rfl ?_
    all_goals exact ⟨_,HR.o,rfl,(kU D.o.bS _ (by omega) _ _ _ _ _ _).drew⟩
  .have QT:¬ (j:Int)<(n:Int):=(by omega);obtain rfl:j=n:=(by omega);cases R with
   | true=>
    by_cases M:kN K (1+j)=18
    .have Tn:1+j<G K:=CJ (by omega);obtain ⟨x,g⟩:∃ x,G K - j=x+2:=⟨G K - j - 2,by omega⟩;obtain ⟨y,S⟩:∃ y,cp - 1 - j=y+2:=⟨cp - 1 - j - 2,by omega⟩;have o:=I D.o.bS;have H:=I (show zC prog 97 #[zd #[J F,B m P N,J 0,Q [],J 0,zN],B (A (X bl ((1+j)*4))) (x+2) (y+2)] wr (R9 F m P N (G s) (K.drop (1+j+1)) wr) from
      UQ F m P N (G s) (K.drop (1+j+1)) bl (1+j) x y wr (by rw [d0,M]) (by omega) (by omega) λw1 hW=>by
       have hb:=o.o.t (hW.m o.o.size);have:=io s K bl cp (1+j+1) z w1 (HE.o.next hb) aa AW.o hN (by omega) HL.o (aZ HO.o hb);rw [show (aL (G s) K).length - (1+j+1)=x+1 by rw [kP];omega,show cp - (1+j+1)=y+1 by omega,show (1+j+1)*4=(1+j)*4+4 by omega] at this;exact this)
     rw [g,S];have U:=I M;clear M g S;go_wp2_with (go_at_call 97;refine H.o.m ?_;rintro hk u ⟨d,(⟨p,q1,q3,q2,q,rfl,hp,b⟩|⟨q,rfl,b⟩|⟨er,p,q,rfl,Cg,b⟩)⟩<;>apply Hid.o)
     .have HP:=I hp;clear hp;have h:=I (show zB w u from o.o.t (d.m o.o.size));have vb:=I d;have E:=I b;obtain ⟨⟨Y,Z,a,c,e,i⟩,⟨r0,r1,r2,r3,r4,r5⟩,W⟩:=bJ ((d.block (w.heap.size+1) V).t D.o.h1);clear d b H;apply I;go_wp2;refine aK (v:=zp #[zd #[J F,B m P N,J p.k,Q p.nm,J p.n,B q1 q3 q2],J 0,J 0]) (by simp [results,results64,go_sem,Y,Z,a,c,e,i,W]) rfl ?_;obtain ⟨O,L,x3,x4,x5⟩:=E.o;refine ⟨.ok F (fC K 1 j) (A p),zZ ⟨D.o.aJ,zZ (zZ (zZ ⟨rfl,U.o,0,0,q,x4,?_,zZ (zZ ⟨rfl,rfl,p,?_,?_,?_,rfl⟩)⟩))⟩,⟨m,P,N,q1,q3,q2,rfl,?_,?_⟩,kU h.o _ (by omega) _ _ _ _ _ _⟩
      .rw [show 2+j=1+j+1 by omega];exact x5
      .rw [show 2+j=1+j+1 by omega];exact O
      .rw [show 2+j=1+j+1 by omega];exact L
      .rw [L];exact x3
      .rw [Av];exact dS (eo (eo (eo (eo (eo (eo (aZ D.o.own vb.o) (by omega)) (by omega)) (by omega)) (by omega)) (by omega)) (by omega)) (by omega)
      .refine (HP.o.next λln l=>?_).wide λln l=>?_
       .have:=l.1;rw [Qa _ _ _ (by omega)]
       .have h1:=l.1;have h2:=l.2;simp;omega
     .have h:=I (show zB w u from o.o.t (d.m o.o.size));have vb:=I d;have E:=I b;obtain ⟨⟨Y,Z,a,c,e,i⟩,⟨r0,r1,r2,r3,r4,r5⟩,W⟩:=bJ ((d.block (w.heap.size+1) V).t D.o.h1);clear d b H;apply I;go_wp2;refine aK (v:=zp #[zd #[J F,zN,J 0,Q [],J 0,zN],J 7,J 0]) (by simp [results,results64,go_sem,Y,Z,a,c,e,i,W]) rfl ?_;obtain ⟨O,L,x3⟩:=E.o;refine ⟨.err F 7 0,zZ ⟨D.o.aJ,zZ (zZ (zZ ⟨rfl,U.o,0,0,q,L,?_,zZ (zR ⟨rfl,rfl,?_,rfl⟩)⟩))⟩,rfl,kU h.o _ (by omega) _ _ _ _ _ _⟩
      .rw [show 2+j=1+j+1 by omega];exact x3
      .rw [show 2+j=1+j+1 by omega];exact O
     .have w2:=I Cg;clear Cg;have h:=I (show zB w u from o.o.t (d.m o.o.size));have vb:=I d;have E:=I b;obtain ⟨⟨Y,Z,a,c,e,i⟩,⟨r0,r1,r2,r3,r4,r5⟩,W⟩:=bJ ((d.block (w.heap.size+1) V).t D.o.h1);clear d b H;apply I;go_wp2;refine aK (v:=zp #[zd #[J F,zN,J 0,Q [],J 0,zN],J er,J p]) (by simp [results,results64,go_sem,Y,Z,a,c,e,i,W]) rfl ?_;obtain ⟨O,L⟩:=E.o;refine ⟨.err F er p,zZ ⟨D.o.aJ,zZ (zZ (zZ ⟨rfl,U.o,er,p,q,O,?_,zR ⟨w2.o,rfl⟩⟩))⟩,rfl,kU h.o _ (by omega) _ _ _ _ _ _⟩;rw [show 2+j=1+j+1 by omega];exact L
    .obtain ⟨x,g⟩:∃ x,G K - j=x+1:=⟨G K - j - 1,by omega⟩;obtain ⟨y,S⟩:∃ y,cp - 1 - j=y+1:=⟨cp - 1 - j - 1,by omega⟩;have o:=I D.o.bS;have H:=I (UR F m P N bl (1+j) x y (eF (G s) K (1+j)) (kN K (1+j)) M wr d0 d1 (by omega));rw [g,S];have U:=I M;clear M g S;go_wp2_with (go_at_call 97;refine H.o.m ?_;unfold Qb;rintro hk u ⟨rfl,d⟩;apply Hid.o);have h:=I (show zB w u from o.o.t (d.m o.o.size));obtain ⟨⟨Y,Z,a,c,e,i⟩,⟨r0,r1,r2,r3,r4,r5⟩,W⟩:=bJ ((d.block (w.heap.size+1) V).t D.o.h1);clear d H;apply I;go_wp2;refine aK (v:=zp #[zd #[J F,zN,J 0,Q [],J 0,zN],J 3,J (eF (G s) K (1+j):Int)]) (by simp [results,results64,go_sem,Y,Z,a,c,e,i,W]) rfl ?_;exact ⟨.err F 3 _,zZ ⟨D.o.aJ,zZ (zZ (zR ⟨rfl,U.o,rfl⟩))⟩,rfl,kU h.o _ (by omega) _ _ _ _ _ _⟩
   | false=>
    obtain ⟨x,g⟩:∃ x,G K - j=x+1:=⟨G K - j - 1,by omega⟩;have Q5:(0:Int)<(x:Int)+1:=(by omega);rw [g];clear g;by_cases M:kN K (1+j)=0
    .have HI:(kN K (1+j) != 0)=false:=(by simp [M]);have U:=I M;clear M;go_wp2;refine aK (v:=zp #[zd #[J F,B m P N,J 0,Q [],J 0,zN],J 0,J 0]) (by simp [results,results64,go_sem,k0,k1,k2,k3,k4,k5,V]) rfl ?_;refine ⟨.ok F (fC K 1 j) none,zZ ⟨D.o.aJ,zZ (zR ⟨rfl,U.o,rfl⟩)⟩,⟨m,P,N,rfl,?_⟩,kU D.o.bS _ (by omega) _ _ _ _ _ _⟩;rw [Av];exact dS (eo (eo (eo (eo (eo (eo D.o.own (by omega)) (by omega)) (by omega)) (by omega)) (by omega)) (by omega)) (by omega)
    .have HI:(kN K (1+j) != 0)=true:=(by simp [M]);have HR:=I (show mZ (G s) K F j false (.err F 3 (eF (G s) K (1+j))) from zZ ⟨D.o.aJ,zR ⟨rfl,M,rfl⟩⟩);clear M;generalize eF (G s) K (1+j)=cn at *;go_wp2_with fail
     go_region
     all_goals go_wp2
     all_goals refine aK (v:=zp #[zd #[J F,zN,J 0,Q [],J 0,zN],J 3,J cn]) (by simp [results,results64,go_sem,k0,k1,k2,k3,k4,k5,V]) rfl ?_
     all_goals exact ⟨_,HR.o,rfl,(kU D.o.bS _ (by omega) _ _ _ _ _ _).drew⟩
def Le (s:By) (w:zW) (K:List (By × Nat)) (f:Env w) (d:G s<=120) (h:aI s=(K,none)) :
  zC prog 42 #[Q s] w λe C=>∃ v,e=zP (zp #[v,J 0,J 0])/\C.ownsRow w.heap.size 134 4 v (G K+1) (iY K++sM (G s))/\zB w C:=by
 refine (je s w f d).m λe C c=>?_;obtain ⟨_,a,g⟩:=c;rw [h] at a;obtain ⟨v,b,i⟩:=a rfl;exact ⟨v,b,i,g⟩
def Fy (s:By) (w:zW) (p:Nat) (b:Env w) (c:G s<=120) (h:(aI s).2=A p) :
  zC prog 42 #[Q s] w λe C=>e=zP (zp #[zN,J 2,J p])/\zB w C:=
 (je s w b c).m λ_ _ a=>⟨a.1 p h,a.2.2⟩
def L8 (s a:By) (err:Int) (at_:Nat):Prop:=
 (120<G s/\a=[]/\err=1/\at_=0) \/
 (G s<=120/\∃ p,(aI s).2=A p/\a=[]/\err=2/\at_=p) \/
 (G s<=120/\∃ K C p b,aI s=(K,none)/\b<=1000000/\cF (G s) b [aH 82 0] K=A (C,p) /\
  ((C≠0/\a=[]/\err=C/\at_=p)\/(C=0/\p=0/\100<(bV K (G K)).length/\a=[]/\err=7/\at_=0) \/
   (C=0/\p=0/\¬ 100<(bV K (G K)).length/\a=bV K (G K)/\err=0/\at_=0)))
def yY (s a:By) (err:Int) (at_:Nat) (w:zW) (h:L8 s a err at_):zC prog 80 #[Q s] w (nc w a err at_):=by
 rcases h with ⟨h,rfl,rfl,rfl⟩|⟨e,p,j,rfl,rfl,rfl⟩|⟨e,K,C,p,f,d,c,b,h⟩
 .exact FS s w h
 .exact FW s w _ e j
 .rcases h with ⟨i,rfl,rfl,rfl⟩|⟨rfl,rfl,g,rfl,rfl,rfl⟩|⟨rfl,rfl,g,rfl,rfl,rfl⟩
  .exact FY s w K e d f c _ _ b i
  .have:=iv s w K e d f c b;rw [aB g] at this;exact this
  .have:=iv s w K e d f c b;rw [aA g] at this;exact this
def Je (s:By) (w:zW) (e:Ending) (w':zW):Prop:=
 ∃ a err C,L8 s a err C/\e=zP (zp #[Q a,J err,J ((C:Nat):Int)])/\zB w w'
def L9 (s:By) (w:zW) (h:120<G s):zC prog 17 #[Q s] w (Je s w):=by
 have H:=I (Ds s w h);have a:=I (show L8 s [] 1 0 from zR ⟨h,rfl,rfl,rfl⟩);go_in;go_wp2_with (go_at_call 42;refine H.o.m ?_;rintro e C ⟨rfl,rfl⟩)
 go_ret3
 exact ⟨[],1,0,a.o,rfl,aM _ _⟩
def QY (s:By) (w:zW) (p:Nat) (c:Env w) (a:G s<=120) (h:(aI s).2=A p):zC prog 17 #[Q s] w (Je s w):=by
 have H:=I (Fy s w p c a h);have d:=I (show L8 s [] 2 p from zZ (zR ⟨a,p,h,rfl,rfl,rfl⟩));clear h;go_in;go_wp2_with (go_at_call 42;refine H.o.m ?_;rintro e C ⟨rfl,b⟩)
 go_ret3
 exact ⟨[],2,p,d.o,rfl,b⟩
def QZ (s:By) (w:zW) (K:List (By × Nat)) (L:Env w) (S:G s<=120) (h:aI s=(K,none)):zC prog 17 #[Q s] w (Je s w):=by
 have r:bW (G s) s 0=(K,none):=h;have aa:G K<=G s:=by have:=fT (G s) s 0;rw [r] at this;exact this
 have E:fV K:=λt p P=>by
  have O:(t,p)∈(bW (G s) s 0).1:=by rw [r];exact P
  exact ⟨⟨x9 _ _ _ t p O,lz _ _ _ t p O⟩,xj _ _ _ t p O⟩
 have n:∀ t p,(t,p)∈K->G t<=19:=λt p P=>by
  have O:(t,p)∈(bW (G s) s 0).1:=by rw [r];exact P
  exact pW _ _ _ t p O
 have H:=I (Le s w K L S h);have Q4:=I (pZ K n (G K));have Y:=I E;have D:=I n;have U:=I L;have w2:=I h;have M:=L.size;have j:=I (λN p o (g:o<=1000000) (b:cF (G s) o [aH 82 0] K=A (N,p)) (a:By) (err:Int) (Q0:Nat) hh=>(zZ (zZ ⟨S,K,N,p,o,h,g,b,hh⟩):L8 s a err Q0));clear h r E n L;go_in;go_wp2_with (go_at_call 42;refine mo H.o ?_;rintro e w1 ⟨Q5,rfl,x,m⟩);have Q6:=I (yN s K Q5 w.heap.size w1 (U.o.next m) M Y.o (by omega) D.o x);have z:=I m;have er:=I (U.o.next m);have y:=m.size;clear x m;apply I;go_wp2_with (go_at_call 43;refine Q6.o.m ?_;rintro e v ⟨d,(⟨p,a,l,c,o,rfl,T,V,R,f,g,b⟩|⟨o,rfl,f,g,b⟩|⟨N,p,o,rfl,u,g,b⟩)⟩<;>apply Hid.o)
 .have F:=I (show L8 s (bV K (G K)) 0 0 from j.o 0 0 o g b (bV K (G K)) 0 0 (zZ (zZ ⟨rfl,rfl,f,rfl,rfl,rfl⟩)));have k:=I (z.o.t (d.m y));have Z:=d.size;have i:zB v (v.alloc (zM #[J p.k,Q p.nm,J p.n,B a l c] 89)):=(aM _ _).alloc (aG _) _;have C:=I (uy p a l c _ (T.next λq W=>i.block q W.2) (λq W=>bG W.2 i.size) ((er.o.next d).next i) (V.good Y.o) (by rw [R];have:=Q4.o;omega));rw [R] at C;clear T V R f b d i;apply I;go_wp2_with (go_at_call 44;refine C.o.m ?_;rintro e w3 ⟨rfl,i⟩)
  go_ret3
  exact ⟨_,0,0,F.o,rfl,(k.o.alloc (by omega) _).t (i.m (by simp;omega))⟩
 .have F:=I (show L8 s [] 7 0 from j.o 0 0 o g b [] 7 0 (zZ (zR ⟨rfl,rfl,f,rfl,rfl,rfl⟩)));have k:=I (z.o.t (d.m y));have Z:=d.size;clear f b d;apply I;go_wp2
  go_ret3
  exact ⟨[],7,0,F.o,rfl,k.o.alloc (by omega) _⟩
 .have F:=I (show L8 s [] N p from j.o N p o g b [] N p (zR ⟨u,rfl,rfl,rfl⟩));have k:=I (z.o.t (d.m y));have Z:=d.size;have QV:(N == 0)=false:=bo.2 u;have QT:(N != 0)=true:=by simp [u]
  clear b d u;apply I;go_wp2
  go_ret3
  exact ⟨[],N,p,F.o,rfl,k.o.alloc (by omega) _⟩
def An (s:By) (w:zW) (a:Env w):zC prog 17 #[Q s] w (Je s w):=by
 by_cases b:G s<=120
 .cases h:(aI s).2 with
  | none=>exact QZ s w (aI s).1 a b (by rw [<- h])
  | some p=>exact QY s w p a b h
 .exact L9 s w (by omega)
def As (s:By) (w:zW) (c:Env w):zC prog 55 #[Q s] w λe D=>e=zP (zF true)/\zB w D:=by
 have H:=I (An s w c);have h:=I c;clear c;go_in;go_wp2_with (go_at_call 17;refine mo H.o ?_;rintro e E ⟨a,err,C,f,rfl,b⟩);have g:=I f;clear f;apply I;go_wp2_with (go_at_call 80;refine (yY s a err C _ g.o).m ?_;rintro e F ⟨rfl,d⟩);go_ret;exact ⟨rfl,b.t (d.m b.size)⟩
section
attribute [local go_sem] ap aq
def aQ:List (By × Int × Nat × Bool):=
 [([115,101,116],1,1,true),([100,101,108,101,116,101],2,1,false),([114,101,110,97,109,101],3,2,false),([98,101,103,105,110],4,0,false),
  ([99,111,109,109,105,116],5,0,false),([99,97,110,99,101,108],6,0,false),([117,110,100,111],7,0,false),([114,101,100,111],8,0,false),
  ([118,97,108,117,101],9,1,false),([114,117,108,101],10,1,false),([108,105,115,116],11,0,false),([111,114,100,101,114],12,0,false)]
def IB:Array zV:=(aQ.flatMap λx=>[Q x.1,J x.2.1,J (x.2.2.1:Int),zF x.2.2.2]).toArray
def jZ (w:zW):Prop:=∃ t C,w.heap[0]?=A (zM IB t C)
def jZ.next {w w':zW} (h:jZ w) (a:Env w) (b:zB w w'):jZ w':=by
 obtain ⟨t,C,h⟩:=h;exact ⟨t,C,(b.block _ (by have:=a.size;omega)).t h⟩
def UU (k:Nat) (h:k<12) (w:zW):(Instr.index 145 (zd IB) (J k)).run prog w=.ok (zd #[Q ((aQ[k]'h).1),J (aQ[k]'h).2.1,J ((aQ[k]'h).2.2.1:Int),zF (aQ[k]'h).2.2.2]) w:=by
 rcases (show k=0\/k=1\/k=2\/k=3\/k=4\/k=5\/k=6\/k=7\/k=8\/k=9\/k=10\/k=11 by omega) with h|h|h|h|h|h|h|h|h|h|h|h<;>subst h<;>kernel_rfl
def ip (len:Nat) (K:List (By × Nat)) (r:tR):Prop:=
 (∃ k,∃ h:k<12,(aQ[k]'h).1=nT K 0/\mZ len K (aQ[k]'h).2.1 (aQ[k]'h).2.2.1 (aQ[k]'h).2.2.2 r) \/
 ((∀ k (h:k<12),(aQ[k]'h).1≠nT K 0)/\r=.err 0 3 (eF len K 0))
def ew (s:By) (r:tR):Prop:=
 (120<G s/\r=.err 0 1 0)\/(G s<=120/\∃ p,(aI s).2=A p/\r=.err 0 2 p)\/(G s<=120/\∃ K,aI s=(K,none)/\ip (G s) K r)
def Bq (s:By) (w:zW) (e:Ending) (w':zW):Prop:=∃ r,ew s r/\sL r w e w'/\zB w w'
def iT:∀ x,x∈aQ->x.1≠[]/\x.2.2.1<=2:=by decide
def sL.form {r:tR} {W w1:zW} {e:Ending} (h:sL r W e w1):∃ (b:Int) (d:Option zD) (ln cn:Nat) (k:Int) (nm:By) (n:Int) (a:Option zD) (l c:Nat) (er p:Int),e=zP (zp #[zd #[J b,B d ln cn,J k,Q nm,J n,B a l c],J er,J p]):=
 match r,h with
 | .err b er p,h=>⟨b,none,0,0,0,[],0,none,0,0,er,p,h⟩
 | .ok b f none,⟨d,ln,cn,h,_⟩=>⟨b,d,ln,cn,0,[],0,none,0,0,0,0,h⟩
 | .ok b f (some t),⟨d,ln,cn,a,l,c,h,_⟩=>⟨b,d,ln,cn,_,_,_,a,l,c,0,0,h⟩
def sL.put {r:tR} {w W w1:zW} {e:Ending} (h:sL r W e w1) (b:w.heap.size<W.heap.size) (v0 v1 v2 v3 v4 v5:zV) :
  sL r w e ((((((w1.setCell (yh w.heap.size) v0).setCell (X w.heap.size 1) v1).setCell (X w.heap.size 2) v2).setCell (X w.heap.size 3) v3).setCell (X w.heap.size 4) v4).setCell (X w.heap.size 5) v5):=by
 have own:∀ {d D C n xs},w1.ownsRow W.heap.size 9 1 (B d D C) n xs->((((((w1.setCell (yh w.heap.size) v0).setCell (X w.heap.size 1) v1).setCell (X w.heap.size 2) v2).setCell (X w.heap.size 3) v3).setCell (X w.heap.size 4) v4).setCell (X w.heap.size 5) v5).ownsRow w.heap.size 9 1 (B d D C) n xs:=λh=>
  dS (eo (eo (eo (eo (eo (eo h b) b) b) b) b) b) (lF b)
 match r,h with
 | .err j E p,h=>exact h
 | .ok j k none,h=>
  obtain ⟨d,D,C,f,g⟩:=h;exact ⟨d,D,C,f,own g⟩
 | .ok j k (some t),h=>
  obtain ⟨d,D,C,a,l,c,f,g,m⟩:=h;refine ⟨d,D,C,a,l,c,f,own g,(m.next λq i=>?_).wide λq i=>?_⟩
  .have:=i.1;rw [Qa _ _ _ (by omega)]
  .have f:=i.1;have g:=i.2;simp;omega
def Qd (s:By) (w:zW) (h:120<G s):zC prog 46 #[Q s] w (Bq s w):=by
 have H:=I (λW=>Ds s W h);have a:=I (show ew s (.err 0 1 0) from zR ⟨h,rfl⟩);clear h;go_in;go_wp2_with (go_at_call 42;refine (H.o _).m ?_;rintro e C ⟨rfl,rfl⟩);refine aK (v:=zp #[zd #[J 0,zN,J 0,Q [],J 0,zN],J 1,J 0]) (by simp [results,results46,go_sem]) rfl ?_;exact ⟨_,a.o,rfl,(aM _ _).alloc (aG _) _⟩
def UW (s:By) (w:zW) (p:Nat) (d:Env w) (b:G s<=120) (h:(aI s).2=A p):zC prog 46 #[Q s] w (Bq s w):=by
 have H:=I (λW (a:zB w W)=>Fy s W p (d.next a) b h);have f:=I (show ew s (.err 0 2 p) from zZ (zR ⟨b,p,h,rfl⟩));clear h;go_in;go_wp2_with (go_at_call 42;refine mo (H.o _ (bZ _)) ?_;rintro e N ⟨rfl,a⟩);obtain ⟨⟨D,E,F,K,L,M⟩,⟨j,g,i,l,k,m⟩,C⟩:=bJ ((a.block w.heap.size (by simp)).t (bL w _));have c:=I (show zB w N from (bZ _).t (a.m (by simp)));clear a H;apply I;go_wp2;refine aK (v:=zp #[zd #[J 0,zN,J 0,Q [],J 0,zN],J 2,J p]) (by simp [results,results46,go_sem,D,E,F,K,L,M,C]) rfl ?_;exact ⟨_,f.o,rfl,kU c.o _ (aG _) _ _ _ _ _ _⟩
def At (s:By) (w:zW) (K:List (By × Nat)) (M:Env w) (he:jZ w) (hl:G s<=120) (h:aI s=(K,none)) (QV:fV K) (hN:G K<=120) (o:∀ t p,(t,p)∈K->G t<=19):zC prog 46 #[Q s] w (Bq s w):=by
 have Q0:=I (λW (z:zB w W)=>Le s W K (M.next z) hl h);have HA:=I (show ∀ r,ip (G s) K r->ew s r from λr S=>zZ (zZ ⟨hl,K,h,S⟩));have U:=I (λk (H:k<12) W (z:zB w W) D T B0 (aa:11<=B0) (C:1<=G K) (d:W.ownsRow B0 134 4 (zS D (G K+1) T) (G K+1) (iY K++sM (G s)))=>UT s K D T B0 (aQ[k]'H).2.2.1 (aQ[k]'H).1 (aQ[k]'H).2.1 (aQ[k]'H).2.2.2 W (M.next z) aa QV hN o (iT _ (bt H)).2 C d);have HE:=I M;have JD:=I he;clear h QV o M he;go_in;go_wp2_with (go_at_call 42;refine mo (Q0.o _ (bZ _)) ?_;rintro q5 w1 ⟨ar,rfl,d,z⟩);have hR:=(z.block w.heap.size (by simp)).t (bL w _);have P:=I (show zB w w1 from (bZ _).t (z.m (by simp)));obtain ⟨D,T,rfl,ac,Q4⟩:=d.form (by omega);obtain ⟨c0,c1,c2,_,ak⟩:=r6 d 0 (by omega);simp only [jC,cS] at c0 c1 c2;simp at ac;have HO:=I d;have HR:=I hR;obtain ⟨tt,fr,hm⟩:=JD.o.next HE.o P.o;have HM:=I hm;have PS:(0:Int)<(G K:Int)+1:=(by omega);clear z d Q0 hR hm;apply I;go_wp2_with (refine wpList_load_row rfl 145 _ rfl 0 rfl tt _ fr _ HM.o underlying145 rfl (by kernel_rfl) ?_);go_loopg [9,22] 12 (λgk _ h0 wr=>∃ k:Nat,k<=12/\12<=k+gk/\h0=J k/\Hid (zB w1 wr)/\Hid (∀ j (x:j<12),j<k->(aQ[j]'x).1≠nT K 0))
 case atStart=>exact ⟨0,by omega,by omega,rfl,aM _ _,λ_ _ h=>by omega⟩
 case round=>
  obtain ⟨k,H,xA,rfl,f,E⟩:=hrel;have D5:=f.o.size;have bl:=P.o.size;have d1:=(f.o.cell (p:=X D 1) Q4).t c1;have d2:=(f.o.cell (p:=X D 2) Q4).t c2;have ag:D<wr.heap.size:=(by omega);have q2:w.heap.size<wr.heap.size:=(by omega);clear c0 c1 c2;by_cases b:k<12
  .have al:=UU k b;have QT:(k:Int)<12:=(by omega);by_cases F:(aQ[k]'b).1=nT K 0
   .have ad:(nT K 0 == (aQ[k]'b).1)=true:=(by simp [F]);have C:1<=G K:=by
     rcases Nat.eq_zero_or_pos (G K) with Y|Y
     .have:=(iT _ (bt b)).1;rw [F] at this;simp [nT,Y] at this
     .exact Y
    obtain ⟨y,rfl⟩:∃ y,T=y+2:=⟨T - 2,by omega⟩;have m:=I (show zB w wr from P.o.t (f.o.m bl));have HC:=I (λW (hW:zB wr W)=>U.o k b W (m.o.t (hW.m m.o.size)) D (y+2) w.heap.size HE.o.size C (dS (aZ (aZ HO.o f.o) hW) (by simp)));have R:=I (λr (S:mZ (G s) K (aQ[k]'b).2.1 (aQ[k]'b).2.2.1 (aQ[k]'b).2.2.2 r)=>HA.o r (zR ⟨k,b,F,S⟩));have TC:(1:Int)<=(G K:Int)+1:=(by omega);have ao:(G K:Int)+1<=(y:Int)+2:=(by omega);clear F E;generalize aQ[k]'b=Z at *;obtain ⟨L,N,n,O⟩:=Z;simp only at *;go_wp2_with fail
    go_region
    have u:=I (show zB wr (wr.alloc (zM #[Q L,J N,J n,zF O] 144)).drew.drew from (bZ _).drew.drew);have hd:=I (λw2 (g:Below (wr.alloc (zM #[Q L,J N,J n,zF O] 144)).drew.drew.heap.size (wr.alloc (zM #[Q L,J N,J n,zF O] 144)).drew.drew w2)=>bJ ((g.block w.heap.size (by simp;omega)).t ((u.o.block w.heap.size q2).t ((f.o.block w.heap.size (by omega)).t HR.o))));have BI:=I (HC.o _ u.o);go_wp2_with fail
    go_region_with (first|(go_at_call 64;refine BI.o.m ?_;rintro q5 w2 ⟨r,S,i,g⟩;obtain ⟨SX,an,ln,cn,k',q0,n',q3,af,q4,er,p,rfl⟩:=i.form;obtain ⟨⟨a,c,e,l,q,v⟩,⟨r0,r1,r2,r3,r4,r5⟩,V⟩:=hd.o _ g;have q1:=I S;have HH:=I i;have Jr:=I g;clear S i g))
    all_goals go_wp2
    all_goals refine aK (v:=zp #[zd #[J SX,B an ln cn,J k',Q q0,J n',B q3 af q4],J er,J p]) (by simp [results,results46,go_sem,a,c,e,l,q,v,V]) rfl ?_
    all_goals exact ⟨_,R.o _ q1.o,HH.o.put (by simp;omega) _ _ _ _ _ _,kU (m.o.t ((u.o.t (Jr.o.m (by simp))).m m.o.size)) _ (aG _) _ _ _ _ _ _⟩
   .have ad:(nT K 0 == (aQ[k]'b).1)=false:=bo.2 λh=>F h.symm;have cp:=I (show ∀ j (x:j<12),j<k+1->(aQ[j]'x).1≠nT K 0 from λj x am=>by
     rcases cC j k with C|C
     .exact E.o j x C
     .obtain rfl:j=k:=(by omega);exact F)
    clear F E U;generalize aQ[k]'b=Z at *;obtain ⟨L,N,n,O⟩:=Z;simp only at *;go_wp2_with fail
    go_region
    go_wp2;go_roundg (12 - (k+1))
    case measure=>omega
    case rel=>exact ⟨k+1,by omega,by omega,by go_num,(f.o.alloc D5 _).drew,cp⟩
  .have QT:¬ (k:Int)<12:=(by omega);obtain ⟨⟨a,c,e,l,q,v⟩,⟨r0,r1,r2,r3,r4,r5⟩,V⟩:=bJ ((f.o.block w.heap.size (by omega)).t HR.o);have R:=I (HA.o (.err 0 3 (eF (G s) K 0)) (zZ ⟨λj x=>E.o j x (by omega),rfl⟩));have Q6:=I (show zB w wr from P.o.t (f.o.m bl));clear E U;generalize eF (G s) K 0=Q5 at *;go_wp2_with fail
   go_region
   all_goals go_wp2
   all_goals refine aK (v:=zp #[zd #[J 0,zN,J 0,Q [],J 0,zN],J 3,J Q5]) (by simp [results,results46,go_sem,a,c,e,l,q,v,V]) rfl ?_
   all_goals exact ⟨_,R.o,rfl,(kU Q6.o _ (aG _) _ _ _ _ _ _).drew⟩
def Dt (s:By) (w:zW) (e:Env w) (d:jZ w):zC prog 46 #[Q s] w (Bq s w):=by
 by_cases g:120<G s
 .exact Qd s w g
 .have b:G s<=120:=(by omega);cases h:(aI s).2 with
  | some p=>exact UW s w p e b h
  | none=>
   have f:aI s=((aI s).1,none):=by rw [<- h]
   have i:bW (G s) s 0=((aI s).1,none):=f;have a:∀ t p,(t,p)∈(aI s).1->(t,p)∈(bW (G s) s 0).1:=λt p c=>c;refine At s w (aI s).1 e d b f (λt p c=>⟨⟨x9 _ _ _ t p (a t p c),lz _ _ _ t p (a t p c)⟩,xj _ _ _ t p (a t p c)⟩) ?_ (λt p c=>pW _ _ _ t p (a t p c));exact bf (fT (G s) s 0) b
end
def cI (w:zW) (v:zV) (nm:List By) (w':zW):Prop:=w'.ownsRow (w.heap.size+2) 9 1 v (G nm) (ab nm)/\zB w w'
def cI.set {w w':zW} {v:zV} {nm:List By} (h:cI w v nm w') {q:Nat} (a:w.heap.size<=q/\q<w.heap.size+2) (j:Nat) (u:zV):cI w v nm (w'.setCell (X q j) u):=⟨eo h.1 a.2,h.2.setCell a.1 u⟩
def P3 (e:Nat) (c:Option zD) (b f:Nat) (nm:List By) (w:zW)
  (k:∀ W,zB w W->zC prog 105 #[zJ e] W λr F=>∃ C E D,r=zP (B C E D)/\F.ownsRow W.heap.size 9 1 (B C E D) (G nm) (ab nm)/\zB W F) :
  zC prog 70 #[zJ e,zd #[J 12,B c b f,J 0,Q [],J 0,zN]] w λr F=>∃ C E D,r=zP (zd #[J 0,J 0,Q [],B C E D,J 0,J 0])/\F.ownsRow w.heap.size 9 1 (B C E D) (G nm) (ab nm)/\zB w F:=by
 have h:=I (k ((w.alloc (zM #[J 12,B c b f,J 0,Q [],J 0,zN] 97)).alloc (zM #[J 0,J 0,Q [],zN,J 0,J 0] 39)) (aY _ _ _));clear k;go_in;go_wp2_with (go_at_call 105;refine mo h.o ?_;rintro r P ⟨C,E,D,rfl,a,d⟩);have j:P.heap[w.heap.size+1]?=A (zM #[J 0,J 0,Q [],zN,J 0,J 0] 39 (0,0)):=(d.block _ (by simp)).t (bc w _ _ _);obtain ⟨⟨p,q,s,y,t,x⟩,⟨f0,f1,f2,f3,f4,f5⟩,n⟩:=bJ j;have hF:=aj (aj (aj (aj (aj (aj (aj j 3 (B C E D)) 0 (J 0)) 1 (J 0)) 2 (Q [])) 3 (B C E D)) 4 (J 0)) 5 (J 0);obtain ⟨⟨H,K,L,M,N,O⟩,_,i⟩:=bJ (show _=A (Obj.cells #[J 0,J 0,Q [],B C E D,J 0,J 0] 39 (0,0)) from hF);have o:=I (And.intro H (And.intro K (And.intro L (And.intro M (And.intro N (And.intro O i))))));have g:=I (show cI w (B C E D) nm (((((((P.setCell (X (w.heap.size+1) 3) (B C E D)).setCell (yh (w.heap.size+1)) (J 0)).setCell (X (w.heap.size+1) 1) (J 0)).setCell (X (w.heap.size+1) 2) (Q [])).setCell (X (w.heap.size+1) 3) (B C E D)).setCell (X (w.heap.size+1) 4) (J 0)).setCell (X (w.heap.size+1) 5) (J 0)) by
  have m:zB w P:=(aY _ _ _).t (d.m (by simp;omega));have l:((w.alloc (zM #[J 12,B c b f,J 0,Q [],J 0,zN] 97)).alloc (zM #[J 0,J 0,Q [],zN,J 0,J 0] 39)).heap.size=w.heap.size+2:=(by simp);rw [l] at a
  iterate 7 refine cI.set ?_ (by omega) _ _
  exact ⟨a,m⟩)
 clear H K L M N O i hF j d h a;apply I;go_wp2;generalize (((((((P.setCell (X (w.heap.size+1) 3) (B C E D)).setCell (yh (w.heap.size+1)) (J 0)).setCell (X (w.heap.size+1) 1) (J 0)).setCell (X (w.heap.size+1) 2) (Q [])).setCell (X (w.heap.size+1) 3) (B C E D)).setCell (X (w.heap.size+1) 4) (J 0)).setCell (X (w.heap.size+1) 5) (J 0))=u at *;obtain ⟨H,K,L,M,N,O,i⟩:=o.o;refine aK (v:=zd #[J 0,J 0,Q [],B C E D,J 0,J 0]) (by simp [results,results70,go_sem,H,K,L,M,N,O]) (by simp [go_sem]) ?_;exact ⟨C,E,D,rfl,dS g.o.1 (by omega),g.o.2⟩
def UF (e:Nat) (c:Option zD) (b d:Nat) (tx:By) (w:zW)
  (j:∀ W,zB w W->zC prog 104 #[zJ e] W λr M=>r=zP (Q tx)/\zB W M) :
  zC prog 70 #[zJ e,zd #[J 11,B c b d,J 0,Q [],J 0,zN]] w λr M=>r=zP (zd #[J 0,J 0,Q tx,zN,J 0,J 0])/\zB w M:=by
 have f:=I (j ((w.alloc (zM #[J 11,B c b d,J 0,Q [],J 0,zN] 97)).alloc (zM #[J 0,J 0,Q [],zN,J 0,J 0] 39)) (aY _ _ _));clear j;go_in;go_wp2_with (go_at_call 104;refine mo f.o ?_;rintro r L ⟨rfl,a⟩);have i:L.heap[w.heap.size+1]?=A (zM #[J 0,J 0,Q [],zN,J 0,J 0] 39 (0,0)):=(a.block _ (by simp)).t (bc w _ _ _);obtain ⟨⟨n,o,p,u,q,t⟩,⟨f0,f1,f2,f3,f4,f5⟩,l⟩:=bJ i;have hF:=aj (aj (aj (aj (aj (aj (aj i 2 (Q tx)) 0 (J 0)) 1 (J 0)) 2 (Q tx)) 3 (zN)) 4 (J 0)) 5 (J 0);obtain ⟨⟨C,D,E,F,H,K⟩,_,h⟩:=bJ (show _=A (Obj.cells #[J 0,J 0,Q tx,zN,J 0,J 0] 39 (0,0)) from hF);have m:=I (And.intro C (And.intro D (And.intro E (And.intro F (And.intro H (And.intro K h))))));have g:=I (show zB w (((((((L.setCell (X (w.heap.size+1) 2) (Q tx)).setCell (yh (w.heap.size+1)) (J 0)).setCell (X (w.heap.size+1) 1) (J 0)).setCell (X (w.heap.size+1) 2) (Q tx)).setCell (X (w.heap.size+1) 3) (zN)).setCell (X (w.heap.size+1) 4) (J 0)).setCell (X (w.heap.size+1) 5) (J 0)) by
  have k:zB w L:=(aY _ _ _).t (a.m (by simp;omega))
  iterate 7 refine Below.setCell ?_ (by show w.heap.size<=w.heap.size+1;omega) _
  exact k)
 clear C D E F H K h hF i a f;apply I;go_wp2;generalize (((((((L.setCell (X (w.heap.size+1) 2) (Q tx)).setCell (yh (w.heap.size+1)) (J 0)).setCell (X (w.heap.size+1) 1) (J 0)).setCell (X (w.heap.size+1) 2) (Q tx)).setCell (X (w.heap.size+1) 3) (zN)).setCell (X (w.heap.size+1) 4) (J 0)).setCell (X (w.heap.size+1) 5) (J 0))=s at *;obtain ⟨C,D,E,F,H,K,h⟩:=m.o;refine aK (v:=zd #[J 0,J 0,Q tx,zN,J 0,J 0]) (by simp [results,results70,go_sem,C,D,E,F,H,K]) (by simp [go_sem]) ?_;exact ⟨rfl,g.o⟩
end Go.Proofs.YtihgojcfpnhelaaGreatDoor
