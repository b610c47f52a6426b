import Derived.Test.YtihgojcfpnhelaaGreatDoorHl
import Derived.Test.YtihgojcfpnhelaaGreatDoorDa
set_option maxRecDepth 100000
set_option maxHeartbeats 4000000
set_option linter.all false
namespace Go.Proofs.YtihgojcfpnhelaaGreatDoor
open Go renaming World->zW,Value->zV,Calls->zC,Addr->zD
open Go.RowKit Go.Proofs.Tryz
open List renaming length→G
section
section
section
variable {len:Nat} {ts:List (By × Nat)} {b bl cp:Nat}
def ajW (AU:fV ts) (F:Nat) (IH:zv len ts b bl cp F) (k n i d:Nat) (x:1<=n) (z:n<=5) (e:Int) (w:zW) (hd:d<=6) (hF:10*(G ts - i)+(7 - n)<F+1) (hS:St len ts w b bl cp i d e)
  (acF:k<20) (hk:((aL len ts)[i]'hS.rd.lt).1=(k:Int)) (ha:kY.getD k 0≠(n:Int)) (T:ku (lv n) d (aw ts i)=[aH (lv (n+1)) d,aH (tl n) d]) :
  zC prog 93 #[zJ b,zI n] w (dQ len ts [aH (lv n) d] (λf p=>bh ts n i f p) (2*n) b bl cp i d e w):=by
 have hs:=hS.rd.size;have hle:=hS.le;have H:=I (λw1 (g:cX w1 b bl cp (aL len ts) i (d:Int) e)=>ou w1 b bl cp _ i d e g);have HS:=I hS;have HK:=I hk;have hc:=hS.env.DU k acF;have xE:=gI w _ hc;have Jj:(0:Int)<=(k:Int):=ae;have hk2:(k:Int)<20:=ae;generalize kY.getD k 0=av at *;have hab:(av == (n:Int))=false:=bo.2 ha;have hn6:((n:Int) == 6)=false:=bo.2 ae;have SK:=I IH;have AW:=I AU;have U:=I T;have y:((n+1:Nat):Int)=(n:Int)+1:=ae;have HL1:=I (λw1 (g:St len ts w1 b bl cp i d e)=>IH (n+1) i d e w1 ae ae hd ae g);rw [y] at HL1;have ajX:=I y;clear hk ha IH AU T y;go_in;go_wp2_with (first|(go_at_call 127;refine (H.o _ (HS.o.rd.next (bZ _))).m ?_;rw [HK.o];rintro e w' ⟨rfl,rfl⟩)|(go_at_call 93;refine (HL1.o _ (HS.o.next (bZ _))).m ?_;rintro r w1 (⟨i1,M,p1,a1,Z,c1,rfl,JT,Tr,hS1,Tw,o,hm1,ahk⟩|⟨i1,M,d1,er,R,P,s1,a1,Z,c1,rfl,hr1,L,o,hm1,W⟩)<;>apply Hid.o))
 ·have A:=o.blk (q:=w.heap.size) (bL w _) ae;have C:=(cz.1 A).1;have A1:=I (show Jc len ts b bl cp w w1.heap.size d e (w1.alloc (.cells #[zI p1.k,zG p1.nm,zI p1.n,.slice a1 Z c1] 87)) i1 p1 a1 Z c1 from
   ⟨hS1.next (bZ _),(((Kp.of (bZ _) hs).t o).next (bZ _) ae),(cj _ _ _ C).t A,bL _ _,(JT.next λq hq=>cj _ _ _ hq.2).wide (λq hq=>by have h1:=hq.1;have h2:=hq.2;simp at h1 ⊢;omega),C,hs⟩)
  have A4:=I (show lQ len ts [aH (lv n) d] [aH (tl n) d] i i1 (M+1) from λK q=>by
   rw [show M+1+q=M+q+1 from ae,vL,ow len ts (lv n) d i (M+q) K ae,U.o];exact ahk (aH (tl n) d::K) q)
  have A5:=I (show bh ts (if n=3 then 4 else n) i i1 p1 by
   by_cases h3:n=3
   ·subst h3;exact Tr
   ·rw [aA h3];exact bh.up n i i1 p1 x z Tr)
  clear hS1 ahk hc JT Tr o A;apply I;go_wp2;go_loopg [7] (G ts+1 - i1) (λgk N wr=>(N=.bool true/\∃ (f m:Nat) (p:Pt) (a:Option zD) (l c:Nat),G ts+1<=f+gk/\i<f/\m+2*n+1<=20*(f - i)/\Hid (Jc len ts b bl cp w w1.heap.size d e wr f p a l c)/\Hid (bh ts (if n=3 then 4 else n) i f p)/\Hid (lQ len ts [aH (lv n) d] [aH (tl n) d] i f m))\/(N=.bool false/\∃ (kk nn:Int) (s:By) (a:Option zD) (l c:Nat),Hid (VL len ts [aH (lv n) d] (2*n) b bl cp w w1.heap.size i wr kk nn s a l c)))
  case atStart=>exact Or.inl ⟨rfl,i1,M+1,p1,a1,Z,c1,ae,ae,ae,A1,A5,A4⟩
  case round=>
   rcases hrel with ⟨rfl,f,m,p,a,l,c,xA,hii,hm,D,HDe,NL⟩|⟨rfl,kk,nn,s,a,l,c,B⟩
   ·have hlt:=D.o.st.rd.lt;have asb:=D.o.st.le;obtain ⟨k',yR,hkk,ajY,hk0⟩:=AW.o.cls hlt;have HCL:=I yR;have HK':=I hkk;have H':=I (ou wr b bl cp _ f d e D.o.st.rd);have hc':=D.o.st.env.agj k' ajY;have o:(0:Int)<=(k':Int):=ae;have ase:(k':Int)<20:=ae;have HBS:=I (Vn _ k' yR n x z);obtain ⟨⟨k0,k1,k2,k3⟩,⟨f0,f1,f2,f3⟩,hsz⟩:=aX D.o.res;obtain ⟨⟨q0,q1,q2,q3⟩,⟨g0,g1,g2,g3⟩,Y⟩:=aX D.o.sO;have hgw:=D.o.gw;clear yR hkk hk0;by_cases u:b5 (aw ts f) (dc n)=true
    ·obtain ⟨hbw,hbn,E⟩:=Lz n x z _ u;have hi':f<(G ts):=by
      rcases cC f (G ts) with h|h
      ·exact h
      ·exact absurd (kV ts f h) E
     rw [HBS.o.2 u] at hc';have HT:=I (ye wr b bl cp _ f d e D.o.st.rd zR);have D6:=I (QH n x z d _ u);have HBT:=I u;have hnb:((n:Int) == (n:Int))=true:=aq;clear u hbw hbn E;go_wp2_with (first|(go_at_call 127;refine H'.o.m ?_;rw [HK'.o];rintro r w' ⟨rfl,rfl⟩)|(go_at_call 130;refine HT.o.m ?_;rw [HK'.o];rintro r w2 ⟨rfl,hr2,J⟩;apply Hid.o));have hS2:St len ts w2 b bl cp (f+1) d e:=D.o.st.down (d':=d) hr2 J.bS;have O:=I (show w2.heap[w.heap.size]?=_/\w2.heap[w1.heap.size]?=_ from ⟨J.blk D.o.res ae,J.blk D.o.sO ae⟩);have OX:=I J;have Cm:=J.size;have HL2:=I (λw3 (g:St len ts w3 b bl cp (f+1) d e)=>SK.o (n+1) (f+1) d e w3 ae ae hd ae g);rw [ajX.o] at HL2;have HS2:=I hS2;generalize ((aL len ts)[f]).2.2.2=tn at *;generalize ((aL len ts)[f]).2.2.1=tx at *;generalize ((aL len ts)[f]).2.1=tp at *;clear hr2 J hS2 hc' k0 k1 k2 k3 f0 f1 f2 f3 q0 q1 q2 q3 g0 g1 g2 g3;apply I;go_wp2_with (go_at_call 93;refine (HL2.o _ (HS2.o.next (aY _ _ _))).m ?_;rintro r w3 (⟨Q,t,p3,a3,l3,c3,rfl,wJ,hD3,hS3,hi3,j,hm3,X⟩|⟨Q,t,d3,er,kk3,nn3,s3,a3,l3,c3,rfl,hr3,L,j,hm3,V⟩)<;>apply Hid.o)
     ·obtain ⟨⟨q0,q1,q2,q3⟩,⟨g0,g1,g2,g3⟩,aj1⟩:=aX (j.blk ((tC _ _ _ ae).t O.o.2) ae);obtain ⟨⟨x0,x1,x2,x3⟩,⟨y0,y1,y2,y3⟩,anw⟩:=aX (j.blk (q:=w2.heap.size+1) agA ae);obtain ⟨⟨z0,z1,z2,z3⟩,_,anx⟩:=aX (j.blk (q:=w2.heap.size) ((cj _ _ _ aq).t (bL w2 _)) ae);obtain ⟨⟨k0,k1,k2,k3⟩,⟨f0,f1,f2,f3⟩,oU⟩:=aX (j.blk ((tC _ _ _ ae).t O.o.1) ae);have e1:w1.heap.size≠w2.heap.size+1:=ae;have e2:w2.heap.size+1≠w1.heap.size:=ae;have e3:w.heap.size≠w1.heap.size:=ae;have e4:w1.heap.size≠w.heap.size:=ae;have e5:w.heap.size≠w2.heap.size+1:=ae;have e6:w2.heap.size+1≠w.heap.size:=ae;have e7:w2.heap.size≠w1.heap.size:=ae;have e8:w1.heap.size≠w2.heap.size:=ae;have B1:=I (D.o.more OX.o j hS3 wJ k' (zI p3.k) (zG p3.nm) (zI p3.n) (.slice a3 l3 c3));have B2:=I (show bh ts n i Q (.bin k' p p3) from bh.more n i f Q k' p p3 x z HDe.o HBT.o HCL.o hD3);have B4:=I (show lQ len ts [aH (lv n) d] (if n=3 then [] else [aH (tl n) d]) i Q (m+2+t) from λK q=>by
       rw [show m+2+t+q=m+(t+q+1+1) from ae,NL.o K (t+q+1+1),vL,ow len ts (tl n) d f (t+q+1) K ae,D6.o,gT,mU len ts _ f (t+q) _ (AW.o.tk hi') rfl];exact X ((if n=3 then [] else [aH (tl n) d])++K) q)
      clear wJ hD3 hS3 j X;apply I;by_cases h3:n=3
      ·have h3b:((n:Int) == 3)=true:=yM;have B5:=I (show kH len ts [aH (lv n) d] i Q (m+2+t) from λK q=>by have:=B4.o K q;rw [aB h3] at this;exact this);clear h3;go_wp2;refine aK (v:=.tuple #[.agg #[zI k',zG [],zI 0,zS w3.heap.size 2 2],.bool true]) ZL rfl ?_;rw [<- DV _ _ w.heap.size aaV];exact B1.o.post (m:=m+2+t) B2.o ae ae B5.o _ _ _ _
      ·have h3b:((n:Int) == 3)=false:=bo.2 ae;have B5:=I (show lQ len ts [aH (lv n) d] [aH (tl n) d] i Q (m+2+t) by have:=B4.o;rw [aA h3] at this;exact this);have B6:=I (show bh ts (if n=3 then 4 else n) i Q (.bin k' p p3) by rw [aA h3];exact B2.o);clear h3;go_wp2;go_roundg (G ts+1 - Q)
       case measure=>omega
       case rel=>exact Or.inl ⟨rfl,Q,m+2+t,.bin k' p p3,some ⟨w3.heap.size,0,none⟩,2,2,ae,ae,ae,B1,B6,B5⟩
     ·obtain ⟨⟨q0,q1,q2,q3⟩,⟨g0,g1,g2,g3⟩,aj1⟩:=aX (j.blk ((tC _ _ _ ae).t O.o.2) ae);obtain ⟨⟨x0,x1,x2,x3⟩,⟨y0,y1,y2,y3⟩,anw⟩:=aX (j.blk (q:=w2.heap.size+1) agA ae);obtain ⟨⟨z0,z1,z2,z3⟩,_,anx⟩:=aX (j.blk (q:=w2.heap.size) ((cj _ _ _ aq).t (bL w2 _)) ae);obtain ⟨⟨k0,k1,k2,k3⟩,⟨f0,f1,f2,f3⟩,oU⟩:=aX (j.blk ((tC _ _ _ ae).t O.o.1) ae);have e1:w1.heap.size≠w2.heap.size+1:=ae;have e2:w2.heap.size+1≠w1.heap.size:=ae;have e3:w.heap.size≠w1.heap.size:=ae;have e4:w1.heap.size≠w.heap.size:=ae;have e5:w.heap.size≠w2.heap.size+1:=ae;have e6:w2.heap.size+1≠w.heap.size:=ae;have e7:w2.heap.size≠w1.heap.size:=ae;have e8:w1.heap.size≠w2.heap.size:=ae;have B1:=I (D.o.fail (S:=[aH (lv n) d]) (c1:=2*n) (i:=i) (m:=m+2+t) OX.o j hr3 L ae (λK q=>by
       rw [show m+2+t+q=m+(t+q+1+1) from ae,NL.o K (t+q+1+1),vL,ow len ts (tl n) d f (t+q+1) K ae,D6.o,gT,mU len ts _ f (t+q) _ (AW.o.tk hi') rfl];exact V ((if n=3 then [] else [aH (tl n) d])++K) q) k' (zI kk3) (zG s3) (zI nn3) (.slice a3 l3 c3) (.cells #[zI p.k,zG p.nm,zI p.n,.slice a l c,zI kk3,zG s3,zI nn3,.slice a3 l3 c3] 87))
      clear hr3 L j V;apply I;by_cases h3:n=3
      ·have h3b:((n:Int) == 3)=true:=yM;clear h3;go_wp2;refine aK (v:=.tuple #[.agg #[zI k',zG [],zI 0,zS w3.heap.size 2 2],.bool false]) ZL rfl ?_;rw [<- DV _ _ w.heap.size aaV];exact B1.o.post _ _ _ _
      ·have h3b:((n:Int) == 3)=false:=bo.2 ae;clear h3;go_wp2;go_roundg 0
       case measure=>omega
       case rel=>exact Or.inr ⟨rfl,(k':Int),0,[],some ⟨w3.heap.size,0,none⟩,2,2,B1⟩
    ·have ahl:b5 (aw ts f) (dc n)=false:=by simpa using u
     have E:uv.getD k' 0≠(n:Int):=λh=>u (HBS.o.1 h);generalize uv.getD k' 0=bv at hc' E;have hbb:(bv == (n:Int))=false:=bo.2 E;have B5:=I (show kH len ts [aH (lv n) d] i f (m+1) from λK q=>by
      rw [show m+1+q=m+(q+1) from ae,NL.o K (q+1),vL,ow len ts (tl n) d f q K ae,IX n x z d _ ahl];rfl)
     have B6:=I (show bh ts n i f p by
      have:=HDe.o;by_cases h3:n=3
      ·subst h3;exact bh.up 3 i f p x z this
      ·rw [aA h3] at this;exact this)
     have e3:w.heap.size≠w1.heap.size:=ae;have e4:w1.heap.size≠w.heap.size:=ae;clear u ahl E HBS;go_wp2_with (go_at_call 127;refine H'.o.m ?_;rw [HK'.o];rintro r w' ⟨rfl,rfl⟩);refine aK (v:=.tuple #[.agg #[zI p.k,zG p.nm,zI p.n,.slice a l c],.bool true]) JC rfl ?_;exact D.o.post (m:=m+1) B6.o ae ae B5.o _ _ _ _
   ·obtain ⟨⟨k0,k1,k2,k3⟩,⟨f0,f1,f2,f3⟩,hsz⟩:=aX B.o.res;obtain ⟨⟨q0,q1,q2,q3⟩,⟨g0,g1,g2,g3⟩,Y⟩:=aX B.o.sO;go_wp2;refine aK (v:=.tuple #[.agg #[zI kk,zG s,zI nn,.slice a l c],.bool false]) JC rfl ?_;exact B.o.post _ _ _ _
 ·have A:=o.blk (q:=w.heap.size) (bL w _) ae;have C:=(cz.1 A).1;have A1:=I (show VL len ts [aH (lv n) d] (2*n) b bl cp w w1.heap.size i (w1.alloc (.cells #[zI R,zG s1,zI P,.slice a1 Z c1] 87)) R P s1 a1 Z c1 from
   ⟨⟨i1,M+1,d1,er,hr1.next (bZ _),L,ae,λK q=>by
    rw [show M+1+q=M+q+1 from ae,vL,ow len ts (lv n) d i (M+q) K ae,U.o];exact W (aH (tl n) d::K) q⟩,(((Kp.of (bZ _) hs).t o).next (bZ _) ae),(cj _ _ _ C).t A,bL _ _,hs⟩)
  clear hr1 L o W A hc;apply I;go_wp2;go_loopg [7] 0 (λ_ N wr=>N=.bool false/\Hid (VL len ts [aH (lv n) d] (2*n) b bl cp w w1.heap.size i wr R P s1 a1 Z c1))
  case atStart=>exact ⟨rfl,A1⟩
  case round=>
   obtain ⟨rfl,B⟩:=hrel;obtain ⟨⟨k0,k1,k2,k3⟩,⟨f0,f1,f2,f3⟩,hsz⟩:=aX B.o.res;obtain ⟨⟨q0,q1,q2,q3⟩,⟨g0,g1,g2,g3⟩,Y⟩:=aX B.o.sO;go_wp2;refine aK (v:=.tuple #[.agg #[zI R,zG s1,zI P,.slice a1 Z c1],.bool false]) JC rfl ?_;exact B.o.post _ _ _ _
def acD (c:fV ts) (F:Nat):zv len ts b bl cp F:=by
 induction F with
 | zero=>intro n i d e w _ _ _ h;omega
 | succ F s=>
  intro n i d e w f o r hF p;have q:=p.rd.lt;obtain ⟨k,j,g,a,v⟩:=c.cls q;by_cases m:kY.getD k 0=(n:Int)
  ·have t:zw n (aw ts i):=(xw _ k j n f o).1 m;have B:i<(G ts):=by
    rcases t with ⟨_,h⟩|⟨_,h⟩
    ·exact uE ai h
    ·exact uE ai h
   exact VK k n i d e w p a g m _ _ _ λw1 l=>Ez c F s n i d e w1 r B t hF l
  ·by_cases z:n=6
   ·subst z;have u:aw ts i≠[45]:=λh=>m ((xw _ k j 6 ae ae).2 (Or.inr ⟨rfl,h⟩));exact adD k i d e w p a g m _ _ _ λw1 l=>agi c F s i d e w1 r u ae l
   ·have y:ku (lv n) d (aw ts i)=[aH (lv (n+1)) d,aH (tl n) d]:=
     afN n f ae d _ (λA x=>m ((xw _ k j n f o).2 (Or.inl ⟨A,x⟩)))
    exact ajW c F s k n i d f ae e w r hF p a g m y
end
end
end
section
section
def Dr (len:Nat) (ts:List (By × Nat)) (b bl cp Z:Nat) (w:zW) (r:Ending) (w':zW):Prop:=
 (∃ (p:Pt) (a:Option zD) (l c d:Nat),r=.returned (.tuple #[.agg #[zI p.k,zG p.nm,zI p.n,.slice a l c],.bool true])/\dR w' (λq=>w.heap.size<=q/\q<w'.heap.size) p a l c/\bh ts 1 Z (G ts) p/\Kp b w w'/\d<=1000000/\cF len d [aH 82 0] (ts.drop Z)=some (0,0)) \/
 (∃ (e d:Nat) (d' er k n:Int) (s:By) (a:Option zD) (l c:Nat),r=.returned (.tuple #[.agg #[zI k,zG s,zI n,.slice a l c],.bool false])/\cX w' b bl cp (aL len ts) e d' er/\er≠0/\Kp b w w'/\d<=1000000/\cF len d [aH 82 0] (ts.drop Z)=some (er,eF len ts e))
section
variable {len:Nat} {ts:List (By × Nat)} {b bl cp Z:Nat}
def afr (B:fV ts) (w:zW) (R:St len ts w b bl cp Z 0 0) (hN:(G ts)<=1000) :
  zC prog 61 #[zJ b] w (Dr len ts b bl cp Z w):=by
 have hs:=R.rd.size;have HL:=I (λw1 (g:St len ts w1 b bl cp Z 0 0)=>acD (len:=len) (b:=b) (bl:=bl) (cp:=cp) B (10*G ts+7) 1 Z 0 0 w1 ae ae ae ae g);have U:=I B;have HS:=I R;clear B R;go_in;go_wp2_with (go_at_call 93;refine (HL.o _ (HS.o.next (bZ _))).m ?_;rintro r w1 (⟨e,m,p,a,l,c,rfl,V,Y,i,hi',d,hm,D⟩|⟨e,m,d',er,k,nn,s,a,l,c,rfl,C,E,d,hm,L⟩)<;>apply Hid.o)
 ·have f:=d.blk (q:=w.heap.size) (bL w _) ae;obtain ⟨⟨k0,k1,k2,k3⟩,⟨f0,f1,f2,f3⟩,hsz⟩:=aX f;have T:=i.rd.lt;have hle:=i.le;have o:=i.rd.size;have HI:=I (λw2 (g:cX w2 b bl cp (aL len ts) e ((0:Nat):Int) 0) hk=>Bn w2 b bl cp _ e _ 0 0 g hk);have HN:=I (λw2 (g:cX w2 b bl cp (aL len ts) e ((0:Nat):Int) 0) hk=>P9 w2 b bl cp _ e _ 0 0 g hk);have Q:=I f;have S:=I V;have A2:=I Y;have A3:=I i;have P:=I ((Kp.of (bZ _) hs).t d);have X:=I D;clear V Y i d D f;apply I;have O:=I (A3.o.next (bZ (.cells #[zI p.k,zG p.nm,zI p.n,.slice a l c] 87)));obtain ⟨k,J,t,W,u⟩:=U.o.cls T;by_cases x:e<G ts
  ·have H:((aL len ts)[e]).1≠0:=by
    rw [t];intro h;have:k=0:=ae;exact u.1 this x
   have z:=I H;have F:=I (show cF len (m+1) [aH 82 0] (ts.drop Z)=some (3,eF len ts e) by
    have:=X.o [] 1;rw [iq] at this;refine (show cF len (m+1) [aH (lv 1) 0] (ts.drop Z)=_ from this).t ?_;rcases l7 len ts e with ⟨h,_,_⟩|⟨r,h⟩
    ·have:=eL List.length h;simp at this;omega
    ·rw [h];rfl)
   clear J t u H;go_wp2_with fail
   go_region_with (first|(go_at_call 94;refine (HN.o _ O.o.rd.drew z.o).m ?_;rintro r w2 ⟨rfl,N,n⟩;obtain ⟨⟨y0,y1,y2,y3⟩,⟨z0,z1,z2,z3⟩,hsy⟩:=aX (n.blk (q:=w.heap.size) ((cj _ _ _ hsz).t Q.o) ae);obtain ⟨⟨x0,x1,x2,x3⟩,_,hsx⟩:=aX (n.blk (q:=w1.heap.size) (bL w1 _) ae);have B1:=I N;have B2:=I n;clear N n))
   all_goals go_wp2
   all_goals refine aK (v:=.tuple #[.agg #[zI p.k,zG p.nm,zI p.n,.slice a l c],.bool false]) (by simp [results,results61,go_sem,y0,y1,y2,y3]) rfl ?_
   all_goals exact Or.inr ⟨e,m+1,_,3,_,_,p.nm,a,l,c,rfl,B1.o.ep w.heap.size _ _ _ _ hs,ai,((P.o.next (bZ _) o).drew.t B2.o).dF w.heap.size _ _ _ _ (aG _) hs,ae,F.o⟩
  ·obtain rfl:e=(G ts):=ae;have M:k=0:=u.2 x;have z:=I (show ((aL len ts)[G ts]).1=0 by rw [t,M];rfl);have F:=I (show cF len (m+1) [aH 82 0] (ts.drop Z)=some (0,0) by
    have:=X.o [] 1;rw [iq,List.drop_length] at this;exact this)
   clear J t u;have j:=I (show Dr len ts b bl cp Z w (.returned (.tuple #[.agg #[zI p.k,zG p.nm,zI p.n,.slice a l c],.bool true])) (((((w1.setCell ⟨w.heap.size,0,none⟩ (zI p.k)).setCell ⟨w.heap.size,1,none⟩ (zG p.nm)).setCell ⟨w.heap.size,2,none⟩ (zI p.n)).setCell ⟨w.heap.size,3,none⟩ (.slice a l c)).alloc (.cells #[zI p.k,zG p.nm,zI p.n,.slice a l c] 87)).drew from by
    have A:=P.o.dF w.heap.size (zI p.k) (zG p.nm) (zI p.n) (.slice a l c) (aG _) hs;refine Or.inl ⟨p,a,l,c,m+1,rfl,(S.o.next λq K=>?_).wide λq K=>?_,A2.o,(A.next (bZ _) (by rw [js];exact o)).drew,ae,F.o⟩
    ·have y:=K.1;simp at y;exact (cj _ _ _ (by rw [js];exact K.2)).t (lx _ _ _ _ _ _ ae)
    ·have y:=K.1;have hq2:=K.2;simp at y;refine ⟨ae,?_⟩;show q<(World.alloc _ _).heap.size;simp;omega)
   go_wp2_with fail
   go_region_with (first|(go_at_call 94;refine (HI.o _ O.o.rd.drew z.o).m ?_;rintro r w2 ⟨rfl,rfl⟩))
   all_goals go_wp2
   all_goals refine aK (v:=.tuple #[.agg #[zI p.k,zG p.nm,zI p.n,.slice a l c],.bool true]) ZN rfl ?_
   all_goals exact j.o
 ·have f:=d.blk (q:=w.heap.size) (bL w _) ae;obtain ⟨⟨k0,k1,k2,k3⟩,⟨f0,f1,f2,f3⟩,hsz⟩:=aX f;have o:=C.size;have S:=I C;have P:=I ((Kp.of (bZ _) hs).t d);have A6:=I E;have F:=I (show cF len m [aH 82 0] (ts.drop Z)=some (er,eF len ts e) by
   have:=L [] 0;rw [iq] at this;exact this)
  clear C d L E f;have j:=I (show Dr len ts b bl cp Z w (.returned (.tuple #[.agg #[zI k,zG s,zI nn,.slice a l c],.bool false])) (((((w1.setCell ⟨w.heap.size,0,none⟩ (zI k)).setCell ⟨w.heap.size,1,none⟩ (zG s)).setCell ⟨w.heap.size,2,none⟩ (zI nn)).setCell ⟨w.heap.size,3,none⟩ (.slice a l c)).alloc (.cells #[zI k,zG s,zI nn,.slice a l c] 87)).drew from by
   have A:=P.o.dF w.heap.size (zI k) (zG s) (zI nn) (.slice a l c) (aG _) hs;exact Or.inr ⟨e,m,d',er,k,nn,s,a,l,c,rfl,((S.o.ep w.heap.size _ _ _ _ hs).next (bZ _)).drew,A6.o,(A.next (bZ _) (by rw [js];exact o)).drew,ae,F.o⟩)
  apply I;go_wp2_with fail
  go_region
  all_goals go_wp2
  all_goals refine aK (v:=.tuple #[.agg #[zI k,zG s,zI nn,.slice a l c],.bool false]) ZN rfl ?_
  all_goals exact j.o
end
def jg (ts:List (By × Nat)) (Z i:Nat):aw (ts.drop Z) i=aw ts (Z+i):=by
 simp [aw,qz]
def bh.drop {ts:List (By × Nat)} {n i j:Nat} {p:Pt} (h:bh ts n i j p):∀ Z d,i=Z+d->bh (ts.drop Z) n d (j - Z) p:=by
 induction h with
 | atom i k M v E=>
  rintro Z d rfl;have:=bh.atom (ts:=ts.drop Z) d k aN (by rw [jg];exact v) E;rw [jg] at this;rw [show Z+d+1 - Z=d+1 from ae];exact this
 | jV i j a ht _ e=>
  rintro Z d rfl;exact bh.jV d _ a GJ (e Z (d+1) ae)
 | neg i j a ht _ e=>
  rintro Z d rfl;exact bh.neg d _ a GJ (e Z (d+1) ae)
 | br i j a ht D A e=>
  rintro Z d rfl;have B:=D.lt;rw [show j+1 - Z=j - Z+1 from ae];exact bh.br d _ a GJ (e Z (d+1) ae) (by rw [jg,show Z+(j - Z)=j from ae];exact A)
 | ifs i m o f a b c ht C g u l x G y r w s=>
  rintro Z d rfl;have z:=g.lt;have H:=l.lt;have J:=G.lt;rw [show f+1 - Z=f - Z+1 from ae];exact bh.ifs d (m - Z) (o - Z) (f - Z) a b c GJ (by rw [jg];exact C) (r Z (d+1+1) ae) (by rw [jg,show Z+(m - Z)=m from ae];exact u) (w Z (m - Z+1) ae) (by rw [jg,show Z+(o - Z)=o from ae];exact x) (s Z (o - Z+1) ae) (by rw [jg,show Z+(f - Z)=f from ae];exact y)
 | up n i j a g l _ e=>
  rintro Z d rfl;exact bh.up n d _ a g l (e Z d rfl)
 | more n i j L k a b g l F hs v K q t=>
  rintro Z d rfl;have z:=F.lt;exact bh.more n d (j - Z) _ k a b g l (q Z d rfl) (by rw [jg,show Z+(j - Z)=j from ae];exact hs) (by rw [jg,show Z+(j - Z)=j from ae];exact v) (t Z (j - Z+1) ae)
def fV.drop {ts:List (By × Nat)} (h:fV ts) (Z:Nat):fV (ts.drop Z):=λt p a=>h t p (lD a)
end
end
def acE (s:By) (ts:List (By × Nat)) (bl cp f:Nat) (B0:Nat) (w:zW) (hE:Env w) (hB0:11<=B0) (H:fV ts) (hN:(G ts)<=120) (Ud:f<=G ts) (S:∀ t p,(t,p)∈ts->G t<=19) (d:w.ownsRow B0 134 4 (zS bl (G ts+1) cp) (G ts+1) (iY ts++sM (G s))) :
  zC prog 43 #[.slice (some ⟨bl,f*4,none⟩) ((aL (G s) ts).length - f) (cp - f)] w (Bo (G s) (ts.drop f) w):=by
 rw [Fw] at d;have T:(aL (G s) ts).length=G ts+1:=kP;rw [<- T] at d;rcases d.2 with ⟨_,h0⟩|⟨bl',cp',cur,heq,hbl,P,U,arQ,_⟩
 ·omega
 ·obtain ⟨rfl,rfl⟩:bl=bl'/\cp=cp':=by simpa using heq
  have A:bl<w.heap.size:=(cz.1 P).1;have HSZ:=I (pZ (ts.drop f) (λt p hm=>S t p (lD hm)) (ts.drop f).length);have Uw:=I (show St (G s) ts ((w.alloc (.cells #[zI 0,zG [],zI 0,zN] 89)).alloc (.cells #[.slice (some ⟨bl,f*4,none⟩) ((aL (G s) ts).length - f) (cp - f),zI 0,zI 0] 138)) (w.heap.size+1) bl cp f 0 0 by
   have h:=aY w (.cells #[zI 0,zG [],zI 0,zN] 89) (.cells #[.slice (some ⟨bl,f*4,none⟩) ((aL (G s) ts).length - f) (cp - f),zI 0,zI 0] 138);refine ⟨⟨?_,ae,ae,U,ae,?_,λj M=>?_⟩,hE.next h,ae⟩
   ·exact Au w _ _ _
   ·intro t ht;obtain ⟨j,M,rfl⟩:=e9 ht;obtain ⟨k,_,hk,acF,_⟩:=H.cls M;rw [hk];omega
   ·rw [h.cell A,h.cell A,h.cell A,h.cell A];refine ⟨?_,?_,?_,?_⟩
    ·rw [d.cellAt (j*4) ae];exact (uu _ j M).1
    ·rw [d.cellAt (j*4+1) ae];exact (uu _ j M).2.1
    ·rw [d.cellAt (j*4+2) ae];exact (uu _ j M).2.2.1
    ·rw [d.cellAt (j*4+3) ae];exact (uu _ j M).2.2.2)
  have HW:=I (afr H _ Uw.o ae);have HE:=I hE;have HDL:=I (show (ts.drop f).length<=(G ts) from JG);have X:=I H;clear d hE H P T;go_in;go_wp2_with (go_at_call 61;refine HW.o.m ?_;rintro r w1 (⟨p,a,l,c,Y,rfl,hp,N,o,F,g⟩|⟨Z,Y,d',er,kk,nn,sx,a,l,c,rfl,u,O,o,F,g⟩)<;>apply Hid.o)
  ·have B:=o.blk (fX w _ _ _) ae;have z:=(cz.1 B).1;have C:zB w w1:=(aY w _ _).t (o.bS.m ae);have HG:=I (N.good X.o);have N:bh (ts.drop f) 1 0 (ts.drop f).length p:=by
    have:=N.drop f 0 rfl;rw [mG];exact this
   have m:txt p=bV (ts.drop f) (ts.drop f).length:=by
    have:=(N.told (X.o.drop f) rfl).2.2;rw [this];rfl
   have J:(txt p).length<=1000000:=by rw [m];have:=HSZ.o;have:=HDL.o;omega
   have b:zB w1 (w1.alloc (.cells #[zI p.k,zG p.nm,zI p.n,.slice a l c] 87)):=(aM _ _).alloc (aG _) _;have HBd:=I (Dq p a l c _ (hp.next λq hq=>b.block q hq.2) (λq hq=>bG hq.2 b.size) ((HE.o.next C).next b) HG.o J);have Q:=I B;have V:=I C;have HP:=I hp;have HD:=I N;have x:=I m;have y:=I g;clear B C hp N m g o b J;apply I;go_wp2_with (go_at_call 62;refine HBd.o.m ?_;rintro e w2 ⟨b,(⟨i,rfl⟩|⟨i,rfl⟩)⟩<;>apply Hid.o)
   ·have E:=(b.block w.heap.size aN).t ((cj _ _ _ z).t Q.o);obtain ⟨⟨k0,k1,k2,k3⟩,⟨f0,f1,f2,f3⟩,Cm⟩:=aX E;have K:=I (show zB w w2 from (V.o.alloc ae _).t (b.m aN));have L:=I b;have D:=I i;clear b E i;apply I;go_wp2;refine aK (v:=.tuple #[.agg #[zI 0,zG [],zI 0,zN],zI 7,zI 0]) ZK rfl ?_;exact ⟨(Iy K.o w.heap.size (aG _) _ _ _ _).alloc GY _,Or.inr (Or.inl ⟨Y,rfl,by rw [<- x.o];exact D.o,F,y.o⟩)⟩
   ·have E:=(b.block w.heap.size aN).t ((cj _ _ _ z).t Q.o);obtain ⟨⟨k0,k1,k2,k3⟩,⟨f0,f1,f2,f3⟩,Cm⟩:=aX E;have K:=I (show zB w w2 from (V.o.alloc ae _).t (b.m aN));have L:=I b;have D:=I i;clear b E i;apply I;go_wp2;refine aK (v:=.tuple #[.agg #[zI p.k,zG p.nm,zI p.n,.slice a l c],zI 0,zI 0]) ZK rfl ?_;have R:=L.o.size;simp at R;refine ⟨(Iy K.o w.heap.size (aG _) _ _ _ _).alloc GY _,Or.inl ⟨p,a,l,c,Y,rfl,(HP.o.next λq hq=>?_).wide λq hq=>?_,HD.o,x.o,by rw [<- x.o];exact D.o,F,y.o⟩⟩
    ·have Gn:=hq.1;simp at Gn;rw [cj _ _ _ GY,lx _ _ _ _ _ _ ae,L.o.block q aN,cj _ _ _ hq.2]
    ·exact Gm
  ·have B:=o.blk (fX w _ _ _) ae;obtain ⟨⟨k0,k1,k2,k3⟩,⟨f0,f1,f2,f3⟩,z⟩:=aX B;have C:zB w w1:=(aY w _ _).t (o.bS.m ae);obtain ⟨c0,_,c3,_⟩:=u.cell;have l1:=(u.left Z u.lt).2.1;rw [Fx u.lt] at l1;have J:=u.lt;have hbs:=u.size;obtain ⟨n,hn⟩:∃ n,(aL (G s) ts).length - Z=n+1:=⟨(aL (G s) ts).length - Z - 1,ae⟩;rw [hn] at c0;have wR:(0:Int)<(n:Int)+1:=ae;have amE:bl≠w.heap.size:=ae;have apS:bl<w1.heap.size:=ae;have RY:w.heap.size+1≠w.heap.size:=ae;have HER:=I O;have y:=I g;have HB:=I C;generalize eF (G s) ts Z=p at *;clear u C o O g hn J B;apply I;have W:=I (show Bo (G s) (ts.drop f) w (.returned (.tuple #[.agg #[zI 0,zG [],zI 0,zN],zI er,zI p])) (((((w1.setCell ⟨w.heap.size,0,none⟩ (zI 0)).setCell ⟨w.heap.size,1,none⟩ (zG [])).setCell ⟨w.heap.size,2,none⟩ (zI 0)).setCell ⟨w.heap.size,3,none⟩ (zN)).alloc (.cells #[zI kk,zG sx,zI nn,.slice a l c] 87)).drew from
    ⟨((Iy HB.o w.heap.size (aG _) _ _ _ _).alloc GY _).drew,Or.inr (Or.inr ⟨er,p,Y,rfl,HER.o,F,y.o⟩)⟩)
   go_wp2_with fail
   go_region
   all_goals go_wp2
   all_goals refine aK (v:=.tuple #[.agg #[zI 0,zG [],zI 0,zN],zI er,zI p]) (by simp [results,results43,go_sem,k0,k1,k2,k3,z]) rfl ?_
   all_goals exact W.o
def ajk (s:By) (ts:List (By × Nat)) (v:zV) (e:Nat) (w:zW) (g:Env w) (d:11<=e) (c:fV ts) (h:(G ts)<=120) (b:∀ t p,(t,p)∈ts->G t<=19) (a:w.ownsRow e 134 4 v (G ts+1) (iY ts++sM (G s))) :
  zC prog 43 #[v] w (Bo (G s) ts w):=by
 obtain ⟨bl,cp,rfl,_⟩:=a.form ae;have f:=acE s ts bl cp 0 e w g d c h (bE _) b a;rw [List.drop_zero,jC,Nat.sub_zero,Nat.sub_zero,kP] at f;exact f
def kN (ts:List (By × Nat)) (i:Nat):Int:=if i<(G ts) then fU (aw ts i) else 0
def nT (ts:List (By × Nat)) (i:Nat):By:=if i<(G ts) then ej (aw ts i) else []
def fC (ts:List (By × Nat)) (i n:Nat):List By:=(List.range n).map λj=>nT ts (i+j)
def Iz (ts:List (By × Nat)) (i n:Nat):fC ts i (n+1)=fC ts i n++[nT ts (i+n)]:=by
 simp [fC,wB]
def CJ {ts:List (By × Nat)} {i:Nat} (h:kN ts i≠0):i<(G ts):=by
 unfold kN at h;split at h
 ·assumption
 ·exact absurd rfl h
def r6 {s:By} {ts:List (By × Nat)} {m bl cp:Nat} {w:zW} (a:w.ownsRow m 134 4 (zS bl (G ts+1) cp) (G ts+1) (iY ts++sM (G s))) (i:Nat) (q:i<=G ts) :
  w.cell? ⟨bl,i*4,none⟩=some (zI (kN ts i))/\w.cell? ⟨bl,i*4+1,none⟩=some (zI (eF (G s) ts i:Int))/\w.cell? ⟨bl,i*4+2,none⟩=some (.string ⟨(nT ts i).toArray⟩)/\bl<w.heap.size/\(G ts)+1<=cp:=by
 rw [Fw] at a;have f:(aL (G s) ts).length=G ts+1:=kP;rw [<- f] at a;rcases a.2 with ⟨_,p⟩|⟨d,c,l,g,n,e,j,k,_⟩
 ·omega
 ·obtain ⟨rfl,rfl⟩:bl=d/\cp=c:=by simpa using g
  have b:i<(aL (G s) ts).length:=ae;have e1:((aL (G s) ts)[i]).1=kN ts i:=by
   by_cases h:i<G ts
   ·rw [qY b h];simp [kN,h]
   ·rw [r7 b h];simp [kN,h]
  have o:((aL (G s) ts)[i]).2.2.1=nT ts i:=by
   by_cases h:i<G ts
   ·rw [qY b h];simp [nT,h]
   ·rw [r7 b h];simp [nT,h]
  have h:=uu _ i b;rw [e1,Fx b,o] at h;refine ⟨?_,?_,?_,(cz.1 e).1,ae⟩
  ·rw [a.cellAt (i*4) ae];exact h.1
  ·rw [a.cellAt (i*4+1) ae];exact h.2.1
  ·rw [a.cellAt (i*4+2) ae];exact h.2.2.1
inductive tR where
 | err (vb er:Int) (p:Nat)
 | ok (vb:Int) (ns:List By) (r:Option Pt)
def mZ (len:Nat) (ts:List (By × Nat)) (a:Int) (n:Nat) (b:Bool) (r:tR):Prop:=
 (∃ j,j<n/\(∀ i,i<j->kN ts (1+i)=2)/\kN ts (1+j)≠2/\r=.err a 3 (eF len ts (1+j))) \/
 ((∀ i,i<n->kN ts (1+i)=2) /\
  ((b=false/\kN ts (1+n)≠0/\r=.err a 3 (eF len ts (1+n)))\/(b=false/\kN ts (1+n)=0/\r=.ok a (fC ts 1 n) none) \/
   (b=true/\kN ts (1+n)≠18/\r=.err a 3 (eF len ts (1+n))) \/
   (b=true/\kN ts (1+n)=18/\∃ er p c,c<=1000000/\cF len c [aH 82 0] (ts.drop (2+n))=some (er,p) /\
    ((er≠0/\r=.err a er p)\/(er=0/\p=0/\100<(bV (ts.drop (2+n)) (ts.drop (2+n)).length).length/\r=.err a 7 0) \/
    (er=0/\p=0/\∃ t,bh (ts.drop (2+n)) 1 0 (ts.drop (2+n)).length t/\txt t=bV (ts.drop (2+n)) (ts.drop (2+n)).length/\¬ 100<(txt t).length/\r=.ok a (fC ts 1 n) (some t))))))
def sL (r:tR) (w:zW) (e:Ending) (w':zW):Prop:=
 match r with
 | .err f er p=>e=Qb f er p
 | .ok f b none=>∃ (d:Option zD) (ln cn:Nat),e=.returned (.tuple #[.agg #[zI f,.slice d ln cn,zI 0,zG [],zI 0,zN],zI 0,zI 0])/\w'.ownsRow w.heap.size 9 1 (.slice d ln cn) (G b) (strs b)
 | .ok f b (some t)=>∃ (d:Option zD) (ln cn:Nat) (a:Option zD) (l c:Nat),e=.returned (.tuple #[.agg #[zI f,.slice d ln cn,zI t.k,zG t.nm,zI t.n,.slice a l c],zI 0,zI 0])/\w'.ownsRow w.heap.size 9 1 (.slice d ln cn) (G b) (strs b)/\dR w' (λq=>w.heap.size<=q/\q<w'.heap.size) t a l c
def afv (len:Nat) (ts:List (By × Nat)) (b:Int) (n:Nat) (a:Bool) (w:zW) (e:Ending) (w':zW):Prop:=∃ r,mZ len ts b n a r/\sL r w e w'/\zB w w'
def eo {w:zW} {base z n q j:Nat} {e:TypeId} {v u:zV} {xs:List zV} (h:w.ownsRow base e z v n xs) (m:q<base):(w.setCell ⟨q,j,none⟩ u).ownsRow base e z v n xs:=by
 obtain ⟨c,d⟩:=h;refine ⟨c,d.imp id ?_⟩;rintro ⟨g,a,b,l,f,k,i⟩;exact ⟨g,a,b,l,f,(cY _ _ _ _ (by show g≠q;omega)).t k,i⟩
def dS {w:zW} {base a z n:Nat} {e:TypeId} {v:zV} {xs:List zV} (h:w.ownsRow base e z v n xs) (i:a<=base):w.ownsRow a e z v n xs:=by
 obtain ⟨d,j⟩:=h;refine ⟨d,j.imp id ?_⟩;rintro ⟨g,b,c,l,f,k⟩;exact ⟨g,b,c,l,bf i f,k⟩
def Av (ts:List (By × Nat)) (i n:Nat):(fC ts i n).length=n:=by simp [fC]
def b7 {w:zW} {base z n:Nat} {e:TypeId} {v:zV} {xs:List zV} (h:w.ownsRow base e z v n xs):∃ b ln cn,v=.slice b ln cn:=by
 rcases h.2 with ⟨rfl,_⟩|⟨g,c,a,rfl,_⟩
 ·exact ⟨_,_,_,rfl⟩
 ·exact ⟨_,_,_,rfl⟩
structure IA (ts:List (By × Nat)) (wd:By) (vb:Int) (n:Nat) (rl:Bool) (w wr:zW) (v:zV) (j:Nat):Prop where
 h0:wr.heap[w.heap.size]?=some (.cells #[zG wd,zI vb,zI n,.bool rl] 144 (0,0))
 h1:wr.heap[w.heap.size+1]?=some (.cells #[zI 0,zN,zI 0,zG [],zI 0,zN] 97 (0,0))
 h2:wr.heap[w.heap.size+1+1]?=some (.cells #[zI vb,v,zI 0,zG [],zI 0,zN] 97 (0,0))
 own:wr.ownsRow (w.heap.size+1+1+1) 9 1 v j (strs (fC ts 1 j))
 bS:zB w wr
 aJ:∀ i,i<j->kN ts (1+i)=2
def IA.step {ts:List (By × Nat)} {c:By} {g:Int} {n:Nat} {b:Bool} {w wr:zW} {v:zV} {j:Nat} (h:IA ts c g n b w wr v j) {o:Obj} {w2:zW} {v':zV} (d:(wr.alloc o).grownBy w2 v.ownBlock) (m:kN ts (1+j)=2)
  (k:w2.ownsRow (w.heap.size+1+1+1) 9 1 v' (j+1) (strs (fC ts 1 j)++[.string ⟨(nT ts (1+j)).toArray⟩])):IA ts c g n b w (w2.setCell ⟨w.heap.size+1+1,1,none⟩ v') v' (j+1):=by
 have l:=(cz.1 h.h2).1;have a:∀ q,q<=w.heap.size+1+1->w2.heap[q]?=wr.heap[q]?:=λq f=>by
  rw [d.block q aN (λe=>by have:=(h.own.lt q e.symm).1;omega),cj _ _ _ ae]
 refine ⟨?_,?_,?_,?_,?_,?_⟩
 ·rw [cY _ _ _ _ (by show w.heap.size≠w.heap.size+1+1;omega),a _ ae];exact h.h0
 ·rw [cY _ _ _ _ Zx,a _ ae];exact h.h1
 ·rw [aj ((a _ ae).t h.h2)];rfl
 ·rw [Iz,show strs (fC ts 1 j++[nT ts (1+j)])=strs (fC ts 1 j)++[.string ⟨(nT ts (1+j)).toArray⟩] by simp [strs]];exact eo k ae
 ·exact ((h.bS.alloc h.bS.size _).grown d (by have:=h.bS.size;simp;omega) (λq f=>by have:=(h.own.lt q f).1;omega)).setCell (p:=⟨w.heap.size+1+1,1,none⟩) Zz _
 ·intro i r;by_cases e:i=j
  ·subst e;exact m
  ·exact h.aJ i ae
def IA.drew {ts:List (By × Nat)} {a:By} {c:Int} {n:Nat} {b:Bool} {w wr:zW} {v:zV} {j:Nat} (h:IA ts a c n b w wr v j):IA ts a c n b w wr.drew v j:=⟨h.h0,h.h1,h.h2,h.own,h.bS.drew,h.aJ⟩
def IA.line {ts:List (By × Nat)} {b:By} {a:Int} {n:Nat} {f:Bool} {w wr:zW} {v:zV} {j:Nat} (h:IA ts b a n f w wr v j) {o:Obj} {w2:zW} (c:(wr.alloc o).grownBy w2 v.ownBlock):w2.heap[w.heap.size+1+1]?=some (.cells #[zI a,v,zI 0,zG [],zI 0,zN] 97 (0,0)):=by
 have d:=(cz.1 h.h2).1;rw [c.block _ aN (λe=>by have:=(h.own.lt _ e.symm).1;omega),cj _ _ _ ae];exact h.h2
def UT (s:By) (ts:List (By × Nat)) (bl cp B0 n:Nat) (wd:By) (vb:Int) (R:Bool) (w:zW) (hE:Env w) (hB0:11<=B0) (N:fV ts) (hN:(G ts)<=120) (C:∀ t p,(t,p)∈ts->G t<=19) (hn:n<=2) (h1:1<=G ts)
  (k:w.ownsRow B0 134 4 (zS bl (G ts+1) cp) (G ts+1) (iY ts++sM (G s))) :
  zC prog 64 #[.agg #[zG wd,zI vb,zI n,.bool R],.slice (some ⟨bl,4,none⟩) (G ts) (cp - 1)] w (afv (G s) ts vb n R w):=by
 obtain ⟨i0,hi,hz0,U,hz2⟩:=fe yU;have hcp:=(r6 k 0 ae).2.2.2.2;have r:=(r6 k 0 ae).2.2.2.1;have HO:=I k;have HE:=I hE;have AW:=I N;have HL:=I C;clear k hE N C;go_in;go_wp2_with fail;go_loopg [1,13] n (λgk s1 s13 wr=>∃ (j:Nat) (v:zV),j<=n/\n<=j+gk/\1+j<=G ts/\s13=zI j/\s1=.slice (some ⟨bl,(1+j)*4,none⟩) (G ts - j) (cp - 1 - j)/\Hid (IA ts wd vb n R w wr v j))
 case atStart=>
  refine ⟨0,zN,bE _,ae,ae,rfl,rfl,⟨?_,?_,?_,?_,og _ _ _ _,λi hi=>ae⟩⟩
  ·exact Yg
  ·exact YY
  ·exact fZ w _ _ _ _
  ·exact eW _ _ _ _
 case round=>
  obtain ⟨j,v,hj,xA,X,rfl,rfl,HI⟩:=hrel;obtain ⟨m,ln,cn,rfl⟩:∃ m ln cn,v=.slice m ln cn:=b7 HI.o.own;have hsz:=HI.o.bS.size;obtain ⟨⟨a0,a1,a2,a3⟩,⟨b0,b1,b2,b3⟩,agT⟩:=aX HI.o.h0;obtain ⟨⟨k0,k1,k2,k3,k4,k5⟩,⟨f0,f1,f2,f3,f4,f5⟩,Cg⟩:=bJ HI.o.h1;obtain ⟨⟨l0,l1,l2,l3,l4,l5⟩,⟨g0,g1,g2,g3,g4,g5⟩,Cm⟩:=bJ HI.o.h2;obtain ⟨c0,c1,c2,_,_⟩:=r6 HO.o (1+j) X;have d0:=(HI.o.bS.cell (p:=⟨bl,(1+j)*4,none⟩) r).t c0;have d1:=(HI.o.bS.cell (p:=⟨bl,(1+j)*4+1,none⟩) r).t c1;have d2:=(HI.o.bS.cell (p:=⟨bl,(1+j)*4+2,none⟩) r).t c2;have arR:bl≠w.heap.size:=ae;have amE:bl≠w.heap.size+1:=ae;have RY:bl≠w.heap.size+1+1:=ae;have arS:w.heap.size≠bl:=ae;have arT:w.heap.size+1≠bl:=ae;have arU:w.heap.size+1+1≠bl:=ae;clear c0 c1 c2;by_cases hlt:j<n
  ·have S:(j:Int)<(n:Int):=ae;by_cases hk:kN ts (1+j)=2
   ·have Tn:1+j<(G ts):=CJ ae;have D:(kN ts (1+j) != 2)=false:=oW;have B:=I hk;obtain ⟨x,g⟩:∃ x,G ts - j=x+2:=⟨G ts - j - 2,ae⟩;obtain ⟨y,A⟩:∃ y,cp - 1 - j=y+2:=⟨cp - 1 - j - 2,ae⟩;have hxy:x<=y:=ae;have Q:(0:Int)<(x:Int)+2:=ae;have hx2:(0:Int)<=(x:Int):=ae;have hx3:(x:Int)<=(y:Int):=ae;rw [g,A];have E:=I (And.intro g A);clear hk g A;generalize P:nT ts (1+j)=nn at *;have V:=I P;clear P;have T:=I HI.o.drew;have Z:=I (λw2 (hg:(wr.drew.alloc (.cells #[zG nn] 9)).grownBy w2 (Value.slice m ln cn).ownBlock)=>T.o.line hg);have Tt:=I (λw2 (hg:(wr.drew.alloc (.cells #[zG nn] 9)).grownBy w2 (Value.slice m ln cn).ownBlock)=>hg.cell (a:=⟨bl,(1+j)*4+2,none⟩) (v:=zG nn) ((nu (cj wr.drew _ _ (by show bl<wr.heap.size;omega))).t d2) (λe=>by have:=(T.o.own.lt bl e.symm).1;omega));go_wp2_with fail
    go_region_law ((refine yw _ dr (.tmp 28) (.tmp 33) 24 dr (w.heap.size+1+1+1) 9 i0 (zG []) 1 16 underlying24 hi hz0 U hz2 rfl ai (.slice m ln cn) j (strs (fC ts 1 j)) dr (T.o.own.alloc _) ⟨wr.heap.size,0,none⟩ 1 1 [zG nn] dr rfl (λq u K=>bC wr.drew [zG nn] 9 q u K) (λu hu=>nw) ae jM ae aN (wr.heap.size+1) aq ?_;intro g' cap' w2 z f hat vQ;obtain ⟨⟨m0,m1,m2,m3,m4,m5⟩,⟨J,n1,n2,n3,n4,n5⟩,hsm⟩:=bJ (Z.o _ f);have d2':=Tt.o _ f;have B1:=I z;have B2:=I f;clear z f))
    all_goals have HS:=I (T.o.step B2.o B.o (by rw [V.o];exact B1.o))
    all_goals go_wp2
    all_goals go_roundg (n - (j+1))
    all_goals try (case measure=>omega)
    all_goals exact ⟨j+1,_,ae,ae,ae,ez,by obtain ⟨e1,e2⟩:=E.o;rw [show (1+(j+1))*4=(1+j)*4+4 from ae,show (G ts) - (j+1)=x+1 from ae,show cp - 1 - (j+1)=y+1 from ae],HS⟩
   ·have D:(kN ts (1+j) != 2)=true:=oW;have HR:=I (show mZ (G s) ts vb n R (.err vb 3 (eF (G s) ts (1+j))) from Or.inl ⟨j,hlt,HI.o.aJ,hk,rfl⟩);obtain ⟨x,g⟩:∃ x,G ts - j=x+1:=⟨G ts - j - 1,ae⟩;have Q:(0:Int)<(x:Int)+1:=ae;rw [g];clear hk g;exact WN
  ·have S:¬ (j:Int)<(n:Int):=ae;obtain rfl:j=n:=ae;cases R with
   | true=>
    by_cases hk:kN ts (1+j)=18
    ·have Tn:1+j<(G ts):=CJ ae;obtain ⟨x,g⟩:∃ x,G ts - j=x+2:=⟨G ts - j - 2,ae⟩;obtain ⟨y,A⟩:∃ y,cp - 1 - j=y+2:=⟨cp - 1 - j - 2,ae⟩;have o:=I HI.o.bS;have H:=I (show zC prog 97 #[.agg #[zI vb,.slice m ln cn,zI 0,zG [],zI 0,zN],.slice (some ⟨bl,(1+j)*4,none⟩) (x+2) (y+2)] wr (R9 vb m ln cn (G s) (ts.drop (1+j+1)) wr) from
      UQ vb m ln cn (G s) (ts.drop (1+j+1)) bl (1+j) x y wr (by rw [d0,hk]) ae ae λW hW=>by
       have hb:=o.o.t (hW.m o.o.size);have:=acE s ts bl cp (1+j+1) B0 W (HE.o.next hb) hB0 AW.o hN ae HL.o (aZ HO.o hb);rw [show (aL (G s) ts).length - (1+j+1)=x+1 from zR,show cp - (1+j+1)=y+1 from ae,show (1+j+1)*4=(1+j)*4+4 from ae] at this;exact this)
     rw [g,A];have B:=I hk;clear hk g A;go_wp2_with (go_at_call 97;refine H.o.m ?_;rintro e w1 ⟨d,(⟨p,a,l,c,J,rfl,hp,b⟩|⟨J,rfl,b⟩|⟨er,p,J,rfl,M,b⟩)⟩<;>apply Hid.o)
     ·have HP:=I hp;clear hp;have h:=I (show zB w w1 from o.o.t (d.m o.o.size));have F:=I d;have E:=I b;obtain ⟨⟨q0,q1,q2,q3,q4,q5⟩,⟨r0,r1,r2,r3,r4,r5⟩,JD⟩:=bJ ((d.block (w.heap.size+1) Cg).t HI.o.h1);clear d b H;apply I;go_wp2;refine aK (v:=.tuple #[.agg #[zI vb,.slice m ln cn,zI p.k,zG p.nm,zI p.n,.slice a l c],zI 0,zI 0]) Rg rfl ?_;obtain ⟨O,L,x3,x4,x5⟩:=E.o;refine ⟨.ok vb (fC ts 1 j) (some p),Or.inr ⟨HI.o.aJ,Or.inr (Or.inr (Or.inr ⟨rfl,B.o,0,0,J,x4,?_,Or.inr (Or.inr ⟨rfl,rfl,p,?_,?_,?_,rfl⟩)⟩))⟩,⟨m,ln,cn,a,l,c,rfl,?_,?_⟩,kU h.o _ ae _ _ _ _ _ _⟩
      ·rw [show 2+j=1+j+1 from ae];exact x5
      ·rw [show 2+j=1+j+1 from ae];exact O
      ·rw [show 2+j=1+j+1 from ae];exact L
      ·rw [L];exact x3
      ·rw [Av];exact dS (eo (eo (eo (eo (eo (eo (aZ HI.o.own F.o) ae) ae) ae) ae) ae) ae) ae
      ·refine (HP.o.next λq K=>?_).wide λq K=>?_
       ·have:=K.1;rw [Qa _ _ _ ae]
       ·have h1:=K.1;have h2:=K.2;simp;omega
     ·have h:=I (show zB w w1 from o.o.t (d.m o.o.size));have F:=I d;have E:=I b;obtain ⟨⟨q0,q1,q2,q3,q4,q5⟩,⟨r0,r1,r2,r3,r4,r5⟩,JD⟩:=bJ ((d.block (w.heap.size+1) Cg).t HI.o.h1);clear d b H;apply I;go_wp2;refine aK (v:=.tuple #[.agg #[zI vb,zN,zI 0,zG [],zI 0,zN],zI 7,zI 0]) Rg rfl ?_;obtain ⟨O,L,x3⟩:=E.o;refine ⟨.err vb 7 0,Or.inr ⟨HI.o.aJ,Or.inr (Or.inr (Or.inr ⟨rfl,B.o,0,0,J,L,?_,Or.inr (Or.inl ⟨rfl,rfl,?_,rfl⟩)⟩))⟩,rfl,kU h.o _ ae _ _ _ _ _ _⟩
      ·rw [show 2+j=1+j+1 from ae];exact x3
      ·rw [show 2+j=1+j+1 from ae];exact O
     ·have Y:=I M;clear M;have h:=I (show zB w w1 from o.o.t (d.m o.o.size));have F:=I d;have E:=I b;obtain ⟨⟨q0,q1,q2,q3,q4,q5⟩,⟨r0,r1,r2,r3,r4,r5⟩,JD⟩:=bJ ((d.block (w.heap.size+1) Cg).t HI.o.h1);clear d b H;apply I;go_wp2;refine aK (v:=.tuple #[.agg #[zI vb,zN,zI 0,zG [],zI 0,zN],zI er,zI p]) Rg rfl ?_;obtain ⟨O,L⟩:=E.o;refine ⟨.err vb er p,Or.inr ⟨HI.o.aJ,Or.inr (Or.inr (Or.inr ⟨rfl,B.o,er,p,J,O,?_,Or.inl ⟨Y.o,rfl⟩⟩))⟩,rfl,kU h.o _ ae _ _ _ _ _ _⟩;rw [show 2+j=1+j+1 from ae];exact L
    ·obtain ⟨x,g⟩:∃ x,G ts - j=x+1:=⟨G ts - j - 1,ae⟩;obtain ⟨y,A⟩:∃ y,cp - 1 - j=y+1:=⟨cp - 1 - j - 1,ae⟩;have o:=I HI.o.bS;have H:=I (UR vb m ln cn bl (1+j) x y (eF (G s) ts (1+j)) (kN ts (1+j)) hk wr d0 d1 ae);rw [g,A];have B:=I hk;clear hk g A;go_wp2_with (go_at_call 97;refine H.o.m ?_;unfold Qb;rintro e w1 ⟨rfl,d⟩;apply Hid.o);have h:=I (show zB w w1 from o.o.t (d.m o.o.size));obtain ⟨⟨q0,q1,q2,q3,q4,q5⟩,⟨r0,r1,r2,r3,r4,r5⟩,JD⟩:=bJ ((d.block (w.heap.size+1) Cg).t HI.o.h1);clear d H;apply I;go_wp2;refine aK (v:=.tuple #[.agg #[zI vb,zN,zI 0,zG [],zI 0,zN],zI 3,zI (eF (G s) ts (1+j):Int)]) Rg rfl ?_;exact ⟨.err vb 3 _,Or.inr ⟨HI.o.aJ,Or.inr (Or.inr (Or.inl ⟨rfl,B.o,rfl⟩))⟩,rfl,kU h.o _ ae _ _ _ _ _ _⟩
   | false=>
    obtain ⟨x,g⟩:∃ x,G ts - j=x+1:=⟨G ts - j - 1,ae⟩;have Q:(0:Int)<(x:Int)+1:=ae;rw [g];clear g;by_cases hk:kN ts (1+j)=0
    ·have D:(kN ts (1+j) != 0)=false:=oW;have B:=I hk;clear hk;go_wp2;refine aK (v:=.tuple #[.agg #[zI vb,.slice m ln cn,zI 0,zG [],zI 0,zN],zI 0,zI 0]) agq rfl ?_;refine ⟨.ok vb (fC ts 1 j) none,Or.inr ⟨HI.o.aJ,Or.inr (Or.inl ⟨rfl,B.o,rfl⟩)⟩,⟨m,ln,cn,rfl,?_⟩,kU HI.o.bS _ ae _ _ _ _ _ _⟩;rw [Av];exact dS (eo (eo (eo (eo (eo (eo HI.o.own ae) ae) ae) ae) ae) ae) ae
    ·have D:(kN ts (1+j) != 0)=true:=oW;have HR:=I (show mZ (G s) ts vb j false (.err vb 3 (eF (G s) ts (1+j))) from Or.inr ⟨HI.o.aJ,Or.inl ⟨rfl,hk,rfl⟩⟩);clear hk;exact WN
def Le (s:By) (w:zW) (ts:List (By × Nat)) (f:Env w) (d:(G s)<=120) (h:aI s=(ts,none)) :
  zC prog 42 #[zG s] w λe w'=>∃ v,e=.returned (.tuple #[v,zI 0,zI 0])/\w'.ownsRow w.heap.size 134 4 v (G ts+1) (iY ts++sM (G s))/\zB w w':=by
 refine (acR s w f d).m λe w' c=>?_;obtain ⟨_,a,g⟩:=c;rw [h] at a;obtain ⟨v,b,i⟩:=a rfl;exact ⟨v,b,i,g⟩
def Fy (s:By) (w:zW) (p:Nat) (b:Env w) (c:(G s)<=120) (h:(aI s).2=some p) :
  zC prog 42 #[zG s] w λe w'=>e=.returned (.tuple #[zN,zI 2,zI p])/\zB w w':=
 (acR s w b c).m λ_ _ a=>⟨a.1 p h,a.2.2⟩
def L8 (s a:By) (err:Int) (at_:Nat):Prop:=
 (120<G s/\a=[]/\err=1/\at_=0) \/
 (G s<=120/\∃ p,(aI s).2=some p/\a=[]/\err=2/\at_=p) \/
 (G s<=120/\∃ ts er p b,aI s=(ts,none)/\b<=1000000/\cF (G s) b [aH 82 0] ts=some (er,p) /\
  ((er≠0/\a=[]/\err=er/\at_=p)\/(er=0/\p=0/\100<(bV ts (G ts)).length/\a=[]/\err=7/\at_=0) \/
   (er=0/\p=0/\¬ 100<(bV ts (G ts)).length/\a=bV ts (G ts)/\err=0/\at_=0)))
def anz (s a:By) (err:Int) (at_:Nat) (w:zW) (h:L8 s a err at_):zC prog 80 #[zG s] w (nc w a err at_):=by
 rcases h with ⟨h,rfl,rfl,rfl⟩|⟨e,p,j,rfl,rfl,rfl⟩|⟨e,ts,er,p,f,d,c,b,h⟩
 ·exact acw s w h
 ·exact afj s w _ e j
 ·rcases h with ⟨i,rfl,rfl,rfl⟩|⟨rfl,rfl,g,rfl,rfl,rfl⟩|⟨rfl,rfl,g,rfl,rfl,rfl⟩
  ·exact afk s w ts e d f c _ _ b i
  ·have:=acx s w ts e d f c b;rw [aB g] at this;exact this
  ·have:=acx s w ts e d f c b;rw [aA g] at this;exact this
def Je (s:By) (w:zW) (e:Ending) (w':zW):Prop:=
 ∃ a err at_,L8 s a err at_/\e=.returned (.tuple #[zG a,zI err,zI ((at_:Nat):Int)])/\zB w w'
def L9 (s:By) (w:zW) (h:120<G s):zC prog 17 #[zG s] w (Je s w):=by
 have H:=I (Ds s w h);have a:=I (show L8 s [] 1 0 from Or.inl ⟨h,rfl,rfl,rfl⟩);go_in;go_wp2_with (go_at_call 42;refine H.o.m ?_;rintro e w' ⟨rfl,rfl⟩)
 go_ret3
 exact ⟨[],1,0,a.o,rfl,aM _ _⟩
def QY (s:By) (w:zW) (p:Nat) (c:Env w) (a:(G s)<=120) (h:(aI s).2=some p):zC prog 17 #[zG s] w (Je s w):=by
 have H:=I (Fy s w p c a h);have d:=I (show L8 s [] 2 p from Or.inr (Or.inl ⟨a,p,h,rfl,rfl,rfl⟩));clear h;go_in;go_wp2_with (go_at_call 42;refine H.o.m ?_;rintro e w' ⟨rfl,b⟩)
 go_ret3
 exact ⟨[],2,p,d.o,rfl,b⟩
def QZ (s:By) (w:zW) (ts:List (By × Nat)) (L:Env w) (S:(G s)<=120) (h:aI s=(ts,none)):zC prog 17 #[zG s] w (Je s w):=by
 have r:bW (G s) s 0=(ts,none):=h;have Z:(G ts)<=(G s):=by have:=fT (G s) s 0;rw [r] at this;exact this
 have E:fV ts:=λt p P=>by
  have B:(t,p)∈(bW (G s) s 0).1:=by rw [r];exact P
  exact ⟨⟨x9 _ _ _ t p B,lz _ _ _ t p B⟩,xj _ _ _ t p B⟩
 have n:∀ t p,(t,p)∈ts->G t<=19:=λt p P=>by
  have B:(t,p)∈(bW (G s) s 0).1:=by rw [r];exact P
  exact pW _ _ _ t p B
 have H:=I (Le s w ts L S h);have O:=I (pZ ts n (G ts));have K:=I E;have D:=I n;have U:=I L;have Y:=I h;have M:=L.size;have j:=I (λer p o (g:o<=1000000) (b:cF (G s) o [aH 82 0] ts=some (er,p)) (a:By) (err:Int) (at_:Nat) hh=>(Or.inr (Or.inr ⟨S,ts,er,p,o,h,g,b,hh⟩):L8 s a err at_));clear h r E n L;go_in;go_wp2_with (go_at_call 42;refine mo H.o ?_;rintro e w1 ⟨v,rfl,x,m⟩);have X:=I (ajk s ts v w.heap.size w1 (U.o.next m) M K.o ae D.o x);have z:=I m;have N:=I (U.o.next m);have y:=m.size;clear x m;apply I;go_wp2_with (go_at_call 43;refine X.o.m ?_;rintro e w2 ⟨d,(⟨p,a,l,c,o,rfl,T,V,A,f,g,b⟩|⟨o,rfl,f,g,b⟩|⟨er,p,o,rfl,u,g,b⟩)⟩<;>apply Hid.o)
 ·have F:=I (show L8 s (bV ts (G ts)) 0 0 from j.o 0 0 o g b (bV ts (G ts)) 0 0 (Or.inr (Or.inr ⟨rfl,rfl,f,rfl,rfl,rfl⟩)));have k:=I (z.o.t (d.m y));have J:=d.size;have i:zB w2 (w2.alloc (.cells #[zI p.k,zG p.nm,zI p.n,.slice a l c] 89)):=(aM _ _).alloc (aG _) _;have C:=I (uy p a l c _ (T.next λq Q=>i.block q Q.2) (λq Q=>bG Q.2 i.size) ((N.o.next d).next i) (V.good K.o) (by rw [A];have:=O.o;omega));rw [A] at C;clear T V A f b d i;apply I;go_wp2_with (go_at_call 44;refine C.o.m ?_;rintro e w3 ⟨rfl,i⟩)
  go_ret3
  exact ⟨_,0,0,F.o,rfl,(k.o.alloc ae _).t (i.m aN)⟩
 ·have F:=I (show L8 s [] 7 0 from j.o 0 0 o g b [] 7 0 (Or.inr (Or.inl ⟨rfl,rfl,f,rfl,rfl,rfl⟩)));have k:=I (z.o.t (d.m y));have J:=d.size;clear f b d;apply I;go_wp2
  go_ret3
  exact ⟨[],7,0,F.o,rfl,k.o.alloc ae _⟩
 ·have F:=I (show L8 s [] er p from j.o er p o g b [] er p (Or.inl ⟨u,rfl,rfl,rfl⟩));have k:=I (z.o.t (d.m y));have J:=d.size;have W:(er == 0)=false:=bo.2 u;have R:(er != 0)=true:=by simp [u]
  clear b d u;apply I;go_wp2
  go_ret3
  exact ⟨[],er,p,F.o,rfl,k.o.alloc ae _⟩
def agm (s:By) (w:zW) (a:Env w):zC prog 17 #[zG s] w (Je s w):=by
 by_cases b:(G s)<=120
 ·cases h:(aI s).2 with
  | none=>exact QZ s w (aI s).1 a b (by rw [<- h])
  | some p=>exact QY s w p a b h
 ·exact L9 s w ae
def ae4 (s:By) (w:zW) (c:Env w):zC prog 55 #[zG s] w λe w'=>e=.returned (.bool true)/\zB w w':=by
 have H:=I (agm s w c);have h:=I c;clear c;go_in;go_wp2_with (go_at_call 17;refine mo H.o ?_;rintro e w1 ⟨a,err,at_,f,rfl,b⟩);have g:=I f;clear f;apply I;go_wp2_with (go_at_call 80;refine (anz s a err at_ _ g.o).m ?_;rintro e w2 ⟨rfl,d⟩);go_ret;exact ⟨rfl,b.t (d.m b.size)⟩
section
attribute [local go_sem] idx_eq app_eq
def aQ:List (By × Int × Nat × Bool):=
 [([115,101,116],1,1,true),([100,101,108,101,116,101],2,1,false),([114,101,110,97,109,101],3,2,false),([98,101,103,105,110],4,0,false),
  ([99,111,109,109,105,116],5,0,false),([99,97,110,99,101,108],6,0,false),([117,110,100,111],7,0,false),([114,101,100,111],8,0,false),
  ([118,97,108,117,101],9,1,false),([114,117,108,101],10,1,false),([108,105,115,116],11,0,false),([111,114,100,101,114],12,0,false)]
def IB:Array zV:=(aQ.flatMap λx=>[Value.string ⟨x.1.toArray⟩,zI x.2.1,zI (x.2.2.1:Int),.bool x.2.2.2]).toArray
def jZ (w:zW):Prop:=∃ t fr,w.heap[0]?=some (.cells IB t fr)
def jZ.next {w w':zW} (h:jZ w) (a:Env w) (b:zB w w'):jZ w':=by
 obtain ⟨t,fr,h⟩:=h;exact ⟨t,fr,(b.block _ (by have:=a.size;omega)).t h⟩
def UU (k:Nat) (h:k<12) (w:zW):(Instr.index 145 (.agg IB) (zI k)).run prog w=.ok (.agg #[.string ⟨((aQ[k]'h).1).toArray⟩,zI (aQ[k]'h).2.1,zI ((aQ[k]'h).2.2.1:Int),.bool (aQ[k]'h).2.2.2]) w:=by
 rcases (show k=0\/k=1\/k=2\/k=3\/k=4\/k=5\/k=6\/k=7\/k=8\/k=9\/k=10\/k=11 from ae) with h|h|h|h|h|h|h|h|h|h|h|h<;>subst h<;>kernel_rfl
def acH (len:Nat) (ts:List (By × Nat)) (r:tR):Prop:=
 (∃ k,∃ h:k<12,(aQ[k]'h).1=nT ts 0/\mZ len ts (aQ[k]'h).2.1 (aQ[k]'h).2.2.1 (aQ[k]'h).2.2.2 r) \/
 ((∀ k (h:k<12),(aQ[k]'h).1≠nT ts 0)/\r=.err 0 3 (eF len ts 0))
def ew (s:By) (r:tR):Prop:=
 (120<G s/\r=.err 0 1 0)\/(G s<=120/\∃ p,(aI s).2=some p/\r=.err 0 2 p)\/(G s<=120/\∃ ts,aI s=(ts,none)/\acH (G s) ts r)
def Bq (s:By) (w:zW) (e:Ending) (w':zW):Prop:=∃ r,ew s r/\sL r w e w'/\zB w w'
def iT:∀ x,x∈aQ->x.1≠[]/\x.2.2.1<=2:=ai
def sL.form {r:tR} {W w1:zW} {e:Ending} (h:sL r W e w1):∃ (b:Int) (d:Option zD) (ln cn:Nat) (k:Int) (nm:By) (n:Int) (a:Option zD) (l c:Nat) (er p:Int),e=.returned (.tuple #[.agg #[zI b,.slice d ln cn,zI k,zG nm,zI n,.slice a l c],zI er,zI p]):=
 match r,h with
 | .err b er p,h=>⟨b,none,0,0,0,[],0,none,0,0,er,p,h⟩
 | .ok b f none,⟨d,ln,cn,h,_⟩=>⟨b,d,ln,cn,0,[],0,none,0,0,0,0,h⟩
 | .ok b f (some t),⟨d,ln,cn,a,l,c,h,_⟩=>⟨b,d,ln,cn,_,_,_,a,l,c,0,0,h⟩
def sL.put {r:tR} {w W w1:zW} {e:Ending} (h:sL r W e w1) (b:w.heap.size<W.heap.size) (v0 v1 v2 v3 v4 v5:zV) :
  sL r w e ((((((w1.setCell ⟨w.heap.size,0,none⟩ v0).setCell ⟨w.heap.size,1,none⟩ v1).setCell ⟨w.heap.size,2,none⟩ v2).setCell ⟨w.heap.size,3,none⟩ v3).setCell ⟨w.heap.size,4,none⟩ v4).setCell ⟨w.heap.size,5,none⟩ v5):=by
 have own:∀ {d ln cn n xs},w1.ownsRow W.heap.size 9 1 (.slice d ln cn) n xs->((((((w1.setCell ⟨w.heap.size,0,none⟩ v0).setCell ⟨w.heap.size,1,none⟩ v1).setCell ⟨w.heap.size,2,none⟩ v2).setCell ⟨w.heap.size,3,none⟩ v3).setCell ⟨w.heap.size,4,none⟩ v4).setCell ⟨w.heap.size,5,none⟩ v5).ownsRow w.heap.size 9 1 (.slice d ln cn) n xs:=λh=>
  dS (eo (eo (eo (eo (eo (eo h b) b) b) b) b) b) (lF b)
 match r,h with
 | .err j er p,h=>exact h
 | .ok j k none,h=>
  obtain ⟨d,ln,cn,f,g⟩:=h;exact ⟨d,ln,cn,f,own g⟩
 | .ok j k (some t),h=>
  obtain ⟨d,ln,cn,a,l,c,f,g,m⟩:=h;refine ⟨d,ln,cn,a,l,c,f,own g,(m.next λq i=>?_).wide λq i=>?_⟩
  ·have:=i.1;rw [Qa _ _ _ ae]
  ·have f:=i.1;have g:=i.2;simp;omega
def Qd (s:By) (w:zW) (h:120<G s):zC prog 46 #[zG s] w (Bq s w):=by
 have H:=I (λW=>Ds s W h);have a:=I (show ew s (.err 0 1 0) from Or.inl ⟨h,rfl⟩);clear h;go_in;go_wp2_with (go_at_call 42;refine (H.o _).m ?_;rintro e w' ⟨rfl,rfl⟩);refine aK (v:=.tuple #[.agg #[zI 0,zN,zI 0,zG [],zI 0,zN],zI 1,zI 0]) (by simp [results,results46,go_sem]) rfl ?_;exact ⟨_,a.o,rfl,(aM _ _).alloc (aG _) _⟩
def UW (s:By) (w:zW) (p:Nat) (d:Env w) (b:(G s)<=120) (h:(aI s).2=some p):zC prog 46 #[zG s] w (Bq s w):=by
 have H:=I (λW (a:zB w W)=>Fy s W p (d.next a) b h);have f:=I (show ew s (.err 0 2 p) from Or.inr (Or.inl ⟨b,p,h,rfl⟩));clear h;go_in;go_wp2_with (go_at_call 42;refine mo (H.o _ (bZ _)) ?_;rintro e w1 ⟨rfl,a⟩);obtain ⟨⟨q0,q1,q2,q3,q4,q5⟩,⟨j,g,i,l,k,m⟩,JD⟩:=bJ ((a.block w.heap.size aq).t (bL w _));have c:=I (show zB w w1 from (bZ _).t (a.m aq));clear a H;apply I;go_wp2;refine aK (v:=.tuple #[.agg #[zI 0,zN,zI 0,zG [],zI 0,zN],zI 2,zI p]) Zq rfl ?_;exact ⟨_,f.o,rfl,kU c.o _ (aG _) _ _ _ _ _ _⟩
def acI (s:By) (w:zW) (ts:List (By × Nat)) (M:Env w) (F:jZ w) (hl:(G s)<=120) (h:aI s=(ts,none)) (J:fV ts) (hN:(G ts)<=120) (o:∀ t p,(t,p)∈ts->G t<=19):zC prog 46 #[zG s] w (Bq s w):=by
 have H:=I (λW (z:zB w W)=>Le s W ts (M.next z) hl h);have HA:=I (show ∀ r,acH (G s) ts r->ew s r from λr B=>Or.inr (Or.inr ⟨hl,ts,h,B⟩));have HH:=I (λk (A:k<12) W (z:zB w W) bl cp B0 (hB0:11<=B0) (C:1<=G ts) (d:W.ownsRow B0 134 4 (zS bl (G ts+1) cp) (G ts+1) (iY ts++sM (G s)))=>UT s ts bl cp B0 (aQ[k]'A).2.2.1 (aQ[k]'A).1 (aQ[k]'A).2.1 (aQ[k]'A).2.2.2 W (M.next z) hB0 J hN o (iT _ (bt A)).2 C d);have HE:=I M;have S:=I F;clear h J o M F;go_in;go_wp2_with (go_at_call 42;refine mo (H.o _ (bZ _)) ?_;rintro e w1 ⟨v,rfl,d,z⟩);have hR:=(z.block w.heap.size aq).t (bL w _);have P:=I (show zB w w1 from (bZ _).t (z.m aq));obtain ⟨bl,cp,rfl,hbl,q⟩:=d.form ae;obtain ⟨c0,c1,c2,_,hcp⟩:=r6 d 0 ae;simp only [jC,cS] at c0 c1 c2;simp at hbl;have HO:=I d;have HR:=I hR;obtain ⟨tt,fr,hm⟩:=S.o.next HE.o P.o;have HM:=I hm;have PS:(0:Int)<((G ts):Int)+1:=ae;clear z d H hR hm;apply I;go_wp2_with (refine wpList_load_row rfl 145 _ rfl 0 rfl tt _ fr _ HM.o underlying145 rfl aD ?_);go_loopg [9,22] 12 (λgk _ T wr=>∃ k:Nat,k<=12/\12<=k+gk/\T=zI k/\Hid (zB w1 wr)/\Hid (∀ j (x:j<12),j<k->(aQ[j]'x).1≠nT ts 0))
 case atStart=>exact ⟨0,ae,ae,rfl,aM _ _,λ_ _ h=>ae⟩
 case round=>
  obtain ⟨k,A,xA,rfl,f,E⟩:=hrel;have D5:=f.o.size;have D:=P.o.size;have d1:=(f.o.cell (p:=⟨bl,1,none⟩) q).t c1;have d2:=(f.o.cell (p:=⟨bl,2,none⟩) q).t c2;have arV:bl<wr.heap.size:=ae;have Z:w.heap.size<wr.heap.size:=ae;clear c0 c1 c2;by_cases b:k<12
  ·have hix:=UU k b;have K:(k:Int)<12:=ae;by_cases he:(aQ[k]'b).1=nT ts 0
   ·have heb:(nT ts 0 == (aQ[k]'b).1)=true:=rh;have C:1<=(G ts):=by
     rcases Nat.eq_zero_or_pos (G ts) with h0|h0
     ·have:=(iT _ (bt b)).1;rw [he] at this;simp [nT,h0] at this
     ·exact h0
    obtain ⟨y,rfl⟩:∃ y,cp=y+2:=⟨cp - 2,ae⟩;have m:=I (show zB w wr from P.o.t (f.o.m D));have HC:=I (λW (hW:zB wr W)=>HH.o k b W (m.o.t (hW.m m.o.size)) bl (y+2) w.heap.size HE.o.size C (dS (aZ (aZ HO.o f.o) hW) aq));have R:=I (λr (B:mZ (G s) ts (aQ[k]'b).2.1 (aQ[k]'b).2.2.1 (aQ[k]'b).2.2.2 r)=>HA.o r (Or.inl ⟨k,b,he,B⟩));have TC:(1:Int)<=((G ts):Int)+1:=ae;have hy2:((G ts):Int)+1<=(y:Int)+2:=ae;clear he E;generalize aQ[k]'b=hd at *;obtain ⟨L,N,n,O⟩:=hd;simp only at *;go_wp2_with fail
    go_region
    have u:=I (show zB wr (wr.alloc (.cells #[zG L,zI N,zI n,.bool O] 144)).drew.drew from (bZ _).drew.drew);have U:=I (λw2 (g:Below (wr.alloc (.cells #[zG L,zI N,zI n,.bool O] 144)).drew.drew.heap.size (wr.alloc (.cells #[zG L,zI N,zI n,.bool O] 144)).drew.drew w2)=>bJ ((g.block w.heap.size aN).t ((u.o.block w.heap.size Z).t ((f.o.block w.heap.size ae).t HR.o))));have BI:=I (HC.o _ u.o);go_wp2_with fail
    go_region_with (first|(go_at_call 64;refine BI.o.m ?_;rintro e w2 ⟨r,B,i,g⟩;obtain ⟨SX,an,ln,cn,k',V,n',a,l,c,er,p,rfl⟩:=i.form;obtain ⟨⟨q0,q1,q2,q3,q4,q5⟩,⟨r0,r1,r2,r3,r4,r5⟩,JD⟩:=U.o _ g;have Y:=I B;have HR4:=I i;have Jr:=I g;clear B i g))
    all_goals go_wp2
    all_goals refine aK (v:=.tuple #[.agg #[zI SX,.slice an ln cn,zI k',zG V,zI n',.slice a l c],zI er,zI p]) Zq rfl ?_
    all_goals exact ⟨_,R.o _ Y.o,HR4.o.put aN _ _ _ _ _ _,kU (m.o.t ((u.o.t (Jr.o.m aq)).m m.o.size)) _ (aG _) _ _ _ _ _ _⟩
   ·have heb:(nT ts 0 == (aQ[k]'b).1)=false:=bo.2 λh=>he h.symm;have HN2:=I (show ∀ j (x:j<12),j<k+1->(aQ[j]'x).1≠nT ts 0 from λj x hjk=>by
     rcases cC j k with C|C
     ·exact E.o j x C
     ·obtain rfl:j=k:=ae;exact he)
    clear he E HH;generalize aQ[k]'b=hd at *;obtain ⟨L,N,n,O⟩:=hd;simp only at *;go_wp2_with fail
    go_region
    go_wp2;go_roundg (12 - (k+1))
    case measure=>omega
    case rel=>exact ⟨k+1,ae,ae,ez,(f.o.alloc D5 _).drew,HN2⟩
  ·have K:¬ (k:Int)<12:=ae;obtain ⟨⟨q0,q1,q2,q3,q4,q5⟩,⟨r0,r1,r2,r3,r4,r5⟩,JD⟩:=bJ ((f.o.block w.heap.size ae).t HR.o);have R:=I (HA.o (.err 0 3 (eF (G s) ts 0)) (Or.inr ⟨λj x=>E.o j x ae,rfl⟩));have X:=I (show zB w wr from P.o.t (f.o.m D));clear E HH;generalize eF (G s) ts 0=Q at *;go_wp2_with fail
   go_region
   all_goals go_wp2
   all_goals refine aK (v:=.tuple #[.agg #[zI 0,zN,zI 0,zG [],zI 0,zN],zI 3,zI Q]) Zq rfl ?_
   all_goals exact ⟨_,R.o,rfl,(kU X.o _ (aG _) _ _ _ _ _ _).drew⟩
def Dt (s:By) (w:zW) (e:Env w) (d:jZ w):zC prog 46 #[zG s] w (Bq s w):=by
 by_cases g:120<G s
 ·exact Qd s w g
 ·have b:(G s)<=120:=ae;cases h:(aI s).2 with
  | some p=>exact UW s w p e b h
  | none=>
   have f:aI s=((aI s).1,none):=by rw [<- h]
   have i:bW (G s) s 0=((aI s).1,none):=f;have a:∀ t p,(t,p)∈(aI s).1->(t,p)∈(bW (G s) s 0).1:=λt p c=>c;refine acI s w (aI s).1 e d b f (λt p c=>⟨⟨x9 _ _ _ t p (a t p c),lz _ _ _ t p (a t p c)⟩,xj _ _ _ t p (a t p c)⟩) ?_ (λt p c=>pW _ _ _ t p (a t p c));exact bf (fT (G s) s 0) b
end
def OwB (w:zW) (v:zV) (nm:List By) (w':zW):Prop:=w'.ownsRow (w.heap.size+2) 9 1 v (G nm) (strs nm)/\zB w w'
def OwB.set {w w':zW} {v:zV} {nm:List By} (h:OwB w v nm w') {q:Nat} (a:w.heap.size<=q/\q<w.heap.size+2) (j:Nat) (u:zV):OwB w v nm (w'.setCell ⟨q,j,none⟩ u):=⟨eo h.1 a.2,h.2.setCell a.1 u⟩
def P3 (e:Nat) (c:Option zD) (b f:Nat) (nm:List By) (w:zW)
  (k:∀ W,zB w W->zC prog 105 #[zJ e] W λr w'=>∃ bn ln cn,r=.returned (.slice bn ln cn)/\w'.ownsRow W.heap.size 9 1 (.slice bn ln cn) (G nm) (strs nm)/\zB W w') :
  zC prog 70 #[zJ e,.agg #[zI 12,.slice c b f,zI 0,zG [],zI 0,zN]] w λr w'=>∃ bn ln cn,r=.returned (.agg #[zI 0,zI 0,zG [],.slice bn ln cn,zI 0,zI 0])/\w'.ownsRow w.heap.size 9 1 (.slice bn ln cn) (G nm) (strs nm)/\zB w w':=by
 have h:=I (k ((w.alloc (.cells #[zI 12,.slice c b f,zI 0,zG [],zI 0,zN] 97)).alloc (.cells #[zI 0,zI 0,zG [],zN,zI 0,zI 0] 39)) (aY _ _ _));clear k;go_in;go_wp2_with (go_at_call 105;refine mo h.o ?_;rintro r w3 ⟨bn,ln,cn,rfl,a,d⟩);have j:w3.heap[w.heap.size+1]?=some (.cells #[zI 0,zI 0,zG [],zN,zI 0,zI 0] 39 (0,0)):=(d.block _ aq).t (bc w _ _ _);obtain ⟨⟨p,q,s,y,t,x⟩,⟨f0,f1,f2,f3,f4,f5⟩,n⟩:=bJ j;have hF:=aj (aj (aj (aj (aj (aj (aj j 3 (.slice bn ln cn)) 0 (zI 0)) 1 (zI 0)) 2 (zG [])) 3 (.slice bn ln cn)) 4 (zI 0)) 5 (zI 0);obtain ⟨⟨F0,F1,F2,F3,F4,F5⟩,_,i⟩:=bJ (show _=some (Obj.cells #[zI 0,zI 0,zG [],.slice bn ln cn,zI 0,zI 0] 39 (0,0)) from hF);have o:=I (And.intro F0 (And.intro F1 (And.intro F2 (And.intro F3 (And.intro F4 (And.intro F5 i))))));have g:=I (show OwB w (.slice bn ln cn) nm (((((((w3.setCell ⟨w.heap.size+1,3,none⟩ (.slice bn ln cn)).setCell ⟨w.heap.size+1,0,none⟩ (zI 0)).setCell ⟨w.heap.size+1,1,none⟩ (zI 0)).setCell ⟨w.heap.size+1,2,none⟩ (zG [])).setCell ⟨w.heap.size+1,3,none⟩ (.slice bn ln cn)).setCell ⟨w.heap.size+1,4,none⟩ (zI 0)).setCell ⟨w.heap.size+1,5,none⟩ (zI 0)) from by
  have m:zB w w3:=(aY _ _ _).t (d.m aN);have l:((w.alloc (.cells #[zI 12,.slice c b f,zI 0,zG [],zI 0,zN] 97)).alloc (.cells #[zI 0,zI 0,zG [],zN,zI 0,zI 0] 39)).heap.size=w.heap.size+2:=aq;rw [l] at a
  iterate 7 refine OwB.set ?_ ae _ _
  exact ⟨a,m⟩)
 clear F0 F1 F2 F3 F4 F5 i hF j d h a;apply I;go_wp2;generalize (((((((w3.setCell ⟨w.heap.size+1,3,none⟩ (.slice bn ln cn)).setCell ⟨w.heap.size+1,0,none⟩ (zI 0)).setCell ⟨w.heap.size+1,1,none⟩ (zI 0)).setCell ⟨w.heap.size+1,2,none⟩ (zG [])).setCell ⟨w.heap.size+1,3,none⟩ (.slice bn ln cn)).setCell ⟨w.heap.size+1,4,none⟩ (zI 0)).setCell ⟨w.heap.size+1,5,none⟩ (zI 0))=u at *;obtain ⟨F0,F1,F2,F3,F4,F5,i⟩:=o.o;refine aK (v:=.agg #[zI 0,zI 0,zG [],.slice bn ln cn,zI 0,zI 0]) Zr gN ?_;exact ⟨bn,ln,cn,rfl,dS g.o.1 ae,g.o.2⟩
def UF (e:Nat) (c:Option zD) (b d:Nat) (tx:By) (w:zW)
  (j:∀ W,zB w W->zC prog 104 #[zJ e] W λr w'=>r=.returned (zG tx)/\zB W w') :
  zC prog 70 #[zJ e,.agg #[zI 11,.slice c b d,zI 0,zG [],zI 0,zN]] w λr w'=>r=.returned (.agg #[zI 0,zI 0,zG tx,zN,zI 0,zI 0])/\zB w w':=by
 have f:=I (j ((w.alloc (.cells #[zI 11,.slice c b d,zI 0,zG [],zI 0,zN] 97)).alloc (.cells #[zI 0,zI 0,zG [],zN,zI 0,zI 0] 39)) (aY _ _ _));clear j;go_in;go_wp2_with (go_at_call 104;refine mo f.o ?_;rintro r w3 ⟨rfl,a⟩);have i:w3.heap[w.heap.size+1]?=some (.cells #[zI 0,zI 0,zG [],zN,zI 0,zI 0] 39 (0,0)):=(a.block _ aq).t (bc w _ _ _);obtain ⟨⟨n,o,p,u,q,t⟩,⟨f0,f1,f2,f3,f4,f5⟩,l⟩:=bJ i;have hF:=aj (aj (aj (aj (aj (aj (aj i 2 (zG tx)) 0 (zI 0)) 1 (zI 0)) 2 (zG tx)) 3 (zN)) 4 (zI 0)) 5 (zI 0);obtain ⟨⟨F0,F1,F2,F3,F4,F5⟩,_,h⟩:=bJ (show _=some (Obj.cells #[zI 0,zI 0,zG tx,zN,zI 0,zI 0] 39 (0,0)) from hF);have m:=I (And.intro F0 (And.intro F1 (And.intro F2 (And.intro F3 (And.intro F4 (And.intro F5 h))))));have g:=I (show zB w (((((((w3.setCell ⟨w.heap.size+1,2,none⟩ (zG tx)).setCell ⟨w.heap.size+1,0,none⟩ (zI 0)).setCell ⟨w.heap.size+1,1,none⟩ (zI 0)).setCell ⟨w.heap.size+1,2,none⟩ (zG tx)).setCell ⟨w.heap.size+1,3,none⟩ (zN)).setCell ⟨w.heap.size+1,4,none⟩ (zI 0)).setCell ⟨w.heap.size+1,5,none⟩ (zI 0)) from by
  have k:zB w w3:=(aY _ _ _).t (a.m aN)
  iterate 7 refine Below.setCell ?_ vC _
  exact k)
 clear F0 F1 F2 F3 F4 F5 h hF i a f;apply I;go_wp2;generalize (((((((w3.setCell ⟨w.heap.size+1,2,none⟩ (zG tx)).setCell ⟨w.heap.size+1,0,none⟩ (zI 0)).setCell ⟨w.heap.size+1,1,none⟩ (zI 0)).setCell ⟨w.heap.size+1,2,none⟩ (zG tx)).setCell ⟨w.heap.size+1,3,none⟩ (zN)).setCell ⟨w.heap.size+1,4,none⟩ (zI 0)).setCell ⟨w.heap.size+1,5,none⟩ (zI 0))=s at *;obtain ⟨F0,F1,F2,F3,F4,F5,h⟩:=m.o;refine aK (v:=.agg #[zI 0,zI 0,zG tx,zN,zI 0,zI 0]) Zr gN ?_;exact ⟨rfl,g.o⟩
end Go.Proofs.YtihgojcfpnhelaaGreatDoor
