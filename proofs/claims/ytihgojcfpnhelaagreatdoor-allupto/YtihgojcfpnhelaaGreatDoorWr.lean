import Derived.Test.YtihgojcfpnhelaaGreatDoorDb
set_option maxRecDepth 100000
set_option maxHeartbeats 4000000
set_option linter.all false
namespace Go.Proofs.YtihgojcfpnhelaaGreatDoor
open Go renaming World->zW,Value->zV,Calls->zC,Addr->zD
open Go.RowKit Go.Proofs.Tryz
open List renaming length→G
section
attribute [local go_sem] idx_eq app_eq
variable {w w' W:zW} {q cl cf i U j k:Nat} {al af:Option zD} {ts:List (By × Nat)} {fs:List RF} {no Z:Bool} {v v' u:Vl}
def LQ (hp:eU q al cl af cf ts fs 263 #[eV q] i v j no) (hj:j<=G ts) (A:zA (eU q al cl af cf ts fs 263 #[eV q]) ts 5 v no j v' k Z):eU q al cl af cf ts fs 261 #[eV q] i v' k Z:=by
 intro w h;have HP:=I hp;have HS:=I h;have HC:=I A;have E:=h.lt;have TT:((G ts):Int)<=1000:=a6.2 h.tl;clear hp h A;go_in;go_wp2_with (go_at_call 263;refine mo (HP.o _ (HS.o.next (bI _ _))) ?_;rintro e w1 ⟨rfl,P,D⟩);have Y:=D.blk (bL w _) (cN E);have a:=(cz.1 Y).1;have HK:=I D;have HA:=I P;have hR:=I Y;have B:q<w1.heap.size:=bG E (lF a);have hne:w1.heap.size≠w.heap.size:=cN a;have RY:w.heap.size≠w1.heap.size:=cZ a;have hqn:q≠w.heap.size:=cZ E;have am8:w.heap.size≠q:=cN E;have am9:q≠w1.heap.size:=cZ B;have V:w1.heap.size≠q:=cN B;have HST:Hid (jG q al cl af cf ts fs w w1.heap.size (w1.alloc (.cells #[zI v.1,zI v.2] 129)) j no v):=I ⟨HA.o.next (bI _ _),((Kp.of (bI w _) E).t HK.o).t (Kp.of (bI w1 _) B),tP hR.o _,bL w1 _,E,a,i,HS.o⟩;clear D P Y a HK HA hR HP;apply I;go_wp2_with fail;go_loopg [] (G ts - j) (λgk wr=>∃ (j:Nat) (v:Vl) (no:Bool),G ts<=j+gk/\j<=G ts/\Hid (zA (eU q al cl af cf ts fs 263 #[eV q]) ts 5 v no j v' k Z/\jG q al cl af cf ts fs w w1.heap.size wr j no v))
 case atStart=>exact Ye
 case round=>
  clear HST HC hj;obtain ⟨j,v,no,xA,hj,F⟩:=hrel;obtain ⟨⟨⟨r0,r1⟩,⟨d,c⟩,a⟩,⟨x,s⟩,⟨g,b⟩,f⟩:=F.o.2.rows;have hjb:(j:Int)<=1000:=a6.2 (bf hj F.o.2.at_.tl);go_wp2_with (go_at_call 209;refine mo (fS F.o.2.at_) ?_;rintro e w2 ⟨rfl,K⟩);have U:=I (F.o.2.next K);clear K r0 r1 d c a x s g b f;obtain ⟨⟨⟨r0,r1⟩,⟨d,c⟩,a⟩,⟨x,s⟩,⟨g,b⟩,f⟩:=U.o.rows;apply I;go_wp2_with (go_at_call 210;refine mo (dC v U.o.at_) ?_;rintro e w3 ⟨rfl,S⟩);have z:=I (U.o.next S);clear S U r0 r1 d c a x s g b f;obtain ⟨⟨⟨r0,r1⟩,⟨d,c⟩,a⟩,⟨x,s⟩,⟨g,b⟩,f⟩:=z.o.rows;obtain ⟨⟨k0,k1,k2,k3⟩,⟨f0,f1,f2,f3⟩,O⟩:=aX z.o.at_.row;have HB:=I (λ(u:Vl) (W:zW) hs=>DM v (aw ts j) u hs W);have y:=I F.o.1.inv;clear F;generalize aw ts j=t at *;rcases y.o with ⟨m,rfl,rfl,rfl⟩|⟨kL,m,rfl,A,r⟩|⟨kL,m,rfl,u,j2,A,aa8,Jp,r,J⟩
  ·clear y HB;cases kL:b5 t (dc 5)
   ·have e42:(t == [42])=false:=bo.2 (λh=>Ce);have e47:(t == [47])=false:=bo.2 (λh=>Ce);have e37:(t == [37])=false:=bo.2 (λh=>Ce);clear m kL;generalize dY _ _=sb at *;apply I;go_wp2_with fail;refine aK (v:=gH v') Nv rfl ?_;exact ⟨rfl,z.o.o _ _⟩
   ·have hsb:=m.resolve_left Ox;clear m;rcases (by rcases dI kL with h|h|h|h|h<;>simp_all:t=[42]\/t=[47]\/t=[37]) with rfl|rfl|rfl
    all_goals
     clear kL;rw [hsb];apply I;go_wp2_with fail;refine aK (v:=gH v') Nv rfl ?_;exact ⟨rfl,z.o.o _ _⟩
  ·have C:=I A;clear A y HB
   try rw [m]
   rcases (by rcases dI kL with h|h|h|h|h<;>simp_all:t=[42]\/t=[47]\/t=[37]) with rfl|rfl|rfl
   all_goals
    clear kL;apply I;go_wp2_with (go_at_call 263;refine mo (C.o _ (z.o.inc (j+1)).at_) ?_;rintro e w4 ⟨rfl,p,o⟩);have n:=I ((z.o.inc (j+1)).call o p);clear o p r0 r1 d c a x s g b f k0 k1 k2 k3 f0 f1 f2 f3 O;apply I;go_wp2_with (go_at_call 210;refine mo (dC v' (n.o.next (bI _ _)).at_) ?_;rintro e w5 ⟨rfl,l⟩);have hz4:w.heap.size≠w4.heap.size:=cZ n.o.rows.1.2.2;have L:w4.heap.size≠w.heap.size:=cN n.o.rows.1.2.2;have X:w1.heap.size≠w4.heap.size:=cZ n.o.rows.2.2.2;have R:w4.heap.size≠w1.heap.size:=cN n.o.rows.2.2.2;have M:=I ((n.o.next (bI _ _)).next l);obtain ⟨⟨y0,y1⟩,⟨N,T⟩,H⟩:=cq ((l.block _ aq).t (bL w4 _));clear l;obtain ⟨⟨⟨r0,r1⟩,⟨d,c⟩,a⟩,⟨x,s⟩,⟨g,b⟩,f⟩:=M.o.rows
    try rw [r]
    apply I;go_wp2_with fail;refine aK (v:=gH v') Nv rfl ?_;exact ⟨rfl,M.o.o _ _⟩
  ·have C:=I A;have D6:=I J;have HM:=I (show (G ts) - j2<gk/\(G ts)<=j2+(G ts - j2) from ⟨ae,ae⟩);clear A J y
   try rw [m]
   rcases (by rcases dI kL with h|h|h|h|h<;>simp_all:t=[42]\/t=[47]\/t=[37]) with rfl|rfl|rfl
   all_goals
    clear kL;apply I;go_wp2_with (go_at_call 263;refine mo (C.o _ (z.o.inc (j+1)).at_) ?_;rintro e w4 ⟨rfl,p,o⟩);have n:=I ((z.o.inc (j+1)).call o p);clear o p r0 r1 d c a x s g b f k0 k1 k2 k3 f0 f1 f2 f3 O;apply I;go_wp2_with (go_at_call 210;refine mo (dC u (n.o.next (bI _ _)).at_) ?_;rintro e w5 ⟨rfl,l⟩);have hz4:w.heap.size≠w4.heap.size:=cZ n.o.rows.1.2.2;have L:w4.heap.size≠w.heap.size:=cN n.o.rows.1.2.2;have X:w1.heap.size≠w4.heap.size:=cZ n.o.rows.2.2.2;have R:w4.heap.size≠w1.heap.size:=cN n.o.rows.2.2.2;have M:=I ((n.o.next (bI _ _)).next l);obtain ⟨⟨y0,y1⟩,⟨N,T⟩,H⟩:=cq ((l.block _ aq).t (bL w4 _));clear l;obtain ⟨⟨⟨r0,r1⟩,⟨d,c⟩,a⟩,⟨x,s⟩,⟨g,b⟩,f⟩:=M.o.rows
    try rw [r]
    apply I;go_wp2_with (go_at_call 256;refine mo (HB.o u _ aq) ?_;rintro e w6 ⟨rfl,Q⟩);have H6:=I (M.o.next Q);clear Q r0 r1 d c a x s g b f y0 y1 N T H;obtain ⟨⟨⟨r0,r1⟩,⟨d,c⟩,a⟩,⟨x,s⟩,⟨g,b⟩,f⟩:=H6.o.rows;generalize dK v _ u=vb at *;apply I;go_wp2_with fail;go_roundg (G ts - j2)
    case measure=>exact HM.o.1
    case rel=>exact YK
end
end Go.Proofs.YtihgojcfpnhelaaGreatDoor
