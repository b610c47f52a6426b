import Derived.Test.YtihgojcfpnhelaaGreatDoorEj
set_option maxRecDepth 100000
set_option maxHeartbeats 4000000
set_option linter.all false
namespace Go.Proofs.YtihgojcfpnhelaaGreatDoor
open Go renaming World->zW,Value->zV,Calls->zC,Addr->zD
open Go.RowKit Go.Proofs.Tryz
open List renaming length→G
section
attribute [local go_sem] idx_eq app_eq
variable {w w' W:zW} {q cl cf i O j k:Nat} {al af:Option zD} {ts:List (By × Nat)} {fs:List RF} {no U:Bool} {v v' u:Vl}
def eU (q:Nat) (al:Option zD) (cl:Nat) (af:Option zD) (cf:Nat) (ts:List (By × Nat)) (fs:List RF) (F:FuncId) (args:Array zV) (i:Nat) (v:Vl) (k:Nat) (no:Bool):Prop:=
 ∀ w,gp q al cl af cf ts fs w i false->zC prog F args w λr w'=>r=.returned (gH v)/\gp q al cl af cf ts fs w' k no/\Kp q w w'
abbrev eV (q:Nat):zV:=zJ q
abbrev stA (t:By):zV:=zG t
def tP {r:Nat} {o:Obj} (h:W.heap[r]?=some o) (a:Obj):(W.alloc a).heap[r]?=some o:=
 (((aM W.heap.size W).alloc (aG _) a).block r (cz.1 h).1).t h
def bI (W:zW) (o:Obj):zB W (W.alloc o):=(aM _ _).alloc (aG _) _
def adn (t:eU q al cl af cf ts fs 185 #[eV q,stA [111,114]] i v j no) (y:j<=G ts):eU q al cl af cf ts fs 155 #[eV q] i v (jy cH ts j) no:=by
 intro w h;have D:=I t;have z:=I h;have C:=I y;have k:=h.lt;clear t h y;go_in;go_wp2_with (go_at_call 185;refine mo (D.o _ (z.o.next (bZ _))) ?_;rintro e w1 ⟨rfl,f,c⟩);have o:=c.blk (bL w _) (cN k);obtain ⟨⟨u,s⟩,⟨n,p⟩,b⟩:=cq o;have E:=I c;have J:=I f;have K:=I o;clear c f o;apply I;go_wp2_with (go_at_call 186;refine mo (BW (J.o.next (bZ _)) C.o) ?_;rintro e w2 ⟨rfl,g,a⟩);have d:q<w1.heap.size:=bG k (lF b);obtain ⟨⟨M,L⟩,⟨A,B⟩,H⟩:=cq (a.blk (bL w1 _) (cN d));obtain ⟨⟨u,s⟩,⟨n,p⟩,x⟩:=cq (a.blk (tP K.o _) (cN k));have m:=I a;have l:=I g;have F:w1.heap.size≠w.heap.size:=cN b;have r:w.heap.size≠w1.heap.size:=cZ b;clear a g;apply I;go_wp2_with fail;refine aK (v:=gH v) (by simp [results,results155,go_sem,u,s]) rfl ?_;exact ⟨rfl,z.o.AA (((Kp.of (bI w _) k).t E.o).t ((Kp.of (bI w1 _) d).t m.o)) l.o (aG _) _ _⟩
def VA (c:eU q al cl af cf ts fs 185 #[eV q,stA [97,110,100]] i v j no):eU q al cl af cf ts fs 208 #[eV q,stA [111,114]] i v j no:=by
 intro w h;have m:=I c;have f:=I h;have d:=h.lt;clear c h;go_in;go_wp2_with (go_at_call 185;refine mo (m.o _ (f.o.next (bI _ _))) ?_;rintro e w1 ⟨rfl,b,a⟩);obtain ⟨⟨r0,r1⟩,⟨g,n⟩,k⟩:=cq (a.blk (bL w _) (cN d));have l:=I a;have o:=I b;clear a b;apply I;go_wp2_with fail;refine aK (v:=gH v) Z7 rfl ?_;exact ⟨rfl,f.o.AA ((Kp.of (bI w _) d).t l.o) o.o (aG _) _ _⟩
def VB (c:eU q al cl af cf ts fs 232 #[eV q] i v j no):eU q al cl af cf ts fs 208 #[eV q,stA [97,110,100]] i v j no:=by
 intro w h;have m:=I c;have f:=I h;have d:=h.lt;clear c h;go_in;go_wp2_with (go_at_call 232;refine mo (m.o _ (f.o.next (bI _ _))) ?_;rintro e w1 ⟨rfl,b,a⟩);obtain ⟨⟨r0,r1⟩,⟨g,n⟩,k⟩:=cq (a.blk (bL w _) (cN d));have l:=I a;have o:=I b;clear a b;apply I;go_wp2_with fail;refine aK (v:=gH v) Z7 rfl ?_;exact ⟨rfl,f.o.AA ((Kp.of (bI w _) d).t l.o) o.o (aG _) _ _⟩
inductive zA (C:Nat->Vl->Nat->Bool->Prop) (ts:List (By × Nat)) (n:Nat):Vl->Bool->Nat->Vl->Nat->Bool->Prop
 | stop (v:Vl) (no:Bool) (i:Nat):b5 (aw ts i) (dc n)=false\/dY v no=true->zA C ts n v no i v i no
 | bad (v u:Vl) (i j:Nat) (no:Bool):b5 (aw ts i) (dc n)=true->dY v false=false->C (i+1) u j no->dY u no=true->zA C ts n v false i u j no
 | go (v u v':Vl) (i j k:Nat) (no:Bool):b5 (aw ts i) (dc n)=true->dY v false=false->C (i+1) u j false->i<j->j<=G ts->dY u false=false->zA C ts n (dK v (aw ts i) u) false j v' k no->zA C ts n v false i v' k no
structure jG (q:Nat) (al:Option zD) (cl:Nat) (af:Option zD) (cf:Nat) (ts:List (By × Nat)) (fs:List RF) (w:zW) (Z:Nat) (W:zW) (j:Nat) (no:Bool) (v:Vl):Prop where
 at_:gp q al cl af cf ts fs W j no
 kp:Kp q w W
 r0:W.heap[w.heap.size]?=some (.cells #[zI 0,zI 0] 129 (0,0))
 rv:W.heap[Z]?=some (.cells #[zI v.1,zI v.2] 129 (0,0))
 lt:q<w.heap.size
 VC:w.heap.size<Z
 Ex:∃ i0,gp q al cl af cf ts fs w i0 false
variable {Z:Nat}
def jG.next (h:jG q al cl af cf ts fs w Z W j no v) (a:zB W w'):jG q al cl af cf ts fs w Z w' j no v:=
 ⟨h.at_.next a,h.kp.next a h.at_.lt,(a.block _ (cz.1 h.r0).1).t h.r0,(a.block _ (cz.1 h.rv).1).t h.rv,h.lt,h.VC,h.Ex⟩
def jG.call (h:jG q al cl af cf ts fs w Z W j no v) (a:Kp q W w') (b:gp q al cl af cf ts fs w' O U):jG q al cl af cf ts fs w Z w' O U v:=
 ⟨b,h.kp.t a,a.blk h.r0 (cN h.lt),a.blk h.rv (cN (wF h.lt h.VC)),h.lt,h.VC,h.Ex⟩
def jG.inc (h:jG q al cl af cf ts fs w Z W j no v) (a:Nat):jG q al cl af cf ts fs w Z (W.setCell ⟨q,1,none⟩ (zI a)) a no v:=
 h.call (Kp.here _ 1 _) (h.at_.Q7 a)
def jG.rows (h:jG q al cl af cf ts fs w Z W j no v):((W.cell? ⟨w.heap.size,0,none⟩=some (zI 0)/\W.cell? ⟨w.heap.size,1,none⟩=some (zI 0))/\(W.frozen? ⟨w.heap.size,0,none⟩=false/\W.frozen? ⟨w.heap.size,1,none⟩=false)/\w.heap.size<W.heap.size)/\((W.cell? ⟨Z,0,none⟩=some (zI v.1)/\W.cell? ⟨Z,1,none⟩=some (zI v.2))/\(W.frozen? ⟨Z,0,none⟩=false/\W.frozen? ⟨Z,1,none⟩=false)/\Z<W.heap.size):=⟨cq h.r0,cq h.rv⟩
def jG.o (h:jG q al cl af cf ts fs w Z W j no v) (v0 v1:zV):gp q al cl af cf ts fs ((W.setCell ⟨w.heap.size,0,none⟩ v0).setCell ⟨w.heap.size,1,none⟩ v1) j no/\Kp q w ((W.setCell ⟨w.heap.size,0,none⟩ v0).setCell ⟨w.heap.size,1,none⟩ v1):=
 h.Ex.elim λ_ a=>a.AA h.kp h.at_ (aG _) v0 v1
def zA.inv {C:Nat->Vl->Nat->Bool->Prop} {n:Nat} (h:zA C ts n v no j v' k U) :
  ((b5 (aw ts j) (dc n)=false\/dY v no=true)/\v'=v/\k=j/\U=no) \/
  (b5 (aw ts j) (dc n)=true/\dY v no=false/\no=false/\C (j+1) v' k U/\dY v' U=true) \/
  (b5 (aw ts j) (dc n)=true/\dY v no=false/\no=false/\∃ u a,C (j+1) u a false/\j<a/\a<=G ts/\dY u false=false/\zA C ts n (dK v (aw ts j) u) false a v' k U):=by
 cases h with
 | stop _ _ _ h=>exact Or.inl ⟨h,rfl,rfl,rfl⟩
 | bad _ _ _ _ _ b c e d=>exact Or.inr (Or.inl ⟨b,c,rfl,e,d⟩)
 | go _ u _ _ a _ _ b c e d i g f=>exact Or.inr (Or.inr ⟨b,c,rfl,u,a,e,d,i,g,f⟩)
def jG.put (h:jG q al cl af cf ts fs w Z W j no v) (u:Vl):jG q al cl af cf ts fs w Z ((W.setCell ⟨Z,0,none⟩ (zI u.1)).setCell ⟨Z,1,none⟩ (zI u.2)) j no u:=by
 have a:=h.lt;have f:=h.VC;have c:Kp Z W ((W.setCell ⟨Z,0,none⟩ (zI u.1)).setCell ⟨Z,1,none⟩ (zI u.2)):=(Kp.here (b:=Z) W 0 _).t (Kp.here _ 1 _);have e:Kp q w ((W.setCell ⟨Z,0,none⟩ (zI u.1)).setCell ⟨Z,1,none⟩ (zI u.2)):=(h.kp.there Z 0 _ ae a).there Z 1 _ ae a;obtain ⟨g,d⟩:=h.Ex;refine ⟨d.kp e (c.blk h.at_.row ae),e,c.blk h.r0 ae,?_,a,f,g,d⟩
 ·exact ((aj ((aj h.rv 0 _).t rfl) 1 _).t rfl)
def af4 (hp:eU q al cl af cf ts fs 261 #[eV q] i v j no) (hj:j<=G ts) (A:zA (eU q al cl af cf ts fs 261 #[eV q]) ts 4 v no j v' k U):eU q al cl af cf ts fs 255 #[eV q] i v' k U:=by
 intro w h;have HP:=I hp;have HS:=I h;have HC:=I A;have E:=h.lt;have TT:((G ts):Int)<=1000:=a6.2 h.tl;clear hp h A;go_in;go_wp2_with (go_at_call 261;refine mo (HP.o _ (HS.o.next (bI _ _))) ?_;rintro e w1 ⟨rfl,P,D⟩);have Z:=D.blk (bL w _) (cN E);have a:=(cz.1 Z).1;have HK:=I D;have HA:=I P;have hR:=I Z;have B:q<w1.heap.size:=bG E (lF a);have hne:w1.heap.size≠w.heap.size:=cN a;have RY:w.heap.size≠w1.heap.size:=cZ a;have hqn:q≠w.heap.size:=cZ E;have am8:w.heap.size≠q:=cN E;have am9:q≠w1.heap.size:=cZ B;have X:w1.heap.size≠q:=cN B;have HST:Hid (jG q al cl af cf ts fs w w1.heap.size (w1.alloc (.cells #[zI v.1,zI v.2] 129)) j no v):=I ⟨HA.o.next (bI _ _),((Kp.of (bI w _) E).t HK.o).t (Kp.of (bI w1 _) B),tP hR.o _,bL w1 _,E,a,i,HS.o⟩;clear D P Z a HK HA hR HP;apply I;go_wp2_with fail;go_loopg [] (G ts - j) (λgk wr=>∃ (j:Nat) (v:Vl) (no:Bool),G ts<=j+gk/\j<=G ts/\Hid (zA (eU q al cl af cf ts fs 261 #[eV q]) ts 4 v no j v' k U/\jG q al cl af cf ts fs w w1.heap.size wr j no v))
 case atStart=>exact Ye
 case round=>
  clear HST HC hj;obtain ⟨j,v,no,xA,hj,F⟩:=hrel;obtain ⟨⟨⟨r0,r1⟩,⟨d,c⟩,a⟩,⟨x,s⟩,⟨g,b⟩,f⟩:=F.o.2.rows;have hjb:(j:Int)<=1000:=a6.2 (bf hj F.o.2.at_.tl);go_wp2_with (go_at_call 209;refine mo (fS F.o.2.at_) ?_;rintro e w2 ⟨rfl,K⟩);have V:=I (F.o.2.next K);clear K r0 r1 d c a x s g b f;obtain ⟨⟨⟨r0,r1⟩,⟨d,c⟩,a⟩,⟨x,s⟩,⟨g,b⟩,f⟩:=V.o.rows;apply I;go_wp2_with (go_at_call 210;refine mo (dC v V.o.at_) ?_;rintro e w3 ⟨rfl,S⟩);have z:=I (V.o.next S);clear S V r0 r1 d c a x s g b f;obtain ⟨⟨⟨r0,r1⟩,⟨d,c⟩,a⟩,⟨x,s⟩,⟨g,b⟩,f⟩:=z.o.rows;obtain ⟨⟨k0,k1,k2,k3⟩,⟨f0,f1,f2,f3⟩,O⟩:=aX z.o.at_.row;have HB:=I (λ(u:Vl) (W:zW) hs=>DM v (aw ts j) u hs W);have y:=I F.o.1.inv;clear F;generalize aw ts j=t at *;rcases y.o with ⟨m,rfl,rfl,rfl⟩|⟨kL,m,rfl,A,r⟩|⟨kL,m,rfl,u,j2,A,aa8,Jp,r,J⟩
  ·clear y HB;cases kL:b5 t (dc 4)
   ·have e43:(t == [43])=false:=bo.2 (λh=>Ce);have e45:(t == [45])=false:=bo.2 (λh=>Ce);clear m kL;generalize dY _ _=sb at *;apply I;go_wp2_with fail;refine aK (v:=gH v') ZB rfl ?_;exact ⟨rfl,z.o.o _ _⟩
   ·have hsb:=m.resolve_left Ox;clear m;rcases (by rcases dI kL with h|h|h|h|h<;>simp_all:t=[43]\/t=[45]) with rfl|rfl
    all_goals
     clear kL;rw [hsb];apply I;go_wp2_with fail;refine aK (v:=gH v') ZB rfl ?_;exact ⟨rfl,z.o.o _ _⟩
  ·have C:=I A;clear A y HB
   try rw [m]
   rcases (by rcases dI kL with h|h|h|h|h<;>simp_all:t=[43]\/t=[45]) with rfl|rfl
   all_goals
    clear kL;apply I;go_wp2_with (go_at_call 261;refine mo (C.o _ (z.o.inc (j+1)).at_) ?_;rintro e w4 ⟨rfl,p,o⟩);have n:=I ((z.o.inc (j+1)).call o p);clear o p r0 r1 d c a x s g b f k0 k1 k2 k3 f0 f1 f2 f3 O;apply I;go_wp2_with (go_at_call 210;refine mo (dC v' (n.o.next (bI _ _)).at_) ?_;rintro e w5 ⟨rfl,l⟩);have hz4:w.heap.size≠w4.heap.size:=cZ n.o.rows.1.2.2;have L:w4.heap.size≠w.heap.size:=cN n.o.rows.1.2.2;have Y:w1.heap.size≠w4.heap.size:=cZ n.o.rows.2.2.2;have R:w4.heap.size≠w1.heap.size:=cN n.o.rows.2.2.2;have M:=I ((n.o.next (bI _ _)).next l);obtain ⟨⟨y0,y1⟩,⟨N,T⟩,H⟩:=cq ((l.block _ aq).t (bL w4 _));clear l;obtain ⟨⟨⟨r0,r1⟩,⟨d,c⟩,a⟩,⟨x,s⟩,⟨g,b⟩,f⟩:=M.o.rows
    try rw [r]
    apply I;go_wp2_with fail;refine aK (v:=gH v') ZB rfl ?_;exact ⟨rfl,M.o.o _ _⟩
  ·have C:=I A;have D6:=I J;have HM:=I (show (G ts) - j2<gk/\(G ts)<=j2+(G ts - j2) from ⟨ae,ae⟩);clear A J y
   try rw [m]
   rcases (by rcases dI kL with h|h|h|h|h<;>simp_all:t=[43]\/t=[45]) with rfl|rfl
   all_goals
    clear kL;apply I;go_wp2_with (go_at_call 261;refine mo (C.o _ (z.o.inc (j+1)).at_) ?_;rintro e w4 ⟨rfl,p,o⟩);have n:=I ((z.o.inc (j+1)).call o p);clear o p r0 r1 d c a x s g b f k0 k1 k2 k3 f0 f1 f2 f3 O;apply I;go_wp2_with (go_at_call 210;refine mo (dC u (n.o.next (bI _ _)).at_) ?_;rintro e w5 ⟨rfl,l⟩);have hz4:w.heap.size≠w4.heap.size:=cZ n.o.rows.1.2.2;have L:w4.heap.size≠w.heap.size:=cN n.o.rows.1.2.2;have Y:w1.heap.size≠w4.heap.size:=cZ n.o.rows.2.2.2;have R:w4.heap.size≠w1.heap.size:=cN n.o.rows.2.2.2;have M:=I ((n.o.next (bI _ _)).next l);obtain ⟨⟨y0,y1⟩,⟨N,T⟩,H⟩:=cq ((l.block _ aq).t (bL w4 _));clear l;obtain ⟨⟨⟨r0,r1⟩,⟨d,c⟩,a⟩,⟨x,s⟩,⟨g,b⟩,f⟩:=M.o.rows
    try rw [r]
    apply I;go_wp2_with (go_at_call 256;refine mo (HB.o u _ aq) ?_;rintro e w6 ⟨rfl,Q⟩);have H6:=I (M.o.next Q);clear Q r0 r1 d c a x s g b f y0 y1 N T H;obtain ⟨⟨⟨r0,r1⟩,⟨d,c⟩,a⟩,⟨x,s⟩,⟨g,b⟩,f⟩:=H6.o.rows;generalize dK v _ u=vb at *;apply I;go_wp2_with fail;go_roundg (G ts - j2)
    case measure=>exact HM.o.1
    case rel=>exact YK
end
section
attribute [local go_sem] idx_eq app_eq
variable {w w' W:zW} {q cl cf i U j k:Nat} {al af:Option zD} {ts:List (By × Nat)} {fs:List RF} {no Z:Bool} {v v' u:Vl}
structure vI (q:Nat) (al:Option zD) (cl:Nat) (af:Option zD) (cf:Nat) (ts:List (By × Nat)) (fs:List RF) (w:zW) (W:zW) (j:Nat) (no:Bool):Prop where
 at_:gp q al cl af cf ts fs W j no
 kp:Kp q w W
 r0:W.heap[w.heap.size]?=some (.cells #[zI 0,zI 0] 129 (0,0))
 lt:q<w.heap.size
 Ex:∃ i0,gp q al cl af cf ts fs w i0 false
def gp.pr (h:gp q al cl af cf ts fs w i false):vI q al cl af cf ts fs w (w.alloc (.cells #[zI 0,zI 0] 129)) i false:=
 ⟨h.next (bI _ _),Kp.of (bI w _) h.lt,bL w _,h.lt,i,h⟩
def vI.next (h:vI q al cl af cf ts fs w W j no) (a:zB W w'):vI q al cl af cf ts fs w w' j no:=
 ⟨h.at_.next a,h.kp.next a h.at_.lt,(a.block _ (cz.1 h.r0).1).t h.r0,h.lt,h.Ex⟩
def vI.call (h:vI q al cl af cf ts fs w W j no) (a:Kp q W w') (b:gp q al cl af cf ts fs w' U Z):vI q al cl af cf ts fs w w' U Z:=
 ⟨b,h.kp.t a,a.blk h.r0 (cN h.lt),h.lt,h.Ex⟩
def vI.inc (h:vI q al cl af cf ts fs w W j no) (a:Nat):vI q al cl af cf ts fs w (W.setCell ⟨q,1,none⟩ (zI a)) a no:=
 h.call (Kp.here _ 1 _) (h.at_.Q7 a)
def vI.rows (h:vI q al cl af cf ts fs w W j no):(W.cell? ⟨w.heap.size,0,none⟩=some (zI 0)/\W.cell? ⟨w.heap.size,1,none⟩=some (zI 0))/\(W.frozen? ⟨w.heap.size,0,none⟩=false/\W.frozen? ⟨w.heap.size,1,none⟩=false)/\w.heap.size<W.heap.size:=cq h.r0
def vI.new (h:vI q al cl af cf ts fs w W j no) (v:Vl):jG q al cl af cf ts fs w W.heap.size (W.alloc (.cells #[zI v.1,zI v.2] 129)) j no v:=
 ⟨h.at_.next (bI _ _),h.kp.t (Kp.of (bI W _) h.at_.lt),tP h.r0 _,bL W _,h.lt,(cz.1 h.r0).1,h.Ex⟩
def vI.o (h:vI q al cl af cf ts fs w W j no) (v0 v1:zV):gp q al cl af cf ts fs ((W.setCell ⟨w.heap.size,0,none⟩ v0).setCell ⟨w.heap.size,1,none⟩ v1) j no/\Kp q w ((W.setCell ⟨w.heap.size,0,none⟩ v0).setCell ⟨w.heap.size,1,none⟩ v1):=
 h.Ex.elim λ_ a=>a.AA h.kp h.at_ (aG _) v0 v1
def ado (E:aw ts i=[110,111,116]) (K:eU q al cl af cf ts fs 232 #[eV q] (i+1) v j no):eU q al cl af cf ts fs 232 #[eV q] i (if no=true then v else nH (aP 2 v)) j no:=by
 obtain ⟨s,l⟩:∃ s,Hid ((if no=true then v else nH (aP 2 v))=s):=⟨_,I rfl⟩;rw [l.o];intro w h;have Q:(i:Int)<=1000:=a6.2 (bf (lF (bP E aq)) h.tl);have R:=I K;have F:=I h.pr;have S:=I E;have L:=h.lt;have T:q≠w.heap.size:=cZ L;have H:w.heap.size≠q:=cN L;clear K h E;go_in;go_wp2_with (go_at_call 209;refine mo (fS F.o.at_) ?_;rintro e w1 ⟨rfl,n⟩);have x:=I (F.o.next n);clear n F;rw [S.o];obtain ⟨⟨r0,r1⟩,⟨b,a⟩,c⟩:=x.o.rows;obtain ⟨⟨N,O,P,U⟩,⟨f0,f1,f2,f3⟩,C⟩:=aX x.o.at_.row;apply I;go_wp2_with (go_at_call 232;refine mo (R.o _ (x.o.inc (i+1)).at_) ?_;rintro e w2 ⟨rfl,t,p⟩);have y:=I ((x.o.inc (i+1)).call p t);clear p t x r0 r1 b a c N O P U f0 f1 f2 f3 C;have V:=cZ y.o.rows.2.2;have J:=cN y.o.rows.2.2;apply I;go_wp2_with (go_at_call 210;refine mo (dC v (y.o.new v).at_) ?_;rintro e w3 ⟨rfl,u⟩);have A:=I ((y.o.new v).next u);clear u y;obtain ⟨⟨⟨r0,r1⟩,⟨b,a⟩,c⟩,⟨B,z⟩,⟨k,f⟩,g⟩:=A.o.rows;cases hs:dY v no
 ·obtain ⟨G,m⟩:=I4 hs;subst G;by_cases hv:v.1=2
  ·have D:(v.1 == 2)=true:=G5;have r:=I (show s=bD (v.2 == 0) by rw [<- l.o,aA aq,sw hv];unfold nH;rw [aA m]);clear hv m;apply I;go_wp2_with (go_at_call 254;refine mo (vq _ _) ?_;rintro e w4 ⟨rfl,d⟩);have o:=I (A.o.next d);clear d r0 r1 b a c B z k f g;obtain ⟨⟨⟨r0,r1⟩,⟨b,a⟩,c⟩,⟨B,z⟩,⟨k,f⟩,g⟩:=o.o.rows;generalize bD (v.2 == 0)=vt at *;apply I;go_wp2_with fail;refine aK (v:=gH vt) Cf rfl ?_;rw [r.o];exact ⟨rfl,o.o.o _ _⟩
  ·have D:(v.1 == 2)=false:=G5;have r:=I (show s=cL 2 by rw [<- l.o,aA aq,uH hv m];rfl);clear hv m;apply I;go_wp2_with (go_at_call 211;refine mo (mR _ _) ?_;rintro e w4 ⟨rfl,d⟩);have o:=I (A.o.next d);clear d r0 r1 b a c B z k f g;obtain ⟨⟨⟨r0,r1⟩,⟨b,a⟩,c⟩,⟨B,z⟩,⟨k,f⟩,g⟩:=o.o.rows;apply I;go_wp2_with fail;refine aK (v:=gH (cL 2)) Cf rfl ?_;rw [r.o];exact ⟨rfl,o.o.o _ _⟩
 ·have r:=I (show s=v from by
   rw [<- l.o];rcases nJ hs with rfl|⟨rfl,M⟩
   ·rfl
   ·rw [aA aq,yf M];unfold nH;rw [aB M])
  apply I;go_wp2_with fail;refine aK (v:=gH v) Cf rfl ?_;rw [r.o];exact ⟨rfl,A.o.o _ _⟩
def adp (D:aw ts i≠[110,111,116]) (E:eU q al cl af cf ts fs 255 #[eV q] i v j no) (hs:b5 (aw ts j) (dc 3)=false\/dY v no=true):eU q al cl af cf ts fs 232 #[eV q] i v j no:=by
 intro w h;have J:=I E;have P:=I hs;clear E hs;have H:=h.lt;have N:((G ts):Int)<=1000:=a6.2 h.tl;have y:=I h.pr;have K:q≠w.heap.size:=cZ H;have A:w.heap.size≠q:=cN H;have u:(aw ts i == [110,111,116])=false:=bo.2 D;clear h D;go_in;go_wp2_with (go_at_call 209;refine mo (fS y.o.at_) ?_;rintro e w1 ⟨rfl,l⟩);have s:=I (y.o.next l);clear l y;generalize aw ts i=ti at *;apply I;go_wp2_with (go_at_call 255;refine mo (J.o _ s.o.at_) ?_;rintro e w2 ⟨rfl,f,c⟩);have k:=I (s.o.call c f);clear c f s u;have M:=cZ k.o.rows.2.2;have B:=cN k.o.rows.2.2;apply I;go_wp2_with (go_at_call 209;refine mo (fS (k.o.new v).at_) ?_;rintro e w3 ⟨rfl,p⟩);have r:=I ((k.o.new v).next p);clear p k;obtain ⟨⟨⟨r0,r1⟩,⟨d,b⟩,g⟩,⟨F,z⟩,⟨o,a⟩,m⟩:=r.o.rows;generalize aw ts j=t at *;cases kL:b5 t (dc 3)
 ·have L:(t == [61])=false:=bo.2 (λh=>Ce);have O:(t == [60])=false:=bo.2 (λh=>Ce);clear kL;apply I;go_wp2_with fail;refine aK (v:=gH v) Cf rfl ?_;exact ⟨rfl,r.o.o _ _⟩
 ·have x:=P.o.resolve_left Ox;rcases (by rcases dI kL with h|h|h|h|h<;>simp_all:t=[61]\/t=[60]) with rfl|rfl
  all_goals
   clear kL;apply I;go_wp2_with (go_at_call 210;refine mo (dC v r.o.at_) ?_;rintro e w4 ⟨rfl,n⟩);have C:=I (r.o.next n);clear n r0 r1 d b g F z o a m;obtain ⟨⟨⟨r0,r1⟩,⟨d,b⟩,g⟩,⟨F,z⟩,⟨o,a⟩,m⟩:=C.o.rows
   try rw [x]
   apply I;go_wp2_with fail;refine aK (v:=gH v) Cf rfl ?_;exact ⟨rfl,C.o.o _ _⟩
def adq (hn:aw ts i≠[110,111,116]) (hc:eU q al cl af cf ts fs 255 #[eV q] i v j false) (o:b5 (aw ts j) (dc 3)=true) (hs:dY v false=false) (K:eU q al cl af cf ts fs 255 #[eV q] (j+1) u k no):eU q al cl af cf ts fs 232 #[eV q] i (if dY u no=true then u else dK v (aw ts j) u) k no:=by
 obtain ⟨vv,a⟩:∃ vv,Hid ((if dY u no=true then u else dK v (aw ts j) u)=vv):=⟨_,I rfl⟩;rw [a.o];intro w h;have HC:=I hc;have V:=I K;have M:=I o;have hjb:(j:Int)<=1000:=a6.2 (bf (lF (l9 o)) h.tl);clear hc K o;have hq:=h.lt;have TT:((G ts):Int)<=1000:=a6.2 h.tl;have X:=I h.pr;have hqn:q≠w.heap.size:=cZ hq;have Z:w.heap.size≠q:=cN hq;have T:(aw ts i == [110,111,116])=false:=bo.2 hn;clear h hn;go_in;go_wp2_with (go_at_call 209;refine mo (fS X.o.at_) ?_;rintro e w1 ⟨rfl,F⟩);have S:=I (X.o.next F);clear F X;generalize aw ts i=ti at *;apply I;go_wp2_with (go_at_call 255;refine mo (HC.o _ S.o.at_) ?_;rintro e w2 ⟨rfl,A,z⟩);have C:=I (S.o.call z A);clear z A S T;have hne:=cZ C.o.rows.2.2;have amj:=cN C.o.rows.2.2;apply I;go_wp2_with (go_at_call 209;refine mo (fS (C.o.new v).at_) ?_;rintro e w3 ⟨rfl,L⟩);have N:=I ((C.o.new v).next L);clear L C;obtain ⟨⟨⟨r0,r1⟩,⟨d,c⟩,f⟩,⟨s,r⟩,⟨l,b⟩,g⟩:=N.o.rows;have R:=I (λ(W:zW) hs=>DM v (aw ts j) u hs W);generalize aw ts j=t at *;rcases (by rcases dI M.o with h|h|h|h|h<;>simp_all:t=[61]\/t=[60]) with rfl|rfl
 all_goals
  clear M;apply I;go_wp2_with (go_at_call 210;refine mo (dC v N.o.at_) ?_;rintro e w4 ⟨rfl,J⟩);have y:=I (N.o.next J);clear J N r0 r1 d c f s r l b g;obtain ⟨⟨⟨r0,r1⟩,⟨d,c⟩,f⟩,⟨s,r⟩,⟨l,b⟩,g⟩:=y.o.rows;obtain ⟨⟨k0,k1,k2,k3⟩,⟨f0,f1,f2,f3⟩,P⟩:=aX y.o.at_.row
  try rw [hs]
  apply I;go_wp2_with (go_at_call 255;refine mo (V.o _ (y.o.inc (j+1)).at_) ?_;rintro e B ⟨rfl,x,H⟩);have p:=I ((y.o.inc (j+1)).call H x);clear H x y r0 r1 d c f s r l b g k0 k1 k2 k3 f0 f1 f2 f3 P;apply I;go_wp2_with (go_at_call 210;refine mo (dC u (p.o.next (bI _ _)).at_) ?_;rintro e w6 ⟨rfl,n⟩);have hz5:w.heap.size≠B.heap.size:=cZ p.o.rows.1.2.2;have ar6:B.heap.size≠w.heap.size:=cN p.o.rows.1.2.2;have hy5:w2.heap.size≠B.heap.size:=cZ p.o.rows.2.2.2;have ar7:B.heap.size≠w2.heap.size:=cN p.o.rows.2.2.2;have Q:=I ((p.o.next (bI _ _)).next n);obtain ⟨⟨y0,y1⟩,⟨U,Y⟩,O⟩:=cq ((n.block _ aq).t (bL B _));clear n p;obtain ⟨⟨⟨r0,r1⟩,⟨d,c⟩,f⟩,⟨s,r⟩,⟨l,b⟩,g⟩:=Q.o.rows;cases D:dY u no
  ·rw [D] at a;apply I;go_wp2_with (go_at_call 256;refine mo (R.o _ aq) ?_;rintro e w7 ⟨rfl,E⟩);have H7:=I (Q.o.next E);clear E r0 r1 d c f s r l b g y0 y1 U Y O;obtain ⟨⟨⟨r0,r1⟩,⟨d,c⟩,f⟩,⟨s,r⟩,⟨l,b⟩,g⟩:=H7.o.rows;have m:=I (a.o.symm.t (aA aq));clear a R;generalize dK v _ u=vb at *;apply I;go_wp2_with fail;refine aK (v:=gH vb) Cf rfl ?_;rw [m.o];exact ⟨rfl,H7.o.o _ _⟩
  ·rw [D] at a;have m:=I (a.o.symm.t (aB rfl));clear a R;apply I;go_wp2_with fail;refine aK (v:=gH u) Cf rfl ?_;rw [m.o];exact ⟨rfl,Q.o.o _ _⟩
variable {V:Nat} {R:Bool} {o:Vl} {Z:Nat}
structure oL (q:Nat) (al:Option zD) (cl:Nat) (af:Option zD) (cf:Nat) (ts:List (By × Nat)) (fs:List RF) (w:zW) (U Z:Nat) (W:zW) (j:Nat) (no:Bool) (v o:Vl):Prop where
 s:jG q al cl af cf ts fs w U W j no v
 ro:W.heap[Z]?=some (.cells #[zI o.1,zI o.2] 129 (0,0))
 lt2:U<Z
def oL.next (h:oL q al cl af cf ts fs w U Z W j no v o) (a:zB W w'):oL q al cl af cf ts fs w U Z w' j no v o:=
 ⟨h.s.next a,(a.block _ (cz.1 h.ro).1).t h.ro,h.lt2⟩
def oL.ne (h:oL q al cl af cf ts fs w U Z W j no v o):q<Z:=wF (wF h.s.lt h.s.VC) h.lt2
def oL.call (h:oL q al cl af cf ts fs w U Z W j no v o) (a:Kp q W w') (b:gp q al cl af cf ts fs w' V R):oL q al cl af cf ts fs w U Z w' V R v o:=
 ⟨h.s.call a b,a.blk h.ro (cN h.ne),h.lt2⟩
def oL.inc (h:oL q al cl af cf ts fs w U Z W j no v o) (a:Nat):oL q al cl af cf ts fs w U Z (W.setCell ⟨q,1,none⟩ (zI a)) a no v o:=
 h.call (Kp.here _ 1 _) (h.s.at_.Q7 a)
def oL.rows (h:oL q al cl af cf ts fs w U Z W j no v o):(((W.cell? ⟨w.heap.size,0,none⟩=some (zI 0)/\W.cell? ⟨w.heap.size,1,none⟩=some (zI 0))/\(W.frozen? ⟨w.heap.size,0,none⟩=false/\W.frozen? ⟨w.heap.size,1,none⟩=false)/\w.heap.size<W.heap.size)/\((W.cell? ⟨U,0,none⟩=some (zI v.1)/\W.cell? ⟨U,1,none⟩=some (zI v.2))/\(W.frozen? ⟨U,0,none⟩=false/\W.frozen? ⟨U,1,none⟩=false)/\U<W.heap.size))/\((W.cell? ⟨Z,0,none⟩=some (zI o.1)/\W.cell? ⟨Z,1,none⟩=some (zI o.2))/\(W.frozen? ⟨Z,0,none⟩=false/\W.frozen? ⟨Z,1,none⟩=false)/\Z<W.heap.size):=⟨h.s.rows,cq h.ro⟩
def oL.put (h:oL q al cl af cf ts fs w U Z W j no v o) (u:Vl):oL q al cl af cf ts fs w U Z ((W.setCell ⟨Z,0,none⟩ (zI u.1)).setCell ⟨Z,1,none⟩ (zI u.2)) j no v u:=by
 have c:=h.s.lt;have f:=h.s.VC;have g:=h.lt2;have a:Kp Z W ((W.setCell ⟨Z,0,none⟩ (zI u.1)).setCell ⟨Z,1,none⟩ (zI u.2)):=(Kp.here (b:=Z) W 0 _).t (Kp.here _ 1 _);have e:Kp q w ((W.setCell ⟨Z,0,none⟩ (zI u.1)).setCell ⟨Z,1,none⟩ (zI u.2)):=(h.s.kp.there Z 0 _ ae c).there Z 1 _ ae c;obtain ⟨i,d⟩:=h.s.Ex;refine ⟨⟨d.kp e (a.blk h.s.at_.row ae),e,a.blk h.s.r0 ae,a.blk h.s.rv ae,c,f,i,d⟩,?_,g⟩;exact ((aj ((aj h.ro 0 _).t rfl) 1 _).t rfl)
def I6 (P:Nat->Nat) (N:Nat->Bool) (O:Nat->Vl) (y:aw ts i=[105,102]) (C:eU q al cl af cf ts fs 155 #[eV q] (i+1+1) v (P 0) (N 0)) (u:∀ n,n<=2->P n<G ts) (hO:O 0=if v.1=1 then cL 2 else v) (D:∀ n,n<2->(N n=false/\v.1=2/\(v.2 == 1)=(n == 0)/\eU q al cl af cf ts fs 155 #[eV q] (P n+1) (O (n+1)) (P (n+1)) (N (n+1)))\/((N n=true\/v.1≠2\/(v.2 == 1)=!(n == 0))/\P (n+1)=jy cH ts (P n+1)/\O (n+1)=O n/\N (n+1)=N n)):eU q al cl af cf ts fs 263 #[eV q] i (O 2) (P 2+1) (N 2):=by
 intro w h;have l:=h.tl;have c:∀ n,n<=2->(P n:Int)<=1000:=λn hn=>a6.2 (bf (lF (u n hn)) l);have HBD:=I c;have VZ:=I u;clear c u l;have H:(i:Int)<=1000:=a6.2 (bf (lF (bP y aq)) h.tl);have z:=I h.pr;have J:=I y;have F:=h.lt;have L:q≠w.heap.size:=cZ F;have A:w.heap.size≠q:=cN F;clear h y;have t:dm 105=false:=ai;have s:bm [105,102]=false:=ai;have K:=I C;have r:=I hO;have HS:=I D;clear C hO D;go_in;go_wp2_with (go_at_call 209;refine mo (fS z.o.at_) ?_;rintro e w1 ⟨rfl,m⟩);have o:=I (z.o.next m);clear m z;rw [J.o];obtain ⟨⟨r0,r1⟩,⟨gK,gL⟩,eP⟩:=o.o.rows;obtain ⟨⟨k0,k1,k2,k3⟩,⟨f0,f1,f2,f3⟩,hsz⟩:=aX o.o.at_.row;apply I;go_wp2_with (go_at_call 76;refine mo (dD _ _) ?_;rintro e w2 ⟨rfl,f⟩);have j:=I ((o.o.inc (i+1)).next f);clear f o r0 r1 gK gL eP;clear k0 k1 k2 k3 f0 f1 f2 f3 hsz;obtain ⟨⟨r0,r1⟩,⟨gK,gL⟩,eP⟩:=j.o.rows
 try rw [s]
 apply I;go_wp2_with (go_at_call 109;refine mo (bR 105 _) ?_;rintro e w3 ⟨rfl,rfl⟩)
 try rw [t]
 obtain ⟨⟨k0,k1,k2,k3⟩,⟨f0,f1,f2,f3⟩,hsz⟩:=aX j.o.at_.row;apply I;go_wp2_with (go_at_call 155;refine mo (K.o _ (j.o.inc (i+1+1)).at_) ?_;rintro e w4 ⟨rfl,g,d⟩);have H4:=I ((j.o.inc (i+1+1)).call d g);clear d g j r0 r1 gK gL eP;clear k0 k1 k2 k3 f0 f1 f2 f3 hsz;have Q:=cZ H4.o.rows.2.2;have B:=cN H4.o.rows.2.2;have R:q≠w4.heap.size:=cZ H4.o.at_.lt;have E:w4.heap.size≠q:=cN H4.o.at_.lt;obtain ⟨⟨r0,r1⟩,⟨gK,gL⟩,eP⟩:=H4.o.rows;have hw4:=H4.o.rows.2.2;have Mh:=H4.o.at_.lt;have p:Hid (oL q al cl af cf ts fs w w4.heap.size (w4.heap.size+1) ((w4.alloc (.cells #[zI v.1,zI v.2] 129)).alloc (.cells #[zI v.1,zI v.2] 129)) (P 0) (N 0) v v):=I ⟨(H4.o.new v).next (bI _ _),bc w4 _ _ _,Nat.lt_succ_self _⟩;by_cases a:v.1=1
 ·have yy:(v.1 == 1)=true:=by simpa using a
  have b:=I (r.o.t (aB a));clear a r;apply I;go_wp2_with (go_at_call 211;refine mo (mR _ _) ?_;rintro e M ⟨rfl,k⟩);have H6:=I (p.o.next k);clear k p r0 r1 gK gL eP;obtain ⟨⟨⟨⟨r0,r1⟩,⟨gK,gL⟩,eP⟩,⟨x0,x1⟩,⟨i6,i7⟩,ja⟩,⟨y0,y1⟩,⟨DZ,D1⟩,D2⟩:=H6.o.rows;have HX:Hid (oL q al cl af cf ts fs w w4.heap.size (w4.heap.size+1) ((M.setCell ⟨w4.heap.size+1,0,none⟩ (zI (cL 2).1)).setCell ⟨w4.heap.size+1,1,none⟩ (zI (cL 2).2)) (P 0) (N 0) v (O 0)):=I (by rw [b.o];exact H6.o.put (cL 2));clear H6 b;apply I;go_wp2_with fail;clear r0 r1 gK gL eP x0 x1 i6 i7 ja y0 y1 DZ D1 D2;go_loopg [11] 2 (λgk x wr=>∃ n:Nat,n<=2/\2<=n+gk/\x=zI n/\Hid (oL q al cl af cf ts fs w w4.heap.size (w4.heap.size+1) wr (P n) (N n) v (O n)))
  case atStart=>exact ⟨0,bE _,aG _,rfl,HX⟩
  case round=>
   exact VY
 ·have yy:(v.1 == 1)=false:=by simpa using a
  have b:=I (r.o.t (aA a));have HX:Hid (oL q al cl af cf ts fs w w4.heap.size (w4.heap.size+1) ((w4.alloc (.cells #[zI v.1,zI v.2] 129)).alloc (.cells #[zI v.1,zI v.2] 129)) (P 0) (N 0) v (O 0)):=I (by rw [b.o];exact p.o);clear a r b p;apply I;go_wp2_with fail;clear r0 r1 gK gL eP;go_loopg [11] 2 (λgk x wr=>∃ n:Nat,n<=2/\2<=n+gk/\x=zI n/\Hid (oL q al cl af cf ts fs w w4.heap.size (w4.heap.size+1) wr (P n) (N n) v (O n)))
  case atStart=>exact ⟨0,bE _,aG _,rfl,HX⟩
  case round=>
   exact VY
end
section
attribute [local go_sem] idx_eq app_eq
variable {w w' W:zW} {v u vb va U O:zV} {P S S':Nat->Prop} {y:Nat} {Z:List (List RF)} {l:List RF}
structure De where
 fs:List RF
 bk:List (List RF)
 ag:List (List RF)
 M:Nat
 op:Bool
 sv:List RF
variable {d:De}
def BS (S:Nat->Prop) (u:zV):Prop:=∀ q,u.ownBlock=some q->S q
def dU.ks {fs:List RF} (h:dU w v fs) (d:Ks P w w') (j:∀ q,v.ownBlock=some q->¬ P q):dU w' v fs:=by
 obtain ⟨m,a,c,rfl,h⟩:=h;refine ⟨m,a,c,rfl,h.imp id ?_⟩;rintro ⟨g,o,rfl,b,n⟩;have e:=d.block g b (j g rfl);refine ⟨g,o,rfl,bG b d.size,λi f r=>?_⟩;obtain ⟨p,k,l,s⟩:=n i f r;exact ⟨(aS e _).t p,(aS e _).t k,(aS e _).t l,(aS e _).t s⟩
def pE (w:zW) (S:Nat->Prop) (v:zV) (Z:List (List RF)):Prop:=∃ us:List zV,dA w v us/\(G us)=G Z/\∀ (j:Nat) (u:zV) (l:List RF),us[j]?=some u->Z[j]?=some l->dU w u l/\BS S u
def pE.ks (h:pE w S v Z) (d:Ks P w w') (e:∀ q,v.ownBlock=some q->¬ P q) (f:∀ q,S q->¬ P q):pE w' S v Z:=by
 obtain ⟨us,g,k,c⟩:=h;exact ⟨us,g.ks d e,k,λj u l b a=>⟨(c j u l b a).1.ks d λq i=>f q ((c j u l b a).2 q i),(c j u l b a).2⟩⟩
def pE.wide (h:pE w S v Z) (d:∀ q,S q->S' q):pE w S' v Z:=by
 obtain ⟨us,e,g,c⟩:=h;exact ⟨us,e,g,λj u l b a=>⟨(c j u l b a).1,λq f=>d q ((c j u l b a).2 q f)⟩⟩
def pE.nil:pE w S (zN) []:=⟨[],Or.inl ⟨rfl,rfl⟩,rfl,λj u l a _=>by simp at a⟩
def nO (w:zW) (S:Nat->Prop) (us:List zV) (Z:List (List RF)):Prop:=G us=G Z/\∀ (j:Nat) (u:zV) (l:List RF),us[j]?=some u->Z[j]?=some l->dU w u l/\BS S u
def pE.mk {us:List zV} (h:dA w v us) (a:nO w S us Z):pE w S v Z:=⟨us,h,a.1,a.2⟩
def nO.ks {us:List zV} (h:nO w S us Z) (e:Ks P w w') (c:∀ q,S q->¬ P q):nO w' S us Z:=⟨h.1,λj u l a b=>⟨(h.2 j u l a b).1.ks e λq d=>c q ((h.2 j u l a b).2 q d),(h.2 j u l a b).2⟩⟩
def nO.snoc {us:List zV} (h:nO w S us Z) (g:dU w u l) (d:BS S u):nO w S (us++[u]) (Z++[l]):=by
 refine ⟨by simp [h.1],λj x m a b=>?_⟩;by_cases c:j<G us
 ·rw [sy c] at a;rw [sy (by rw [<- h.1];exact c)] at b;exact h.2 j x m a b
 ·have f:j<(us++[u]).length:=(fI.1 a).1;have e:j=(G us):=by simp at f;omega
  subst e;rw [qx (aG _),nK] at a;rw [h.1,qx (aG _),nK] at b;cases a;cases b;exact ⟨g,d⟩
def nO.drop {us:List zV} (h:nO w S us Z) (k:Nat):nO w S (us.drop k) (Z.drop k):=by
 refine ⟨by simp [h.1],λj x m a b=>?_⟩;rw [qz] at a b;exact h.2 _ x m a b
def nO.take {us:List zV} (h:nO w S us Z) (k:Nat):nO w S (us.take k) (Z.take k):=by
 refine ⟨by simp [h.1],λj x m a b=>?_⟩;rw [sX] at a b;split at a
 ·rename_i c;rw [aB c] at b;exact h.2 _ x m a b
 ·cases a
def nO.last {us:List zV} (h:nO w S us Z) (n:Nat):nO w S (eI us n) (eI Z n):=by
 unfold eI;rw [<- h.1];exact h.drop _
def kz (y:Nat) (vb va:zV) (q:Nat):Prop:=q=y\/vb.ownBlock=some q\/va.ownBlock=some q
structure dE (w:zW) (S:Nat->Prop) (y:Nat) (vb va:zV) (d:De):Prop where
 row:∃ vf vs,w.heap[y]?=some (.cells #[vf,vb,va,zI d.M,.bool d.op,vs] 114 (0,0))/\(dU w vf d.fs/\BS S vf)/\dU w vs d.sv/\BS S vs
 bk:pE w S vb d.bk
 ag:pE w S va d.ag
 M6:d.M<=6
 len:(G d.bk)<=1000/\(G d.ag)<=1000
 nS:∀ q,S q->¬ kz y vb va q
 ny:vb.ownBlock≠some y/\va.ownBlock≠some y
 nb:∀ q,vb.ownBlock=some q->va.ownBlock≠some q
 lt:∀ q,S q->q<w.heap.size
def dE.abm (h:dE w S y vb va d):y<w.heap.size:=by
 obtain ⟨_,_,h1,_⟩:=h.row;exact Gs
def dE.CF (h:dE w S y vb va d):∀ q,kz y vb va q->q<w.heap.size:=by
 rintro q (rfl|b|b)
 ·exact h.abm
 ·obtain ⟨us,a,_⟩:=h.bk;exact a.lt q b
 ·obtain ⟨us,a,_⟩:=h.ag;exact a.lt q b
def dE.ks (h:dE w S y vb va d) (b:Ks P w w') (e:∀ q,kz y vb va q->¬ P q) (c:∀ q,S q->¬ P q):dE w' S y vb va d:=by
 obtain ⟨l,j,i,⟨m,g⟩,k,f⟩:=h.row;exact ⟨⟨l,j,b.cells i (e y (Or.inl rfl)),⟨m.ks b λq a=>c q (g q a),g⟩,k.ks b λq a=>c q (f q a),f⟩,h.bk.ks b (λq a=>e q (Or.inr (Or.inl a))) c,h.ag.ks b (λq a=>e q (Or.inr (Or.inr a))) c,h.M6,h.len,h.nS,h.ny,h.nb,λq a=>bG (h.lt q a) b.size⟩
def dE.next (h:dE w S y vb va d) (a:zB w w'):dE w' S y vb va d:=h.ks (P:=λ_=>False) (Ks.of a) (λ_ _ h=>h) λ_ _ h=>h
def dE.wide (h:dE w S y vb va d) (a:∀ q,S q->S' q) (l:∀ q,S' q->¬ kz y vb va q) (e:∀ q,S' q->q<w.heap.size):dE w S' y vb va d:=by
 obtain ⟨i,f,c,⟨j,m⟩,g,k⟩:=h.row;exact ⟨⟨i,f,c,⟨j,λq b=>a q (m q b)⟩,g,λq b=>a q (k q b)⟩,h.bk.wide a,h.ag.wide a,h.M6,h.len,l,h.ny,h.nb,e⟩
def jS:dU w (zN) []:=⟨bE _,none,0,rfl,Or.inl rfl⟩
def Bf:BS S (zN):=λq hq=>pI
def dE.put {c b:zV} {d':De} (h:dE w S y vb va d) (k:Ks (kz y vb va) w w') (m:w'.heap[y]?=some (.cells #[c,U,O,zI d'.M,.bool d'.op,b] 114 (0,0))) (j:dU w' c d'.fs/\BS S c) (hs:dU w' b d'.sv/\BS S b) (i:pE w' S U d'.bk) (n:pE w' S O d'.ag) (l:d'.M=d.M) (o:(G d'.bk)<=1000/\(G d'.ag)<=1000)
  (f:∀ q,U.ownBlock=some q->q≠y/\¬ S q/\O.ownBlock≠some q) (g:∀ q,O.ownBlock=some q->q≠y/\¬ S q):dE w' S y U O d':=by
 refine ⟨⟨c,b,m,j,hs⟩,i,n,l▸h.M6,o,?_,⟨λe=>(f y e).1 rfl,λe=>(g y e).1 rfl⟩,λq a=>(f q a).2.2,λq a=>bG (h.lt q a) k.size⟩;rintro q a (rfl|e|e)
 ·exact h.nS q a (Or.inl rfl)
 ·exact (f q e).2.1 a
 ·exact (g q e).2 a
def eC {w:zW} {q:Nat} {v0 v1 v2 v3 v4 v5:zV} {t:TypeId} (h:w.heap[q]?=some (.cells #[v0,v1,v2,v3,v4,v5] t (0,0))) :
  (w.cell? ⟨q,0,none⟩=some v0/\w.cell? ⟨q,1,none⟩=some v1/\w.cell? ⟨q,2,none⟩=some v2/\w.cell? ⟨q,3,none⟩=some v3/\w.cell? ⟨q,4,none⟩=some v4/\w.cell? ⟨q,5,none⟩=some v5)/\(w.frozen? ⟨q,0,none⟩=false/\w.frozen? ⟨q,1,none⟩=false/\w.frozen? ⟨q,2,none⟩=false/\w.frozen? ⟨q,3,none⟩=false/\w.frozen? ⟨q,4,none⟩=false/\w.frozen? ⟨q,5,none⟩=false)/\q<w.heap.size:=
 ⟨⟨(bq w q 0 _ _ _ h).t rfl,(bq w q 1 _ _ _ h).t rfl,(bq w q 2 _ _ _ h).t rfl,(bq w q 3 _ _ _ h).t rfl,(bq w q 4 _ _ _ h).t rfl,(bq w q 5 _ _ _ h).t rfl⟩,⟨bF h 0,bF h 1,bF h 2,bF h 3,bF h 4,bF h 5⟩,(cz.1 h).1⟩
def ju {w:zW} {q:Nat} {v0 v1 v2 v3 v4 v5 x:zV} {t:TypeId} (h:w.heap[q]?=some (.cells #[v0,v1,v2,v3,v4,v5] t (0,0))) :
  (w.setCell ⟨q,0,none⟩ x).heap[q]?=some (.cells #[x,v1,v2,v3,v4,v5] t (0,0))/\(w.setCell ⟨q,1,none⟩ x).heap[q]?=some (.cells #[v0,x,v2,v3,v4,v5] t (0,0))/\(w.setCell ⟨q,2,none⟩ x).heap[q]?=some (.cells #[v0,v1,x,v3,v4,v5] t (0,0))/\(w.setCell ⟨q,4,none⟩ x).heap[q]?=some (.cells #[v0,v1,v2,v3,x,v5] t (0,0))/\(w.setCell ⟨q,5,none⟩ x).heap[q]?=some (.cells #[v0,v1,v2,v3,v4,x] t (0,0)):=
 ⟨(aj h 0 x).t rfl,(aj h 1 x).t rfl,(aj h 2 x).t rfl,(aj h 4 x).t rfl,(aj h 5 x).t rfl⟩
def dE.J1 {g f:zV} {d':De} (h:dE w S y vb va d) (b:Ks (λq=>q=y) w w') (n:w'.heap[y]?=some (.cells #[g,vb,va,zI d'.M,.bool d'.op,f] 114 (0,0))) (i:dU w g d'.fs/\BS S g) (hs:dU w f d'.sv/\BS S f) (j:d'.bk=d.bk) (l:d'.ag=d.ag) (m:d'.M=d.M):dE w' S y vb va d'/\Ks (kz y vb va) w w':=by
 have k:Ks (kz y vb va) w w':=b.wide λq a=>Or.inl a;have c:∀ q,S q->¬ q=y:=λq a e=>h.nS q a (Or.inl e);refine ⟨h.put k n ⟨i.1.ks b λq a=>c q (i.2 q a),i.2⟩ ⟨hs.1.ks b λq a=>c q (hs.2 q a),hs.2⟩ (j▸h.bk.ks b (λq a e=>h.ny.1 (e▸a)) c) (l▸h.ag.ks b (λq a e=>h.ny.2 (e▸a)) c) m (by rw [j,l];exact h.len) (λq a=>⟨λe=>h.ny.1 (e▸a),λhs=>h.nS q hs (Or.inr (Or.inl a)),h.nb q a⟩) (λq a=>⟨λe=>h.ny.2 (e▸a),λhs=>h.nS q hs (Or.inr (Or.inr a))⟩),k⟩
def rN (d:De):De:={ d with fs:=d.sv,sv:=[],op:=false }
def uP (h:dE w S y vb va d):zC prog 82 #[zJ y] w λr w'=>r=.returned (.tuple #[])/\dE w' S y vb va (rN d)/\Ks (kz y vb va) w w':=by
 obtain ⟨x,j,b,k,hs⟩:=h.row;obtain ⟨⟨c0,c1,c2,c3,c4,c5⟩,⟨z0,A,z,u,o,p⟩,s⟩:=eC b;have g:=I h;have i:=I b;have f:=I hs;clear h b hs k;obtain ⟨n,m,t,rfl⟩:∃ a l c,j=.slice a l c:=by
  obtain ⟨_,a,c,e,_⟩:=f.o.1;exact ⟨a,_,c,e⟩
 go_in;go_wp2_with fail;refine bodyPost_end (v:=.tuple #[]) (by simp [results,results82,go_sem]) rfl ?_;exact ⟨rfl,g.o.J1 ((((Ks.refl (λq=>q=y) w).set y 0 _ rfl).set y 5 _ rfl).set y 4 _ rfl) (ju (ju (ju i.o).1).2.2.2.2).2.2.2.1 f.o ⟨jS,Bf⟩ rfl rfl rfl⟩
def Hl (d:De):De:={ d with op:=true,sv:=d.fs }
def CG (d:De) (l:List RF):De:={ d with bk:=eI (d.bk++[l]) d.M,ag:=[] }
def ES (h:dE w S y vb va d) (N:dU w u l) (hS:BS S u) (hl:(G d.bk)<=900):zC prog 118 #[zJ y,u] w λr w'=>∃ U,r=.returned (.tuple #[])/\dE w' S y U (zN) (CG d l)/\Ks (kz y vb va) w w'/\OZ w vb U:=by
 obtain ⟨vf,vs,J,hf,hs⟩:=h.row;obtain ⟨⟨c0,c1,c2,c3,c4,c5⟩,⟨z0,z1,z2,z3,z4,z5⟩,hz⟩:=eC J;obtain ⟨us,o,f,C⟩:=h.bk;have n:=I h;have HR:=I J;have Q:=I hs;have L:=I hf;have HU:=I o;have A:=I f;obtain ⟨H,F,rfl,hb3,hb4⟩:=o.len;obtain ⟨hun,R,P,rfl,-⟩:=id N;have HX:=I N;have t:Hid (G us<=1000000):=I (by rw [f];omega);obtain ⟨us1,j⟩:∃ us1,Hid (us++[Value.slice R (G l) P]=us1):=⟨_,I rfl⟩;have x:Hid (G us1<=1000000):=I (by rw [<- j.o,b6,f];simp;omega);have K:=I C;have Z:=I h.M6;have V:=I h.ny;have s:Hid (∀ w1,Ks (λq=>(Value.slice H (G us) F).ownBlock=some q) (w.alloc (.cells #[.slice R (G l) P] 111)) w1->w1.heap[y]?=some (.cells #[vf,.slice H (G us) F,va,zI d.M,.bool d.op,vs] 114 (0,0))):=I λw1 k=>k.cells (tP J _) h.ny.1;clear h J hs hf o f C N;go_in;go_wp2_with (at_builtin;refine rL rfl (.tmp 8) (.tmp 10) rfl rfl (HU.o.next (bI _ _)) t.o rfl (bC w [.slice R (G l) P] 111 0 _ rfl) rfl ?_;intro v1 w1 a b c;apply Hid.o);obtain ⟨⟨c0,c1,c2,c3,c4,c5⟩,⟨z0,z1,z2,z3,z4,z5⟩,hz⟩:=eC (s.o w1 b);rw [j.o] at a;obtain ⟨a1,l1,rfl,-,-⟩:=a.len;have W:=I a;have E:=I b;have z:=I c;clear a b c;apply I;go_wp2_with (go_at_call 153;refine mo (ER d.M Z.o W.o x.o) ?_;rintro e w2 ⟨v2,rfl,rfl,m,B⟩);obtain ⟨a2,O,rfl,-,-⟩:=m.len;have wK:=I m;have p:=I B;clear m B;apply I;go_wp2_with fail;refine bodyPost_end (v:=.tuple #[]) (by simp [results,results118,go_sem]) rfl ?_;have T:Ks (kz y (.slice H (G us) F) va) w w2:=(Ks.of (bI w _)).t (E.o.wide λq hq=>Or.inr (Or.inl hq));have k:Ks (kz y (.slice H (G us) F) va) w ((w2.setCell ⟨y,1,none⟩ (.slice a2 (eI us1 d.M).length O)).setCell ⟨y,2,none⟩ (zN)):=(T.set y 1 _ (Or.inl rfl)).set y 2 _ (Or.inl rfl);have Y:Ks (λq=>q=y) w2 ((w2.setCell ⟨y,1,none⟩ (.slice a2 (eI us1 d.M).length O)).setCell ⟨y,2,none⟩ (zN)):=((Ks.refl (λq=>q=y) w2).set y 1 _ rfl).set y 2 _ rfl;have i:∀ q,(Value.slice a2 (eI us1 d.M).length O).ownBlock=some q->q≠y/\¬ S q:=λq hq=>by
  rw [p.o] at hq;rcases z.o with e|⟨g,e,X⟩
  ·rw [e] at hq;exact ⟨λM=>V.o.1 (M▸hq),λhs=>n.o.nS q hs (Or.inr (Or.inl hq))⟩
  ·rw [e] at hq;cases hq;have D:w.heap.size<=q:=bf (bI w _).size X;exact ⟨λM=>iC _ (bG (M▸n.o.abm) D),λhs=>iC _ (bG (n.o.lt q hs) D)⟩
 refine ⟨_,rfl,n.o.put (d':=CG d l) k (ju (ju (s.o w2 E.o)).2.1).2.2.1 ⟨L.o.1.ks k λq hq=>n.o.nS q (L.o.2 q hq),L.o.2⟩ ⟨Q.o.1.ks k λq hq=>n.o.nS q (Q.o.2 q hq),Q.o.2⟩ ?_ pE.nil rfl ?_ (λq hq=>⟨(i q hq).1,(i q hq).2,λe=>iM⟩) (λq hq=>pI),k,?_⟩
 ·refine pE.mk (wK.o.ks Y λq hq=>(i q hq).1) ?_;have he:nO w S us d.bk:=⟨A.o,K.o⟩;have:=((he.snoc HX.o hS).ks k n.o.nS).last d.M;rw [j.o] at this;exact this
 ·have:=A.o;have h1:=t.o;refine ⟨?_,bE _⟩;show (eI (d.bk++[l]) d.M).length<=1000;unfold eI;rw [mG,b6];simp;omega
 ·rcases z.o with e|⟨g,e,X⟩
  ·exact Or.inl (p.o.t e)
  ·exact Or.inr ⟨g,p.o.t e,bf (bI w _).size X⟩
end
end Go.Proofs.YtihgojcfpnhelaaGreatDoor
