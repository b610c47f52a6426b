import Derived.Test.YtihgojcfpnhelaaGreatDoorEj
set_option maxRecDepth 100000
set_option maxHeartbeats 4000000
set_option linter.all false
namespace Go.Proofs.YtihgojcfpnhelaaGreatDoor
open Value renaming slice->B,tuple->zp,bool->zF
open Obj renaming cells->zM
open Ending renaming returned->zP
open Option renaming some->A
open Or renaming inl->zR,inr->zZ
open Go renaming World->zW,Value->zV,Calls->zC,Addr->zD
open Go.RowKit Go.Proofs.Tryz
open List renaming length→G
section
attribute [local go_sem] ap aq
variable {w w' W:zW} {q cl cf i O j k:Nat} {al af:Option zD} {K:List (By × Nat)} {fs:List RF} {no U:Bool} {v v' u:Vl}
def eU (q:Nat) (al:Option zD) (cl:Nat) (af:Option zD) (cf:Nat) (K:List (By × Nat)) (fs:List RF) (F:FuncId) (args:Array zV) (i:Nat) (v:Vl) (k:Nat) (no:Bool):Prop:=
 ∀ w,gp q al cl af cf K fs w i false->zC prog F args w λr w'=>r=zP (gH v)/\gp q al cl af cf K fs w' k no/\Kp q w w'
abbrev eV (q:Nat):zV:=zJ q
abbrev bx (t:By):zV:=Q t
def tP {r:Nat} {o:Obj} (h:W.heap[r]?=A o) (a:Obj):(W.alloc a).heap[r]?=A o:=
 (((aM W.heap.size W).alloc (aG _) a).block r (cz.1 h).1).t h
def bI (W:zW) (o:Obj):zB W (W.alloc o):=(aM _ _).alloc (aG _) _
def mw (t:eU q al cl af cf K fs 185 #[eV q,bx [111,114]] i v j no) (y:j<=G K):eU q al cl af cf K fs 155 #[eV q] i v (jy cH K j) no:=by
 intro w h;have D:=I t;have z:=I h;have C:=I y;have k:=h.lt;clear t h y;go_in;go_wp2_with (go_at_call 185;refine mo (D.o _ (z.o.next (bZ _))) ?_;rintro e N ⟨rfl,f,c⟩);have o:=c.blk (bL w _) (cN k);obtain ⟨⟨u,s⟩,⟨n,p⟩,b⟩:=cq o;have E:=I c;have R:=I f;have P:=I o;clear c f o;apply I;go_wp2_with (go_at_call 186;refine mo (BW (R.o.next (bZ _)) C.o) ?_;rintro e V ⟨rfl,g,a⟩);have d:q<N.heap.size:=bG k (lF b);obtain ⟨⟨M,L⟩,⟨S,T⟩,H⟩:=cq (a.blk (bL N _) (cN d));obtain ⟨⟨u,s⟩,⟨n,p⟩,x⟩:=cq (a.blk (tP P.o _) (cN k));have m:=I a;have l:=I g;have F:N.heap.size≠w.heap.size:=cN b;have r:w.heap.size≠N.heap.size:=cZ b;clear a g;apply I;go_wp2_with fail;refine aK (v:=gH v) (by simp [results,results155,go_sem,u,s]) rfl ?_;exact ⟨rfl,z.o.AA (((Kp.of (bI w _) k).t E.o).t ((Kp.of (bI N _) d).t m.o)) l.o (aG _) _ _⟩
def VA (c:eU q al cl af cf K fs 185 #[eV q,bx [97,110,100]] i v j no):eU q al cl af cf K fs 208 #[eV q,bx [111,114]] i v j no:=by
 intro w h;have m:=I c;have f:=I h;have d:=h.lt;clear c h;go_in;go_wp2_with (go_at_call 185;refine mo (m.o _ (f.o.next (bI _ _))) ?_;rintro e E ⟨rfl,b,a⟩);obtain ⟨⟨C,D⟩,⟨g,n⟩,k⟩:=cq (a.blk (bL w _) (cN d));have l:=I a;have o:=I b;clear a b;apply I;go_wp2_with fail;refine aK (v:=gH v) (by simp [results,results208,go_sem,C,D]) rfl ?_;exact ⟨rfl,f.o.AA ((Kp.of (bI w _) d).t l.o) o.o (aG _) _ _⟩
def VB (c:eU q al cl af cf K fs 232 #[eV q] i v j no):eU q al cl af cf K fs 208 #[eV q,bx [97,110,100]] i v j no:=by
 intro w h;have m:=I c;have f:=I h;have d:=h.lt;clear c h;go_in;go_wp2_with (go_at_call 232;refine mo (m.o _ (f.o.next (bI _ _))) ?_;rintro e E ⟨rfl,b,a⟩);obtain ⟨⟨C,D⟩,⟨g,n⟩,k⟩:=cq (a.blk (bL w _) (cN d));have l:=I a;have o:=I b;clear a b;apply I;go_wp2_with fail;refine aK (v:=gH v) (by simp [results,results208,go_sem,C,D]) rfl ?_;exact ⟨rfl,f.o.AA ((Kp.of (bI w _) d).t l.o) o.o (aG _) _ _⟩
inductive zA (C:Nat->Vl->Nat->Bool->Prop) (K:List (By × Nat)) (n:Nat):Vl->Bool->Nat->Vl->Nat->Bool->Prop
 | stop (v:Vl) (no:Bool) (i:Nat):b5 (aw K i) (dc n)=false\/dY v no=true->zA C K n v no i v i no
 | bad (v u:Vl) (i j:Nat) (no:Bool):b5 (aw K i) (dc n)=true->dY v false=false->C (i+1) u j no->dY u no=true->zA C K n v false i u j no
 | go (v u v':Vl) (i j k:Nat) (no:Bool):b5 (aw K i) (dc n)=true->dY v false=false->C (i+1) u j false->i<j->j<=G K->dY u false=false->zA C K n (dK v (aw K i) u) false j v' k no->zA C K n v false i v' k no
structure jG (q:Nat) (al:Option zD) (cl:Nat) (af:Option zD) (cf:Nat) (K:List (By × Nat)) (fs:List RF) (w:zW) (Z:Nat) (W:zW) (j:Nat) (no:Bool) (v:Vl):Prop where
 at_:gp q al cl af cf K fs W j no
 kp:Kp q w W
 r0:W.heap[w.heap.size]?=A (zM #[J 0,J 0] 129 (0,0))
 rv:W.heap[Z]?=A (zM #[J v.1,J v.2] 129 (0,0))
 lt:q<w.heap.size
 VC:w.heap.size<Z
 Ex:∃ i0,gp q al cl af cf K fs w i0 false
variable {Z:Nat}
def jG.next (h:jG q al cl af cf K fs w Z W j no v) (a:zB W w'):jG q al cl af cf K fs w Z w' j no v:=
 ⟨h.at_.next a,h.kp.next a h.at_.lt,(a.block _ (cz.1 h.r0).1).t h.r0,(a.block _ (cz.1 h.rv).1).t h.rv,h.lt,h.VC,h.Ex⟩
def jG.call (h:jG q al cl af cf K fs w Z W j no v) (a:Kp q W w') (b:gp q al cl af cf K fs w' O U):jG q al cl af cf K fs w Z w' O U v:=
 ⟨b,h.kp.t a,a.blk h.r0 (cN h.lt),a.blk h.rv (cN (wF h.lt h.VC)),h.lt,h.VC,h.Ex⟩
def jG.inc (h:jG q al cl af cf K fs w Z W j no v) (a:Nat):jG q al cl af cf K fs w Z (W.setCell (X q 1) (J a)) a no v:=
 h.call (Kp.here _ 1 _) (h.at_.Q7 a)
def jG.rows (h:jG q al cl af cf K fs w Z W j no v):((W.cell? (yh w.heap.size)=A (J 0)/\W.cell? (X w.heap.size 1)=A (J 0))/\(W.frozen? (yh w.heap.size)=false/\W.frozen? (X w.heap.size 1)=false)/\w.heap.size<W.heap.size)/\((W.cell? (yh Z)=A (J v.1)/\W.cell? (X Z 1)=A (J v.2))/\(W.frozen? (yh Z)=false/\W.frozen? (X Z 1)=false)/\Z<W.heap.size):=⟨cq h.r0,cq h.rv⟩
def jG.o (h:jG q al cl af cf K fs w Z W j no v) (v0 v1:zV):gp q al cl af cf K fs ((W.setCell (yh w.heap.size) v0).setCell (X w.heap.size 1) v1) j no/\Kp q w ((W.setCell (yh w.heap.size) v0).setCell (X w.heap.size 1) v1):=
 h.Ex.elim λ_ a=>a.AA h.kp h.at_ (aG _) v0 v1
def zA.inv {C:Nat->Vl->Nat->Bool->Prop} {n:Nat} (h:zA C K n v no j v' k U) :
  ((b5 (aw K j) (dc n)=false\/dY v no=true)/\v'=v/\k=j/\U=no) \/
  (b5 (aw K j) (dc n)=true/\dY v no=false/\no=false/\C (j+1) v' k U/\dY v' U=true) \/
  (b5 (aw K j) (dc n)=true/\dY v no=false/\no=false/\∃ u a,C (j+1) u a false/\j<a/\a<=G K/\dY u false=false/\zA C K n (dK v (aw K j) u) false a v' k U):=by
 cases h with
 | stop _ _ _ h=>exact zR ⟨h,rfl,rfl,rfl⟩
 | bad _ _ _ _ _ b c e d=>exact zZ (zR ⟨b,c,rfl,e,d⟩)
 | go _ u _ _ a _ _ b c e d i g f=>exact zZ (zZ ⟨b,c,rfl,u,a,e,d,i,g,f⟩)
def jG.put (h:jG q al cl af cf K fs w Z W j no v) (u:Vl):jG q al cl af cf K fs w Z ((W.setCell (yh Z) (J u.1)).setCell (X Z 1) (J u.2)) j no u:=by
 have a:=h.lt;have f:=h.VC;have c:Kp Z W ((W.setCell (yh Z) (J u.1)).setCell (X Z 1) (J u.2)):=(Kp.here (b:=Z) W 0 _).t (Kp.here _ 1 _);have e:Kp q w ((W.setCell (yh Z) (J u.1)).setCell (X Z 1) (J u.2)):=(h.kp.there Z 0 _ (by omega) a).there Z 1 _ (by omega) a;obtain ⟨g,d⟩:=h.Ex;refine ⟨d.kp e (c.blk h.at_.row (by omega)),e,c.blk h.r0 (by omega),?_,a,f,g,d⟩
 .exact ((aj ((aj h.rv 0 _).t rfl) 1 _).t rfl)
set_option maxHeartbeats 16000000 in
def LQ {n F H:Nat} (R:(n=4/\F=261/\H=255)\/(n=5/\F=263/\H=261)) (hp:eU q al cl af cf K fs F #[eV q] i v j no) (T:j<=G K) (Q0:zA (eU q al cl af cf K fs F #[eV q]) K n v no j v' k U):eU q al cl af cf K fs H #[eV q] i v' k U:=by
 obtain ⟨Y,hY⟩:∃ Y,Hid (Y=zA (eU q al cl af cf K fs F #[eV q]) K n):=⟨_,I rfl⟩;rw [<- hY.o] at Q0;rcases R with ⟨R,rfl,rfl⟩|⟨R,rfl,rfl⟩
 all_goals
  intro w h;have HP:=I hp;have HS:=I h;have HC:=I Q0;have E:=h.lt;have TT:(G K:Int)<=1000:=a6.2 h.tl;clear hp h Q0;go_in;go_wp2_with ((first|go_at_call 261|go_at_call 263);refine mo (HP.o _ (HS.o.next (bI _ _))) ?_;rintro e L ⟨rfl,hn,kL⟩);have Z:=kL.blk (bL w _) (cN E);have a:=(cz.1 Z).1;have HK:=I kL;have HA:=I hn;have hR:=I Z;have Q4:q<L.heap.size:=bG E (lF a);have ay:L.heap.size≠w.heap.size:=cN a;have RY:w.heap.size≠L.heap.size:=cZ a;have aJ:q≠w.heap.size:=cZ E;have ak:w.heap.size≠q:=cN E;have am:q≠L.heap.size:=cZ Q4;have Q6:L.heap.size≠q:=cN Q4;have r0:Hid (jG q al cl af cf K fs w L.heap.size (L.alloc (zM #[J v.1,J v.2] 129)) j no v):=I ⟨HA.o.next (bI _ _),((Kp.of (bI w _) E).t HK.o).t (Kp.of (bI L _) Q4),tP hR.o _,bL L _,E,a,i,HS.o⟩;clear kL hn Z a HK HA hR HP;apply I;go_wp2_with fail;go_loopg [] (G K - j) (λgk wr=>∃ (j:Nat) (v:Vl) (no:Bool),G K<=j+gk/\j<=G K/\Hid (Y v no j v' k U/\jG q al cl af cf K fs w L.heap.size wr j no v))
  case atStart=>exact ⟨j,v,no,jD (Nat.add_sub_cancel' T).symm,T,I ⟨HC.o,r0.o⟩⟩
  case round=>
   clear r0 HC T;obtain ⟨j,v,no,xA,T,F⟩:=hrel;obtain ⟨⟨⟨N,P⟩,⟨d,c⟩,a⟩,⟨x,s⟩,⟨g,b⟩,f⟩:=F.o.2.rows;have ax:(j:Int)<=1000:=a6.2 (bf T F.o.2.at_.tl);go_wp2_with (go_at_call 209;refine mo (fS F.o.2.at_) ?_;rintro e w2 ⟨rfl,QT⟩);have V:=I (F.o.2.next QT);clear QT N P d c a x s g b f;obtain ⟨⟨⟨N,P⟩,⟨d,c⟩,a⟩,⟨x,s⟩,⟨g,b⟩,f⟩:=V.o.rows;apply I;go_wp2_with (go_at_call 210;refine mo (dC v V.o.at_) ?_;rintro e w3 ⟨rfl,w4⟩);have z:=I (V.o.next w4);clear w4 V N P d c a x s g b f;obtain ⟨⟨⟨N,P⟩,⟨d,c⟩,a⟩,⟨x,s⟩,⟨g,b⟩,f⟩:=z.o.rows;obtain ⟨⟨k0,k1,k2,k3⟩,⟨f0,f1,f2,f3⟩,O⟩:=aX z.o.at_.row;have HB:=I (λ(u:Vl) (W:zW) hs=>DM v (aw K j) u hs W);have yA:=F.o.1;rw [hY.o] at yA;have y:=I yA.inv;clear F yA;generalize aw K j=t at *;rcases y.o with ⟨m,rfl,rfl,rfl⟩|⟨D,m,rfl,Q0,w1⟩|⟨D,m,rfl,u,r,Q0,ag,Jp,w1,QV⟩
   .clear y HB;cases D:b5 t (dc n)
    .try have ar:(t == [43])=false:=bo.2 (λh=>by rw [h,R] at D;exact absurd D (by decide))
     try have au:(t == [45])=false:=bo.2 (λh=>by rw [h,R] at D;exact absurd D (by decide))
     try have ao:(t == [42])=false:=bo.2 (λh=>by rw [h,R] at D;exact absurd D (by decide))
     try have av:(t == [47])=false:=bo.2 (λh=>by rw [h,R] at D;exact absurd D (by decide))
     try have an:(t == [37])=false:=bo.2 (λh=>by rw [h,R] at D;exact absurd D (by decide))
     clear m D;generalize dY _ _=sb at *;apply I;go_wp2_with fail;refine aK (v:=gH v') (by simp [results,results255,results261,go_sem,N,P]) rfl ?_;exact ⟨rfl,z.o.o _ _⟩
    .have ac:=m.resolve_left (by rw [D];simp);clear m;rcases dI D with ⟨h,_⟩|⟨h,_⟩|⟨h,_⟩|⟨h,rfl|rfl⟩|⟨h,rfl|rfl|rfl⟩<;>try exact absurd (R.symm.t h) (by decide)
     all_goals
      clear D;rw [ac];apply I;go_wp2_with fail;refine aK (v:=gH v') (by simp [results,results255,results261,go_sem,N,P]) rfl ?_;exact ⟨rfl,z.o.o _ _⟩
   .have C:=I Q0;clear Q0 y HB
    try rw [m]
    rcases dI D with ⟨h,_⟩|⟨h,_⟩|⟨h,_⟩|⟨h,rfl|rfl⟩|⟨h,rfl|rfl|rfl⟩<;>try exact absurd (R.symm.t h) (by decide)
    all_goals
     clear D;apply I;go_wp2_with ((first|go_at_call 261|go_at_call 263);refine mo (C.o _ (z.o.inc (j+1)).at_) ?_;rintro e S ⟨rfl,p,o⟩);have n:=I ((z.o.inc (j+1)).call o p);clear o p N P d c a x s g b f k0 k1 k2 k3 f0 f1 f2 f3 O;apply I;go_wp2_with (go_at_call 210;refine mo (dC v' (n.o.next (bI _ _)).at_) ?_;rintro e w5 ⟨rfl,l⟩);have ad:w.heap.size≠S.heap.size:=cZ n.o.rows.1.2.2;have j2:S.heap.size≠w.heap.size:=cN n.o.rows.1.2.2;have Y:L.heap.size≠S.heap.size:=cZ n.o.rows.2.2.2;have aa:S.heap.size≠L.heap.size:=cN n.o.rows.2.2.2;have M:=I ((n.o.next (bI _ _)).next l);obtain ⟨⟨y0,y1⟩,⟨r1,hj⟩,H⟩:=cq ((l.block _ (by simp)).t (bL S _));clear l;obtain ⟨⟨⟨N,P⟩,⟨d,c⟩,a⟩,⟨x,s⟩,⟨g,b⟩,f⟩:=M.o.rows
     try rw [w1]
     apply I;go_wp2_with fail;refine aK (v:=gH v') (by simp [results,results255,results261,go_sem,N,P]) rfl ?_;exact ⟨rfl,M.o.o _ _⟩
   .have C:=I Q0;have D6:=I QV;have HM:=I (show (G K) - r<gk/\G K<=r+(G K - r) from ⟨by omega,by omega⟩);clear Q0 QV y
    try rw [m]
    rcases dI D with ⟨h,_⟩|⟨h,_⟩|⟨h,_⟩|⟨h,rfl|rfl⟩|⟨h,rfl|rfl|rfl⟩<;>try exact absurd (R.symm.t h) (by decide)
    all_goals
     clear D;apply I;go_wp2_with ((first|go_at_call 261|go_at_call 263);refine mo (C.o _ (z.o.inc (j+1)).at_) ?_;rintro e S ⟨rfl,p,o⟩);have n:=I ((z.o.inc (j+1)).call o p);clear o p N P d c a x s g b f k0 k1 k2 k3 f0 f1 f2 f3 O;apply I;go_wp2_with (go_at_call 210;refine mo (dC u (n.o.next (bI _ _)).at_) ?_;rintro e w5 ⟨rfl,l⟩);have ad:w.heap.size≠S.heap.size:=cZ n.o.rows.1.2.2;have j2:S.heap.size≠w.heap.size:=cN n.o.rows.1.2.2;have Y:L.heap.size≠S.heap.size:=cZ n.o.rows.2.2.2;have aa:S.heap.size≠L.heap.size:=cN n.o.rows.2.2.2;have M:=I ((n.o.next (bI _ _)).next l);obtain ⟨⟨y0,y1⟩,⟨r1,hj⟩,H⟩:=cq ((l.block _ (by simp)).t (bL S _));clear l;obtain ⟨⟨⟨N,P⟩,⟨d,c⟩,a⟩,⟨x,s⟩,⟨g,b⟩,f⟩:=M.o.rows
     try rw [w1]
     apply I;go_wp2_with (go_at_call 256;refine mo (HB.o u _ (by simp)) ?_;rintro e w6 ⟨rfl,Q5⟩);have H6:=I (M.o.next Q5);clear Q5 N P d c a x s g b f y0 y1 r1 hj H;obtain ⟨⟨⟨N,P⟩,⟨d,c⟩,a⟩,⟨x,s⟩,⟨g,b⟩,f⟩:=H6.o.rows;generalize dK v _ u=vb at *;apply I;go_wp2_with fail;go_roundg (G K - r)
     case measure=>exact HM.o.1
     case rel=>exact ⟨r,vb,false,HM.o.2,Jp,I ⟨by rw [hY.o];exact D6.o,H6.o.put vb⟩⟩
end
section
attribute [local go_sem] ap aq
variable {w w' W:zW} {q cl cf i U j k:Nat} {al af:Option zD} {K:List (By × Nat)} {fs:List RF} {no Z:Bool} {v v' u:Vl}
structure vI (q:Nat) (al:Option zD) (cl:Nat) (af:Option zD) (cf:Nat) (K:List (By × Nat)) (fs:List RF) (w:zW) (W:zW) (j:Nat) (no:Bool):Prop where
 at_:gp q al cl af cf K fs W j no
 kp:Kp q w W
 r0:W.heap[w.heap.size]?=A (zM #[J 0,J 0] 129 (0,0))
 lt:q<w.heap.size
 Ex:∃ i0,gp q al cl af cf K fs w i0 false
def gp.pr (h:gp q al cl af cf K fs w i false):vI q al cl af cf K fs w (w.alloc (zM #[J 0,J 0] 129)) i false:=
 ⟨h.next (bI _ _),Kp.of (bI w _) h.lt,bL w _,h.lt,i,h⟩
def vI.next (h:vI q al cl af cf K fs w W j no) (a:zB W w'):vI q al cl af cf K fs w w' j no:=
 ⟨h.at_.next a,h.kp.next a h.at_.lt,(a.block _ (cz.1 h.r0).1).t h.r0,h.lt,h.Ex⟩
def vI.call (h:vI q al cl af cf K fs w W j no) (a:Kp q W w') (b:gp q al cl af cf K fs w' U Z):vI q al cl af cf K fs w w' U Z:=
 ⟨b,h.kp.t a,a.blk h.r0 (cN h.lt),h.lt,h.Ex⟩
def vI.inc (h:vI q al cl af cf K fs w W j no) (a:Nat):vI q al cl af cf K fs w (W.setCell (X q 1) (J a)) a no:=
 h.call (Kp.here _ 1 _) (h.at_.Q7 a)
def vI.rows (h:vI q al cl af cf K fs w W j no):(W.cell? (yh w.heap.size)=A (J 0)/\W.cell? (X w.heap.size 1)=A (J 0))/\(W.frozen? (yh w.heap.size)=false/\W.frozen? (X w.heap.size 1)=false)/\w.heap.size<W.heap.size:=cq h.r0
def vI.new (h:vI q al cl af cf K fs w W j no) (v:Vl):jG q al cl af cf K fs w W.heap.size (W.alloc (zM #[J v.1,J v.2] 129)) j no v:=
 ⟨h.at_.next (bI _ _),h.kp.t (Kp.of (bI W _) h.at_.lt),tP h.r0 _,bL W _,h.lt,(cz.1 h.r0).1,h.Ex⟩
def vI.o (h:vI q al cl af cf K fs w W j no) (v0 v1:zV):gp q al cl af cf K fs ((W.setCell (yh w.heap.size) v0).setCell (X w.heap.size 1) v1) j no/\Kp q w ((W.setCell (yh w.heap.size) v0).setCell (X w.heap.size 1) v1):=
 h.Ex.elim λ_ a=>a.AA h.kp h.at_ (aG _) v0 v1
def mx (E:aw K i=[110,111,116]) (V:eU q al cl af cf K fs 232 #[eV q] (i+1) v j no):eU q al cl af cf K fs 232 #[eV q] i (if no=true then v else nH (aP 2 v)) j no:=by
 obtain ⟨s,l⟩:∃ s,Hid ((if no=true then v else nH (aP 2 v))=s):=⟨_,I rfl⟩;rw [l.o];intro w h;have Q5:(i:Int)<=1000:=a6.2 (bf (lF (bP E (by simp))) h.tl);have r1:=I V;have F:=I h.pr;have hv:=I E;have L:=h.lt;have Q4:q≠w.heap.size:=cZ L;have Q0:w.heap.size≠q:=cN L;clear V h E;go_in;go_wp2_with (go_at_call 209;refine mo (fS F.o.at_) ?_;rintro e w1 ⟨rfl,n⟩);have x:=I (F.o.next n);clear n F;rw [hv.o];obtain ⟨⟨H,P⟩,⟨b,a⟩,c⟩:=x.o.rows;obtain ⟨⟨N,O,r0,U⟩,⟨f0,f1,f2,f3⟩,C⟩:=aX x.o.at_.row;apply I;go_wp2_with (go_at_call 232;refine mo (r1.o _ (x.o.inc (i+1)).at_) ?_;rintro e w2 ⟨rfl,t,p⟩);have y:=I ((x.o.inc (i+1)).call p t);clear p t x H P b a c N O r0 U f0 f1 f2 f3 C;have QT:=cZ y.o.rows.2.2;have QV:=cN y.o.rows.2.2;apply I;go_wp2_with (go_at_call 210;refine mo (dC v (y.o.new v).at_) ?_;rintro e w3 ⟨rfl,u⟩);have S:=I ((y.o.new v).next u);clear u y;obtain ⟨⟨⟨H,P⟩,⟨b,a⟩,c⟩,⟨T,z⟩,⟨k,f⟩,g⟩:=S.o.rows;cases Y:dY v no
 .obtain ⟨G,m⟩:=I4 Y;subst G;by_cases R:v.1=2
  .have D:(v.1 == 2)=true:=(by simpa using R);have r:=I (show s=bD (v.2 == 0) by rw [<- l.o,aA (by simp),sw R];unfold nH;rw [aA m]);clear R m;apply I;go_wp2_with (go_at_call 254;refine mo (vq _ _) ?_;rintro e w4 ⟨rfl,d⟩);have o:=I (S.o.next d);clear d H P b a c T z k f g;obtain ⟨⟨⟨H,P⟩,⟨b,a⟩,c⟩,⟨T,z⟩,⟨k,f⟩,g⟩:=o.o.rows;generalize bD (v.2 == 0)=vt at *;apply I;go_wp2_with fail;refine aK (v:=gH vt) (by simp [results,results232,go_sem,H,P]) rfl ?_;rw [r.o];exact ⟨rfl,o.o.o _ _⟩
  .have D:(v.1 == 2)=false:=(by simpa using R);have r:=I (show s=cL 2 by rw [<- l.o,aA (by simp),uH R m];rfl);clear R m;apply I;go_wp2_with (go_at_call 211;refine mo (mR _ _) ?_;rintro e w4 ⟨rfl,d⟩);have o:=I (S.o.next d);clear d H P b a c T z k f g;obtain ⟨⟨⟨H,P⟩,⟨b,a⟩,c⟩,⟨T,z⟩,⟨k,f⟩,g⟩:=o.o.rows;apply I;go_wp2_with fail;refine aK (v:=gH (cL 2)) (by simp [results,results232,go_sem,H,P]) rfl ?_;rw [r.o];exact ⟨rfl,o.o.o _ _⟩
 .have r:=I (show s=v by
   rw [<- l.o];rcases nJ Y with rfl|⟨rfl,M⟩
   .rfl
   .rw [aA (by simp),yf M];unfold nH;rw [aB M])
  apply I;go_wp2_with fail;refine aK (v:=gH v) (by simp [results,results232,go_sem,H,P]) rfl ?_;rw [r.o];exact ⟨rfl,S.o.o _ _⟩
def mD (D:aw K i≠[110,111,116]) (E:eU q al cl af cf K fs 255 #[eV q] i v j no) (hs:b5 (aw K j) (dc 3)=false\/dY v no=true):eU q al cl af cf K fs 232 #[eV q] i v j no:=by
 intro w h;have V:=I E;have P:=I hs;clear E hs;have H:=h.lt;have N:(G K:Int)<=1000:=a6.2 h.tl;have y:=I h.pr;have QT:q≠w.heap.size:=cZ H;have Y:w.heap.size≠q:=cN H;have u:(aw K i == [110,111,116])=false:=bo.2 D;clear h D;go_in;go_wp2_with (go_at_call 209;refine mo (fS y.o.at_) ?_;rintro e w1 ⟨rfl,l⟩);have s:=I (y.o.next l);clear l y;generalize aw K i=ti at *;apply I;go_wp2_with (go_at_call 255;refine mo (V.o _ s.o.at_) ?_;rintro e w2 ⟨rfl,f,c⟩);have k:=I (s.o.call c f);clear c f s u;have M:=cZ k.o.rows.2.2;have Q4:=cN k.o.rows.2.2;apply I;go_wp2_with (go_at_call 209;refine mo (fS (k.o.new v).at_) ?_;rintro e w3 ⟨rfl,p⟩);have r:=I ((k.o.new v).next p);clear p k;obtain ⟨⟨⟨S,T⟩,⟨d,b⟩,g⟩,⟨F,z⟩,⟨o,a⟩,m⟩:=r.o.rows;generalize aw K j=t at *;cases R:b5 t (dc 3)
 .have L:(t == [61])=false:=bo.2 (λh=>by rw [h] at R;exact absurd R (by decide));have O:(t == [60])=false:=bo.2 (λh=>by rw [h] at R;exact absurd R (by decide));clear R;apply I;go_wp2_with fail;refine aK (v:=gH v) (by simp [results,results232,go_sem,S,T]) rfl ?_;exact ⟨rfl,r.o.o _ _⟩
 .have x:=P.o.resolve_left (by rw [R];simp);rcases (by rcases dI R with h|h|h|h|h<;>simp_all:t=[61]\/t=[60]) with rfl|rfl
  all_goals
   clear R;apply I;go_wp2_with (go_at_call 210;refine mo (dC v r.o.at_) ?_;rintro e w4 ⟨rfl,n⟩);have C:=I (r.o.next n);clear n S T d b g F z o a m;obtain ⟨⟨⟨S,T⟩,⟨d,b⟩,g⟩,⟨F,z⟩,⟨o,a⟩,m⟩:=C.o.rows
   try rw [x]
   apply I;go_wp2_with fail;refine aK (v:=gH v) (by simp [results,results232,go_sem,S,T]) rfl ?_;exact ⟨rfl,C.o.o _ _⟩
def mT (hn:aw K i≠[110,111,116]) (hc:eU q al cl af cf K fs 255 #[eV q] i v j false) (o:b5 (aw K j) (dc 3)=true) (hs:dY v false=false) (z:eU q al cl af cf K fs 255 #[eV q] (j+1) u k no):eU q al cl af cf K fs 232 #[eV q] i (if dY u no=true then u else dK v (aw K j) u) k no:=by
 obtain ⟨vv,a⟩:∃ vv,Hid ((if dY u no=true then u else dK v (aw K j) u)=vv):=⟨_,I rfl⟩;rw [a.o];intro w h;have HC:=I hc;have Q0:=I z;have M:=I o;have ag:(j:Int)<=1000:=a6.2 (bf (lF (l9 o)) h.tl);clear hc z o;have hq:=h.lt;have TT:(G K:Int)<=1000:=a6.2 h.tl;have Y:=I h.pr;have am:q≠w.heap.size:=cZ hq;have Z:w.heap.size≠q:=cN hq;have H7:(aw K i == [110,111,116])=false:=bo.2 hn;clear h hn;go_in;go_wp2_with (go_at_call 209;refine mo (fS Y.o.at_) ?_;rintro e w1 ⟨rfl,F⟩);have S:=I (Y.o.next F);clear F Y;generalize aw K i=ti at *;apply I;go_wp2_with (go_at_call 255;refine mo (HC.o _ S.o.at_) ?_;rintro e w2 ⟨rfl,x,Q4⟩);have C:=I (S.o.call Q4 x);clear Q4 x S H7;have ak:=cZ C.o.rows.2.2;have aa:=cN C.o.rows.2.2;apply I;go_wp2_with (go_at_call 209;refine mo (fS (C.o.new v).at_) ?_;rintro e w3 ⟨rfl,L⟩);have N:=I ((C.o.new v).next L);clear L C;obtain ⟨⟨⟨O,P⟩,⟨d,c⟩,f⟩,⟨s,r⟩,⟨l,b⟩,g⟩:=N.o.rows;have R:=I (λ(W:zW) hs=>DM v (aw K j) u hs W);generalize aw K j=r0 at *;rcases (by rcases dI M.o with h|h|h|h|h<;>simp_all:r0=[61]\/r0=[60]) with rfl|rfl
 all_goals
  clear M;apply I;go_wp2_with (go_at_call 210;refine mo (dC v N.o.at_) ?_;rintro e w4 ⟨rfl,QV⟩);have y:=I (N.o.next QV);clear QV N O P d c f s r l b g;obtain ⟨⟨⟨O,P⟩,⟨d,c⟩,f⟩,⟨s,r⟩,⟨l,b⟩,g⟩:=y.o.rows;obtain ⟨⟨k0,k1,k2,k3⟩,⟨f0,f1,f2,f3⟩,Q6⟩:=aX y.o.at_.row
  try rw [hs]
  apply I;go_wp2_with (go_at_call 255;refine mo (Q0.o _ (y.o.inc (j+1)).at_) ?_;rintro e T ⟨rfl,r1,H⟩);have p:=I ((y.o.inc (j+1)).call H r1);clear H r1 y O P d c f s r l b g k0 k1 k2 k3 f0 f1 f2 f3 Q6;apply I;go_wp2_with (go_at_call 210;refine mo (dC u (p.o.next (bI _ _)).at_) ?_;rintro e w6 ⟨rfl,n⟩);have ao:w.heap.size≠T.heap.size:=cZ p.o.rows.1.2.2;have ac:T.heap.size≠w.heap.size:=cN p.o.rows.1.2.2;have an:w2.heap.size≠T.heap.size:=cZ p.o.rows.2.2.2;have ad:T.heap.size≠w2.heap.size:=cN p.o.rows.2.2.2;have V:=I ((p.o.next (bI _ _)).next n);obtain ⟨⟨y0,y1⟩,⟨U,QT⟩,Q5⟩:=cq ((n.block _ (by simp)).t (bL T _));clear n p;obtain ⟨⟨⟨O,P⟩,⟨d,c⟩,f⟩,⟨s,r⟩,⟨l,b⟩,g⟩:=V.o.rows;cases D:dY u no
  .rw [D] at a;apply I;go_wp2_with (go_at_call 256;refine mo (R.o _ (by simp)) ?_;rintro e w7 ⟨rfl,E⟩);have t:=I (V.o.next E);clear E O P d c f s r l b g y0 y1 U QT Q5;obtain ⟨⟨⟨O,P⟩,⟨d,c⟩,f⟩,⟨s,r⟩,⟨l,b⟩,g⟩:=t.o.rows;have m:=I (a.o.symm.t (aA (by simp)));clear a R;generalize dK v _ u=vb at *;apply I;go_wp2_with fail;refine aK (v:=gH vb) (by simp [results,results232,go_sem,O,P]) rfl ?_;rw [m.o];exact ⟨rfl,t.o.o _ _⟩
  .rw [D] at a;have m:=I (a.o.symm.t (aB rfl));clear a R;apply I;go_wp2_with fail;refine aK (v:=gH u) (by simp [results,results232,go_sem,O,P]) rfl ?_;rw [m.o];exact ⟨rfl,V.o.o _ _⟩
variable {V:Nat} {R:Bool} {o:Vl} {Z:Nat}
structure oL (q:Nat) (al:Option zD) (cl:Nat) (af:Option zD) (cf:Nat) (K:List (By × Nat)) (fs:List RF) (w:zW) (U Z:Nat) (W:zW) (j:Nat) (no:Bool) (v o:Vl):Prop where
 s:jG q al cl af cf K fs w U W j no v
 ro:W.heap[Z]?=A (zM #[J o.1,J o.2] 129 (0,0))
 lt2:U<Z
def oL.next (h:oL q al cl af cf K fs w U Z W j no v o) (a:zB W w'):oL q al cl af cf K fs w U Z w' j no v o:=
 ⟨h.s.next a,(a.block _ (cz.1 h.ro).1).t h.ro,h.lt2⟩
def oL.ne (h:oL q al cl af cf K fs w U Z W j no v o):q<Z:=wF (wF h.s.lt h.s.VC) h.lt2
def oL.call (h:oL q al cl af cf K fs w U Z W j no v o) (a:Kp q W w') (b:gp q al cl af cf K fs w' V R):oL q al cl af cf K fs w U Z w' V R v o:=
 ⟨h.s.call a b,a.blk h.ro (cN h.ne),h.lt2⟩
def oL.inc (h:oL q al cl af cf K fs w U Z W j no v o) (a:Nat):oL q al cl af cf K fs w U Z (W.setCell (X q 1) (J a)) a no v o:=
 h.call (Kp.here _ 1 _) (h.s.at_.Q7 a)
def oL.rows (h:oL q al cl af cf K fs w U Z W j no v o):(((W.cell? (yh w.heap.size)=A (J 0)/\W.cell? (X w.heap.size 1)=A (J 0))/\(W.frozen? (yh w.heap.size)=false/\W.frozen? (X w.heap.size 1)=false)/\w.heap.size<W.heap.size)/\((W.cell? (yh U)=A (J v.1)/\W.cell? (X U 1)=A (J v.2))/\(W.frozen? (yh U)=false/\W.frozen? (X U 1)=false)/\U<W.heap.size))/\((W.cell? (yh Z)=A (J o.1)/\W.cell? (X Z 1)=A (J o.2))/\(W.frozen? (yh Z)=false/\W.frozen? (X Z 1)=false)/\Z<W.heap.size):=⟨h.s.rows,cq h.ro⟩
def oL.put (h:oL q al cl af cf K fs w U Z W j no v o) (u:Vl):oL q al cl af cf K fs w U Z ((W.setCell (yh Z) (J u.1)).setCell (X Z 1) (J u.2)) j no v u:=by
 have c:=h.s.lt;have f:=h.s.VC;have g:=h.lt2;have a:Kp Z W ((W.setCell (yh Z) (J u.1)).setCell (X Z 1) (J u.2)):=(Kp.here (b:=Z) W 0 _).t (Kp.here _ 1 _);have e:Kp q w ((W.setCell (yh Z) (J u.1)).setCell (X Z 1) (J u.2)):=(h.s.kp.there Z 0 _ (by omega) c).there Z 1 _ (by omega) c;obtain ⟨i,d⟩:=h.s.Ex;refine ⟨⟨d.kp e (a.blk h.s.at_.row (by omega)),e,a.blk h.s.r0 (by omega),a.blk h.s.rv (by omega),c,f,i,d⟩,?_,g⟩;exact ((aj ((aj h.ro 0 _).t rfl) 1 _).t rfl)
def I6 (P:Nat->Nat) (N:Nat->Bool) (O:Nat->Vl) (y:aw K i=[105,102]) (C:eU q al cl af cf K fs 155 #[eV q] (i+1+1) v (P 0) (N 0)) (u:∀ n,n<=2->P n<G K) (hO:O 0=if v.1=1 then cL 2 else v) (D:∀ n,n<2->(N n=false/\v.1=2/\(v.2 == 1)=(n == 0)/\eU q al cl af cf K fs 155 #[eV q] (P n+1) (O (n+1)) (P (n+1)) (N (n+1)))\/((N n=true\/v.1≠2\/(v.2 == 1)=!(n == 0))/\P (n+1)=jy cH K (P n+1)/\O (n+1)=O n/\N (n+1)=N n)):eU q al cl af cf K fs 263 #[eV q] i (O 2) (P 2+1) (N 2):=by
 intro w h;have ja:=h.tl;have D1:∀ n,n<=2->(P n:Int)<=1000:=λn hn=>a6.2 (bf (lF (u n hn)) ja);have x1:=I D1;have VZ:=I u;clear D1 u ja;have am:(i:Int)<=1000:=a6.2 (bf (lF (bP y (by simp))) h.tl);have H6:=I h.pr;have QV:=I y;have H7:=h.lt;have an:q≠w.heap.size:=cZ H7;have Q0:w.heap.size≠q:=cN H7;clear h y;have ad:dm 105=false:=(by decide);have ac:bm [105,102]=false:=(by decide);have QT:=I C;have HI:=I hO;have HS:=I D;clear C hO D;go_in;go_wp2_with (go_at_call 209;refine mo (fS H6.o.at_) ?_;rintro w4 w1 ⟨rfl,x0⟩);have o:=I (H6.o.next x0);clear x0 H6;rw [QV.o];obtain ⟨⟨F,H⟩,⟨M,S⟩,L⟩:=o.o.rows;obtain ⟨⟨k0,k1,k2,a⟩,⟨f0,f1,f2,f3⟩,r0⟩:=aX o.o.at_.row;apply I;go_wp2_with (go_at_call 76;refine mo (dD _ _) ?_;rintro w4 w2 ⟨rfl,DZ⟩);have j:=I ((o.o.inc (i+1)).next DZ);clear DZ o F H M S L;clear k0 k1 k2 a f0 f1 f2 f3 r0;obtain ⟨⟨F,H⟩,⟨M,S⟩,L⟩:=j.o.rows
 try rw [ac]
 apply I;go_wp2_with (go_at_call 109;refine mo (bR 105 _) ?_;rintro w4 w3 ⟨rfl,rfl⟩)
 try rw [ad]
 obtain ⟨⟨k0,k1,k2,a⟩,⟨f0,f1,f2,f3⟩,r0⟩:=aX j.o.at_.row;apply I;go_wp2_with (go_at_call 155;refine mo (QT.o _ (j.o.inc (i+1+1)).at_) ?_;rintro w4 E ⟨rfl,i6,D2⟩);have H4:=I ((j.o.inc (i+1+1)).call D2 i6);clear D2 i6 j F H M S L;clear k0 k1 k2 a f0 f1 f2 f3 r0;have Q5:=cZ H4.o.rows.2.2;have Q4:=cN H4.o.rows.2.2;have R:q≠E.heap.size:=cZ H4.o.at_.lt;have ak:E.heap.size≠q:=cN H4.o.at_.lt;obtain ⟨⟨F,H⟩,⟨M,S⟩,L⟩:=H4.o.rows;have i7:=H4.o.rows.2.2;have Mh:=H4.o.at_.lt;have gL:Hid (oL q al cl af cf K fs w E.heap.size (E.heap.size+1) ((E.alloc (zM #[J v.1,J v.2] 129)).alloc (zM #[J v.1,J v.2] 129)) (P 0) (N 0) v v):=I ⟨(H4.o.new v).next (bI _ _),bc E _ _ _,Nat.lt_succ_self _⟩;by_cases r1:v.1=1
 focus
  have yy:(v.1 == 1)=true:=by simpa using r1
  have eP:=I (HI.o.t (aB r1));clear r1 HI;apply I;go_wp2_with (go_at_call 211;refine mo (mR _ _) ?_;rintro w4 y0 ⟨rfl,k⟩);have d:=I (gL.o.next k);clear k gL F H M S L;obtain ⟨⟨⟨⟨F,H⟩,⟨M,S⟩,L⟩,⟨t,x⟩,⟨p,r⟩,s⟩,⟨z,y1⟩,⟨m,g⟩,l⟩:=d.o.rows;have HX:Hid (oL q al cl af cf K fs w E.heap.size (E.heap.size+1) ((y0.setCell (yh (E.heap.size+1)) (J (cL 2).1)).setCell (X (E.heap.size+1) 1) (J (cL 2).2)) (P 0) (N 0) v (O 0)):=I (by rw [eP.o];exact d.o.put (cL 2));clear d eP;apply I;go_wp2_with fail;clear F H M S L t x p r s z y1 m g l
 rotate_left
 focus
  have yy:(v.1 == 1)=false:=by simpa using r1
  have eP:=I (HI.o.t (aA r1));have HX:Hid (oL q al cl af cf K fs w E.heap.size (E.heap.size+1) ((E.alloc (zM #[J v.1,J v.2] 129)).alloc (zM #[J v.1,J v.2] 129)) (P 0) (N 0) v (O 0)):=I (by rw [eP.o];exact gL.o);clear r1 HI eP gL;apply I;go_wp2_with fail;clear F H M S L
 all_goals
  go_loopg [11] 2 (λgk ag wr=>∃ n:Nat,n<=2/\2<=n+gk/\ag=J n/\Hid (oL q al cl af cf K fs w E.heap.size (E.heap.size+1) wr (P n) (N n) v (O n)))
  case atStart=>exact ⟨0,bE _,aG _,rfl,HX⟩
  case round=>
   clear HX H4;obtain ⟨n,hn,xA,rfl,Y⟩:=hrel;obtain ⟨⟨⟨⟨F,H⟩,⟨M,S⟩,L⟩,⟨t,x⟩,⟨p,r⟩,s⟩,⟨z,y1⟩,⟨m,g⟩,l⟩:=Y.o.rows;obtain ⟨⟨k0,k1,k2,a⟩,⟨f0,f1,f2,f3⟩,r0⟩:=aX Y.o.s.at_.row;have ax:=x1.o n hn;have hN:=I (VZ.o n hn);have av:E.heap.size+1≠E.heap.size:=Nat.succ_ne_self _;have ao:E.heap.size≠E.heap.size+1:=λh=>Nat.succ_ne_self _ h.symm;have aJ:E.heap.size+1≠w.heap.size:=cN (Nat.lt_succ_of_lt i7);have ar:w.heap.size≠E.heap.size+1:=cZ (Nat.lt_succ_of_lt i7);have ay:q≠E.heap.size+1:=cZ (Nat.lt_succ_of_lt Mh);have au:E.heap.size+1≠q:=cN (Nat.lt_succ_of_lt Mh);rcases (by omega:n=0\/n=1\/n=2) with rfl|rfl|rfl
   .have Mi:=I (HS.o 0 (by decide));have F7:=I (show 2 - 1<gk/\2<=1+(2 - 1) from ⟨by omega,by omega⟩);clear hn xA;rcases Mi.o with ⟨f,T,Mj,gK⟩|⟨F8,V0,V1,V2⟩
    .have D3:=I gK;rw [f] at a;have yy:(v.1 == 2)=true:=(by simpa using T);have aa:(v.2 == 1)=true:=Mj;clear gK T Mi Mj;have d:Hid (oL q al cl af cf K fs w E.heap.size (E.heap.size+1) wr (P 0) false v (O 0)):=I (f▸Y.o);go_wp2_with (go_at_call 155;refine mo (D3.o _ (d.o.inc (P 0+1)).s.at_) ?_;rintro w4 w7 ⟨rfl,b,c⟩);have e:=I ((d.o.inc (P 0+1)).call c b);clear c b d Y F H M S L t x p r s z y1 m g l;clear k0 k1 k2 a f0 f1 f2 f3 r0;obtain ⟨⟨⟨⟨F,H⟩,⟨M,S⟩,L⟩,⟨t,x⟩,⟨p,r⟩,s⟩,⟨z,y1⟩,⟨m,g⟩,l⟩:=e.o.rows;apply I;go_wp2_with fail;go_roundg (2 - 1)
     case measure=>exact F7.o.1
     case rel=>exact ⟨1,by decide,F7.o.2,rfl,I (e.o.put _)⟩
    .have k3:=I V0;have BD:=I V1;have BF:=I V2;clear V0 V1 V2 Mi;cases f:N 0;by_cases T:v.1=2
     have Mj:(v.2 == 1)=false:=(F8.resolve_left (by rw [f];simp)).resolve_left (λh=>h T);have yy:(v.1 == 2)=true:=(by simpa using T);clear T;rotate_left;have yy:(v.1 == 2)=false:=(by simpa using T);clear T
     all_goals
      rw [f] at a;clear F8;go_wp2_with (go_at_call 186;refine mo (BW (Y.o.inc (P 0+1)).s.at_ hN.o) ?_;rintro w4 w7 ⟨rfl,b,c⟩);have e:=I ((Y.o.inc (P 0+1)).call c b);clear c b Y F H M S L t x p r s z y1 m g l;clear k0 k1 k2 a f0 f1 f2 f3 r0;obtain ⟨⟨⟨⟨F,H⟩,⟨M,S⟩,L⟩,⟨t,x⟩,⟨p,r⟩,s⟩,⟨z,y1⟩,⟨m,g⟩,l⟩:=e.o.rows;apply I;go_wp2_with fail;go_roundg (2 - 1)
      case measure=>exact F7.o.1
      case rel=>exact ⟨1,by decide,F7.o.2,rfl,I (by rw [k3.o,BD.o,BF.o];exact e.o)⟩
   .have Mi:=I (HS.o 1 (by decide));have F7:=I (show 2 - 2<gk/\2<=2+(2 - 2) from ⟨by omega,by omega⟩);clear hn xA;rcases Mi.o with ⟨f,T,Mj,gK⟩|⟨F8,V0,V1,V2⟩
    .have D3:=I gK;rw [f] at a;have yy:(v.1 == 2)=true:=(by simpa using T);have aa:(v.2 == 1)=false:=Mj;clear gK T Mi Mj;have d:Hid (oL q al cl af cf K fs w E.heap.size (E.heap.size+1) wr (P 1) false v (O 1)):=I (f▸Y.o);go_wp2_with (go_at_call 155;refine mo (D3.o _ (d.o.inc (P 1+1)).s.at_) ?_;rintro w4 w7 ⟨rfl,b,c⟩);have e:=I ((d.o.inc (P 1+1)).call c b);clear c b d Y F H M S L t x p r s z y1 m g l;clear k0 k1 k2 a f0 f1 f2 f3 r0;obtain ⟨⟨⟨⟨F,H⟩,⟨M,S⟩,L⟩,⟨t,x⟩,⟨p,r⟩,s⟩,⟨z,y1⟩,⟨m,g⟩,l⟩:=e.o.rows;apply I;go_wp2_with fail;go_roundg (2 - 2)
     case measure=>exact F7.o.1
     case rel=>exact ⟨2,by decide,F7.o.2,rfl,I (e.o.put _)⟩
    .have k3:=I V0;have BD:=I V1;have BF:=I V2;clear V0 V1 V2 Mi;cases f:N 1;by_cases T:v.1=2
     have Mj:(v.2 == 1)=true:=(F8.resolve_left (by rw [f];simp)).resolve_left (λh=>h T);have yy:(v.1 == 2)=true:=(by simpa using T);clear T;rotate_left;have yy:(v.1 == 2)=false:=(by simpa using T);clear T
     all_goals
      rw [f] at a;clear F8;go_wp2_with (go_at_call 186;refine mo (BW (Y.o.inc (P 1+1)).s.at_ hN.o) ?_;rintro w4 w7 ⟨rfl,b,c⟩);have e:=I ((Y.o.inc (P 1+1)).call c b);clear c b Y F H M S L t x p r s z y1 m g l;clear k0 k1 k2 a f0 f1 f2 f3 r0;obtain ⟨⟨⟨⟨F,H⟩,⟨M,S⟩,L⟩,⟨t,x⟩,⟨p,r⟩,s⟩,⟨z,y1⟩,⟨m,g⟩,l⟩:=e.o.rows;apply I;go_wp2_with fail;go_roundg (2 - 2)
      case measure=>exact F7.o.1
      case rel=>exact ⟨2,by decide,F7.o.2,rfl,I (by rw [k3.o,BD.o,BF.o];exact e.o)⟩
   .clear hn xA;go_wp2_with fail;refine aK (v:=gH (O 2)) (by simp [results,results263,go_sem,F,H]) rfl ?_;exact ⟨rfl,(Y.o.inc (P 2+1)).s.o _ _⟩
end
section
attribute [local go_sem] ap aq
variable {w w' W:zW} {v u vb va U O:zV} {P S S':Nat->Prop} {y:Nat} {Z:List (List RF)} {l:List RF}
structure De where
 fs:List RF
 bk:List (List RF)
 ag:List (List RF)
 M:Nat
 op:Bool
 sv:List RF
variable {d:De}
def BS (S:Nat->Prop) (u:zV):Prop:=∀ q,u.ownBlock=A q->S q
def dU.ks {fs:List RF} (h:dU w v fs) (d:Ks P w w') (j:∀ q,v.ownBlock=A q->¬ P q):dU w' v fs:=by
 obtain ⟨m,a,c,rfl,h⟩:=h;refine ⟨m,a,c,rfl,h.imp id ?_⟩;rintro ⟨g,o,rfl,b,n⟩;have e:=d.block g b (j g rfl);refine ⟨g,o,rfl,bG b d.size,λi f r=>?_⟩;obtain ⟨p,k,l,s⟩:=n i f r;exact ⟨(aS e _).t p,(aS e _).t k,(aS e _).t l,(aS e _).t s⟩
def pE (w:zW) (S:Nat->Prop) (v:zV) (Z:List (List RF)):Prop:=∃ C:List zV,dA w v C/\G C=G Z/\∀ (j:Nat) (u:zV) (l:List RF),C[j]?=A u->Z[j]?=A l->dU w u l/\BS S u
def pE.ks (h:pE w S v Z) (d:Ks P w w') (e:∀ q,v.ownBlock=A q->¬ P q) (f:∀ q,S q->¬ P q):pE w' S v Z:=by
 obtain ⟨C,g,k,c⟩:=h;exact ⟨C,g.ks d e,k,λj u l b a=>⟨(c j u l b a).1.ks d λq i=>f q ((c j u l b a).2 q i),(c j u l b a).2⟩⟩
def pE.wide (h:pE w S v Z) (d:∀ q,S q->S' q):pE w S' v Z:=by
 obtain ⟨C,e,g,c⟩:=h;exact ⟨C,e,g,λj u l b a=>⟨(c j u l b a).1,λq f=>d q ((c j u l b a).2 q f)⟩⟩
def pE.nil:pE w S (zN) []:=⟨[],zR ⟨rfl,rfl⟩,rfl,λj u l a _=>by simp at a⟩
def nO (w:zW) (S:Nat->Prop) (us:List zV) (Z:List (List RF)):Prop:=G us=G Z/\∀ (j:Nat) (u:zV) (l:List RF),us[j]?=A u->Z[j]?=A l->dU w u l/\BS S u
def pE.mk {us:List zV} (h:dA w v us) (a:nO w S us Z):pE w S v Z:=⟨us,h,a.1,a.2⟩
def nO.ks {us:List zV} (h:nO w S us Z) (e:Ks P w w') (c:∀ q,S q->¬ P q):nO w' S us Z:=⟨h.1,λj u l a b=>⟨(h.2 j u l a b).1.ks e λq d=>c q ((h.2 j u l a b).2 q d),(h.2 j u l a b).2⟩⟩
def nO.snoc {us:List zV} (h:nO w S us Z) (g:dU w u l) (d:BS S u):nO w S (us++[u]) (Z++[l]):=by
 refine ⟨by simp [h.1],λj x m a b=>?_⟩;by_cases c:j<G us
 .rw [sy c] at a;rw [sy (by rw [<- h.1];exact c)] at b;exact h.2 j x m a b
 .have f:j<(us++[u]).length:=(fI.1 a).1;have e:j=G us:=by simp at f;omega
  subst e;rw [qx (aG _),nK] at a;rw [h.1,qx (aG _),nK] at b;cases a;cases b;exact ⟨g,d⟩
def nO.drop {us:List zV} (h:nO w S us Z) (k:Nat):nO w S (us.drop k) (Z.drop k):=by
 refine ⟨by simp [h.1],λj x m a b=>?_⟩;rw [qz] at a b;exact h.2 _ x m a b
def nO.take {us:List zV} (h:nO w S us Z) (k:Nat):nO w S (us.take k) (Z.take k):=by
 refine ⟨by simp [h.1],λj x m a b=>?_⟩;rw [sX] at a b;split at a
 .rename_i c;rw [aB c] at b;exact h.2 _ x m a b
 .cases a
def nO.last {us:List zV} (h:nO w S us Z) (n:Nat):nO w S (eI us n) (eI Z n):=by
 unfold eI;rw [<- h.1];exact h.drop _
def kz (y:Nat) (vb va:zV) (q:Nat):Prop:=q=y\/vb.ownBlock=A q\/va.ownBlock=A q
structure dE (w:zW) (S:Nat->Prop) (y:Nat) (vb va:zV) (d:De):Prop where
 row:∃ vf vs,w.heap[y]?=A (zM #[vf,vb,va,J d.M,zF d.op,vs] 114 (0,0))/\(dU w vf d.fs/\BS S vf)/\dU w vs d.sv/\BS S vs
 bk:pE w S vb d.bk
 ag:pE w S va d.ag
 M6:d.M<=6
 len:G d.bk<=1000/\G d.ag<=1000
 nS:∀ q,S q->¬ kz y vb va q
 ny:vb.ownBlock≠A y/\va.ownBlock≠A y
 nb:∀ q,vb.ownBlock=A q->va.ownBlock≠A q
 lt:∀ q,S q->q<w.heap.size
def dE.abm (h:dE w S y vb va d):y<w.heap.size:=by
 obtain ⟨_,_,C,_⟩:=h.row;exact (cz.1 C).1
def dE.CF (h:dE w S y vb va d):∀ q,kz y vb va q->q<w.heap.size:=by
 rintro q (rfl|b|b)
 .exact h.abm
 .obtain ⟨C,a,_⟩:=h.bk;exact a.lt q b
 .obtain ⟨C,a,_⟩:=h.ag;exact a.lt q b
def dE.ks (h:dE w S y vb va d) (b:Ks P w w') (e:∀ q,kz y vb va q->¬ P q) (c:∀ q,S q->¬ P q):dE w' S y vb va d:=by
 obtain ⟨l,j,i,⟨m,g⟩,k,f⟩:=h.row;exact ⟨⟨l,j,b.cells i (e y (zR rfl)),⟨m.ks b λq a=>c q (g q a),g⟩,k.ks b λq a=>c q (f q a),f⟩,h.bk.ks b (λq a=>e q (zZ (zR a))) c,h.ag.ks b (λq a=>e q (zZ (zZ a))) c,h.M6,h.len,h.nS,h.ny,h.nb,λq a=>bG (h.lt q a) b.size⟩
def dE.next (h:dE w S y vb va d) (a:zB w w'):dE w' S y vb va d:=h.ks (P:=λ_=>False) (Ks.of a) (λ_ _ h=>h) λ_ _ h=>h
def dE.wide (h:dE w S y vb va d) (a:∀ q,S q->S' q) (l:∀ q,S' q->¬ kz y vb va q) (e:∀ q,S' q->q<w.heap.size):dE w S' y vb va d:=by
 obtain ⟨i,f,c,⟨j,m⟩,g,k⟩:=h.row;exact ⟨⟨i,f,c,⟨j,λq b=>a q (m q b)⟩,g,λq b=>a q (k q b)⟩,h.bk.wide a,h.ag.wide a,h.M6,h.len,l,h.ny,h.nb,e⟩
def jS:dU w (zN) []:=⟨bE _,none,0,rfl,zR rfl⟩
def Bf:BS S (zN):=λq C=>by cases C
def dE.put {c b:zV} {d':De} (h:dE w S y vb va d) (k:Ks (kz y vb va) w w') (m:w'.heap[y]?=A (zM #[c,U,O,J d'.M,zF d'.op,b] 114 (0,0))) (j:dU w' c d'.fs/\BS S c) (hs:dU w' b d'.sv/\BS S b) (i:pE w' S U d'.bk) (n:pE w' S O d'.ag) (l:d'.M=d.M) (o:G d'.bk<=1000/\G d'.ag<=1000)
  (f:∀ q,U.ownBlock=A q->q≠y/\¬ S q/\O.ownBlock≠A q) (g:∀ q,O.ownBlock=A q->q≠y/\¬ S q):dE w' S y U O d':=by
 refine ⟨⟨c,b,m,j,hs⟩,i,n,l▸h.M6,o,?_,⟨λe=>(f y e).1 rfl,λe=>(g y e).1 rfl⟩,λq a=>(f q a).2.2,λq a=>bG (h.lt q a) k.size⟩;rintro q a (rfl|e|e)
 .exact h.nS q a (zR rfl)
 .exact (f q e).2.1 a
 .exact (g q e).2 a
def eC {w:zW} {q:Nat} {v0 v1 v2 v3 v4 v5:zV} {t:TypeId} (h:w.heap[q]?=A (zM #[v0,v1,v2,v3,v4,v5] t (0,0))) :
  (w.cell? (yh q)=A v0/\w.cell? (X q 1)=A v1/\w.cell? (X q 2)=A v2/\w.cell? (X q 3)=A v3/\w.cell? (X q 4)=A v4/\w.cell? (X q 5)=A v5)/\(w.frozen? (yh q)=false/\w.frozen? (X q 1)=false/\w.frozen? (X q 2)=false/\w.frozen? (X q 3)=false/\w.frozen? (X q 4)=false/\w.frozen? (X q 5)=false)/\q<w.heap.size:=
 ⟨⟨(bq w q 0 _ _ _ h).t rfl,(bq w q 1 _ _ _ h).t rfl,(bq w q 2 _ _ _ h).t rfl,(bq w q 3 _ _ _ h).t rfl,(bq w q 4 _ _ _ h).t rfl,(bq w q 5 _ _ _ h).t rfl⟩,⟨bF h 0,bF h 1,bF h 2,bF h 3,bF h 4,bF h 5⟩,(cz.1 h).1⟩
def ju {w:zW} {q:Nat} {v0 v1 v2 v3 v4 v5 x:zV} {t:TypeId} (h:w.heap[q]?=A (zM #[v0,v1,v2,v3,v4,v5] t (0,0))) :
  (w.setCell (yh q) x).heap[q]?=A (zM #[x,v1,v2,v3,v4,v5] t (0,0))/\(w.setCell (X q 1) x).heap[q]?=A (zM #[v0,x,v2,v3,v4,v5] t (0,0))/\(w.setCell (X q 2) x).heap[q]?=A (zM #[v0,v1,x,v3,v4,v5] t (0,0))/\(w.setCell (X q 4) x).heap[q]?=A (zM #[v0,v1,v2,v3,x,v5] t (0,0))/\(w.setCell (X q 5) x).heap[q]?=A (zM #[v0,v1,v2,v3,v4,x] t (0,0)):=
 ⟨(aj h 0 x).t rfl,(aj h 1 x).t rfl,(aj h 2 x).t rfl,(aj h 4 x).t rfl,(aj h 5 x).t rfl⟩
def dE.J1 {g f:zV} {d':De} (h:dE w S y vb va d) (b:Ks (λq=>q=y) w w') (n:w'.heap[y]?=A (zM #[g,vb,va,J d'.M,zF d'.op,f] 114 (0,0))) (i:dU w g d'.fs/\BS S g) (hs:dU w f d'.sv/\BS S f) (j:d'.bk=d.bk) (l:d'.ag=d.ag) (m:d'.M=d.M):dE w' S y vb va d'/\Ks (kz y vb va) w w':=by
 have k:Ks (kz y vb va) w w':=b.wide λq a=>zR a;have c:∀ q,S q->¬ q=y:=λq a e=>h.nS q a (zR e);refine ⟨h.put k n ⟨i.1.ks b λq a=>c q (i.2 q a),i.2⟩ ⟨hs.1.ks b λq a=>c q (hs.2 q a),hs.2⟩ (j▸h.bk.ks b (λq a e=>h.ny.1 (e▸a)) c) (l▸h.ag.ks b (λq a e=>h.ny.2 (e▸a)) c) m (by rw [j,l];exact h.len) (λq a=>⟨λe=>h.ny.1 (e▸a),λhs=>h.nS q hs (zZ (zR a)),h.nb q a⟩) (λq a=>⟨λe=>h.ny.2 (e▸a),λhs=>h.nS q hs (zZ (zZ a))⟩),k⟩
def rN (d:De):De:={ d with fs:=d.sv,sv:=[],op:=false }
def uP (h:dE w S y vb va d):zC prog 82 #[zJ y] w λr w'=>r=zP (zp #[])/\dE w' S y vb va (rN d)/\Ks (kz y vb va) w w':=by
 obtain ⟨x,j,b,k,C⟩:=h.row;obtain ⟨⟨c0,c1,c2,c3,c4,c5⟩,⟨z0,D,z,u,o,p⟩,s⟩:=eC b;have g:=I h;have i:=I b;have f:=I C;clear h b C k;obtain ⟨n,m,t,rfl⟩:∃ a l c,j=B a l c:=by
  obtain ⟨_,a,c,e,_⟩:=f.o.1;exact ⟨a,_,c,e⟩
 go_in;go_wp2_with fail;refine bodyPost_end (v:=zp #[]) (by simp [results,results82,go_sem]) rfl ?_;exact ⟨rfl,g.o.J1 ((((Ks.refl (λq=>q=y) w).set y 0 _ rfl).set y 5 _ rfl).set y 4 _ rfl) (ju (ju (ju i.o).1).2.2.2.2).2.2.2.1 f.o ⟨jS,Bf⟩ rfl rfl rfl⟩
def Hl (d:De):De:={ d with op:=true,sv:=d.fs }
def CG (d:De) (l:List RF):De:={ d with bk:=eI (d.bk++[l]) d.M,ag:=[] }
def ES (h:dE w S y vb va d) (N:dU w u l) (hS:BS S u) (hl:G d.bk<=900):zC prog 118 #[zJ y,u] w λa2 w'=>∃ U,a2=zP (zp #[])/\dE w' S y U (zN) (CG d l)/\Ks (kz y vb va) w w'/\OZ w vb U:=by
 obtain ⟨vf,vs,r,hf,V⟩:=h.row;obtain ⟨⟨c0,c1,c2,c3,c4,c5⟩,⟨z0,z1,z2,z3,z4,z5⟩,hz⟩:=eC r;obtain ⟨T,o,f,C⟩:=h.bk;have n:=I h;have HR:=I r;have s:=I V;have L:=I hf;have HU:=I o;have z:=I f;obtain ⟨H,F,rfl,aa,ac⟩:=o.len;obtain ⟨ad,R,P,rfl,-⟩:=id N;have HX:=I N;have w2:Hid (G T<=1000000):=I (by rw [f];omega);obtain ⟨Y,j⟩:∃ Y,Hid (T++[B R (G l) P]=Y):=⟨_,I rfl⟩;have Q0:Hid (G Y<=1000000):=I (by rw [<- j.o,b6,f];simp;omega);have QT:=I C;have Z:=I h.M6;have Q5:=I h.ny;have hs:Hid (∀ g,Ks (λq=>(B H (G T) F).ownBlock=A q) (w.alloc (zM #[B R (G l) P] 111)) g->g.heap[y]?=A (zM #[vf,B H (G T) F,va,J d.M,zF d.op,vs] 114 (0,0))):=I λg k=>k.cells (tP r _) h.ny.1;clear h r V hf o f C N;go_in;go_wp2_with (at_builtin;refine rL rfl (.tmp 8) (.tmp 10) rfl rfl (HU.o.next (bI _ _)) w2.o rfl (bC w [B R (G l) P] 111 0 _ rfl) rfl ?_;intro v1 g a b hq;apply Hid.o);obtain ⟨⟨c0,c1,c2,c3,c4,c5⟩,⟨z0,z1,z2,z3,z4,z5⟩,hz⟩:=eC (hs.o g b);rw [j.o] at a;obtain ⟨a1,l1,rfl,-,-⟩:=a.len;have W:=I a;have E:=I b;have w1:=I hq;clear a b hq;apply I;go_wp2_with (go_at_call 153;refine mo (ER d.M Z.o W.o Q0.o) ?_;rintro e c ⟨v2,rfl,rfl,m,Q4⟩);obtain ⟨x,O,rfl,-,-⟩:=m.len;have wK:=I m;have p:=I Q4;clear m Q4;apply I;go_wp2_with fail;refine bodyPost_end (v:=zp #[]) (by simp [results,results118,go_sem]) rfl ?_;have QV:Ks (kz y (B H (G T) F) va) w c:=(Ks.of (bI w _)).t (E.o.wide λq K=>zZ (zR K));have k:Ks (kz y (B H (G T) F) va) w ((c.setCell (X y 1) (B x (eI Y d.M).length O)).setCell (X y 2) (zN)):=(QV.set y 1 _ (zR rfl)).set y 2 _ (zR rfl);have Q6:Ks (λq=>q=y) c ((c.setCell (X y 1) (B x (eI Y d.M).length O)).setCell (X y 2) (zN)):=((Ks.refl (λq=>q=y) c).set y 1 _ rfl).set y 2 _ rfl;have i:∀ q,(B x (eI Y d.M).length O).ownBlock=A q->q≠y/\¬ S q:=λq K=>by
  rw [p.o] at K;rcases w1.o with e|⟨us,e,t⟩
  .rw [e] at K;exact ⟨λM=>Q5.o.1 (M▸K),λV=>n.o.nS q V (zZ (zR K))⟩
  .rw [e] at K;cases K;have D:w.heap.size<=q:=bf (bI w _).size t;exact ⟨λM=>iC _ (bG (M▸n.o.abm) D),λV=>iC _ (bG (n.o.lt q V) D)⟩
 refine ⟨_,rfl,n.o.put (d':=CG d l) k (ju (ju (hs.o c E.o)).2.1).2.2.1 ⟨L.o.1.ks k λq K=>n.o.nS q (L.o.2 q K),L.o.2⟩ ⟨s.o.1.ks k λq K=>n.o.nS q (s.o.2 q K),s.o.2⟩ ?_ pE.nil rfl ?_ (λq K=>⟨(i q K).1,(i q K).2,λe=>by cases e⟩) (λq K=>by cases K),k,?_⟩
 .refine pE.mk (wK.o.ks Q6 λq K=>(i q K).1) ?_;have he:nO w S T d.bk:=⟨z.o,QT.o⟩;have:=((he.snoc HX.o hS).ks k n.o.nS).last d.M;rw [j.o] at this;exact this
 .have:=z.o;have h1:=w2.o;refine ⟨?_,bE _⟩;show (eI (d.bk++[l]) d.M).length<=1000;unfold eI;rw [mG,b6];simp;omega
 .rcases w1.o with e|⟨us,e,t⟩
  .exact zR (p.o.t e)
  .exact zZ ⟨us,p.o.t e,bf (bI w _).size t⟩
end
end Go.Proofs.YtihgojcfpnhelaaGreatDoor
