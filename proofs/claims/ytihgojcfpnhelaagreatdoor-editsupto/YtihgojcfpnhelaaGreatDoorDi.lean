import Derived.Test.YtihgojcfpnhelaaGreatDoorDb
import Derived.Test.YtihgojcfpnhelaaGreatDoorEm
import Derived.Test.YtihgojcfpnhelaaGreatDoorEk
set_option maxRecDepth 100000
set_option maxHeartbeats 4000000
set_option linter.all false
namespace Go.Proofs.YtihgojcfpnhelaaGreatDoor
open Go renaming World->zW,Value->zV,Calls->zC,Addr->zD
open Go.RowKit Go.Proofs.Tryz
open List renaming length→G
section
attribute [local go_sem] idx_eq app_eq
variable {w w' W:zW} {q cl cf i Z j k:Nat} {al af:Option zD} {ts:List (By × Nat)} {fs:List RF} {no lf:Bool} {v v' u:Vl}
inductive yg (C:Nat->Vl->Nat->Bool->Prop) (ts:List (By × Nat)) (o:Bool):Bool->Vl->Bool->Nat->Vl->Nat->Bool->Prop
 | fin (m:Bool) (v:Vl) (no:Bool) (i:Nat):aw ts i≠iw o->yg C ts o m v no i (if m=true/\dY v no=false/\v.1≠2 then cL 2 else v) i no
 | type (m:Bool) (v:Vl) (no:Bool) (i:Nat):aw ts i=iw o->dY v no=false->v.1≠2->yg C ts o m v no i (cL 2) i no
 | short (m:Bool) (v:Vl) (no:Bool) (i:Nat):aw ts i=iw o->(dY v no=true\/(v.1=2/\(v.2=1↔o=true)))->yg C ts o m v no i v (jy (dG o) ts i) no
 | go (m:Bool) (v u v':Vl) (i j k:Nat) (no lf:Bool):aw ts i=iw o->v.1=2->¬ (v.2=1↔o=true)->C (i+1) u j no->i<j->j<=G ts->yg C ts o true u no j v' k lf->yg C ts o m v false i v' k lf
def yg.inv {C:Nat->Vl->Nat->Bool->Prop} {o m:Bool} (h:yg C ts o m v no j v' k lf) :
  (aw ts j≠iw o/\k=j/\lf=no/\v'=(if m=true/\dY v no=false/\v.1≠2 then cL 2 else v)) \/
  (aw ts j=iw o/\dY v no=false/\v.1≠2/\v'=cL 2/\k=j/\lf=no) \/
  (aw ts j=iw o/\dY v no=true/\v'=v/\k=jy (dG o) ts j/\lf=no) \/
  (aw ts j=iw o/\dY v no=false/\v.1=2/\(v.2 == 1)=o/\v'=v/\k=jy (dG o) ts j/\lf=no) \/
  (aw ts j=iw o/\dY v no=false/\no=false/\v.1=2/\(v.2 == 1)=!o/\∃ u c f,C (j+1) u c f/\j<c/\c<=G ts/\yg C ts o true u f c v' k lf):=by
 have g:∀ (o:Bool),(v.2=1↔o=true)->(v.2 == 1)=o:=λo h=>by
  cases o
  ·exact bo.2 λe=>absurd (h.1 e) aq
  ·exact beq_iff_eq.2 (h.2 rfl)
 cases h with
 | fin _ _ _ _ h=>exact Or.inl ⟨h,rfl,rfl,rfl⟩
 | type _ _ _ _ b a d=>exact Or.inr (Or.inl ⟨b,a,d,rfl,rfl,rfl⟩)
 | short _ _ _ _ b a=>
  cases hs:dY v no
  ·rcases a with a|⟨a,d⟩
   ·rw [hs] at a;cases a
   ·exact Or.inr (Or.inr (Or.inr (Or.inl ⟨b,rfl,a,g o d,rfl,rfl,rfl⟩)))
  ·exact Or.inr (Or.inr (Or.inl ⟨b,rfl,rfl,rfl,rfl⟩))
 | go _ _ u _ _ c _ f _ b a d l p n i=>
  refine Or.inr (Or.inr (Or.inr (Or.inr ⟨b,vx ae,rfl,a,?_,u,c,f,l,p,n,i⟩)));cases o
  ·by_cases h:v.2=1
   ·exact beq_iff_eq.2 h
   ·exact absurd ⟨λe=>absurd e h,λe=>by cases e⟩ d
  ·exact bo.2 λh=>d ⟨λ_=>rfl,λ_=>h⟩
def QS (A:eU q al cl af cf ts fs 208 #[eV q,stA [111,114]] i v j no) (hj:j<=G ts) (hc:yg (eU q al cl af cf ts fs 208 #[eV q,stA [111,114]]) ts true false v no j v' k lf):eU q al cl af cf ts fs 185 #[eV q,stA [111,114]] i v' k lf:=by
 intro w h;have C:=I A;have p:=I h.pr;have HC:=I hc;have r:=h.lt;have H:((G ts):Int)<=1000:=a6.2 h.tl;clear A h hc;go_in;go_wp2_with (go_at_call 208;refine mo (C.o _ p.o.at_) ?_;rintro e w1 ⟨rfl,b,c⟩);have o:=I (p.o.call c b);have eP:=o.o.rows.2.2;have f:q<w1.heap.size:=bG r (lF eP);have E:w1.heap.size≠w.heap.size:=cN eP;have z:w.heap.size≠w1.heap.size:=cZ eP;have D:q≠w.heap.size:=cZ r;have s:w.heap.size≠q:=cN r;have B:q≠w1.heap.size:=cZ f;have n:w1.heap.size≠q:=cN f;have HST:=I (o.o.new v);clear c b eP C p o;apply I;go_wp2_with fail;go_loopg [6] (G ts - j) (λgk x wr=>∃ (j:Nat) (v:Vl) (no m:Bool),G ts<=j+gk/\j<=G ts/\x=.bool m/\Hid (yg (eU q al cl af cf ts fs 208 #[eV q,stA [111,114]]) ts true m v no j v' k lf/\jG q al cl af cf ts fs w w1.heap.size wr j no v))
 case atStart=>exact XW
 case round=>
  clear HST HC hj;obtain ⟨j,v,no,m,F,hj,rfl,a⟩:=hrel;have g:(j:Int)<=1000:=a6.2 (bf hj a.o.2.at_.tl);have g:(j:Int)<=1000:=a6.2 (bf hj a.o.2.at_.tl);go_wp2_with (go_at_call 209;refine mo (fS a.o.2.at_) ?_;rintro e w2 ⟨rfl,d⟩);have H2:=I (a.o.2.next d);have gM:=I a.o.1.inv;have HJ:=I hj;clear d a hj;obtain ⟨⟨⟨r0,r1⟩,⟨gK,gL⟩,eP⟩,⟨x0,x1⟩,⟨i6,i7⟩,ja⟩:=H2.o.rows;obtain ⟨⟨k0,k1,k2,k3⟩,⟨f0,f1,f2,f3⟩,hsz⟩:=aX H2.o.at_.row;generalize aw ts j=t at *;rcases gM.o with ⟨ht,rfl,rfl,hv⟩|⟨ht,hst,hv2,rfl,rfl,rfl⟩|⟨ht,hst,rfl,rfl,rfl⟩|⟨ht,hst,hv2,l,rfl,rfl,rfl⟩|⟨ht,hst,rfl,hv2,l,u,j2,n2,hc,y,Jp,hgo⟩
  ·have et:(t == [111,114])=false:=bo.2 (by simpa [iw] using ht);exact Wi
  ·have et:=(by simpa [iw] using ht:t=[111,114]);exact Ww
  ·have et:=(by simpa [iw] using ht:t=[111,114]);subst et;clear ht gM;exact Wt
  ·have et:=(by simpa [iw] using ht:t=[111,114]);subst et;clear ht gM;have yy:(v'.1 == 2)=true:=sG;clear hv2;exact Wt
  ·have et:=(by simpa [iw] using ht:t=[111,114]);exact Wn
def QT (A:eU q al cl af cf ts fs 208 #[eV q,stA [97,110,100]] i v j no) (hj:j<=G ts) (hc:yg (eU q al cl af cf ts fs 208 #[eV q,stA [97,110,100]]) ts false false v no j v' k lf):eU q al cl af cf ts fs 185 #[eV q,stA [97,110,100]] i v' k lf:=by
 intro w h;have C:=I A;have p:=I h.pr;have HC:=I hc;have r:=h.lt;have H:((G ts):Int)<=1000:=a6.2 h.tl;clear A h hc;go_in;go_wp2_with (go_at_call 208;refine mo (C.o _ p.o.at_) ?_;rintro e w1 ⟨rfl,b,c⟩);have o:=I (p.o.call c b);have eP:=o.o.rows.2.2;have f:q<w1.heap.size:=bG r (lF eP);have E:w1.heap.size≠w.heap.size:=cN eP;have z:w.heap.size≠w1.heap.size:=cZ eP;have D:q≠w.heap.size:=cZ r;have s:w.heap.size≠q:=cN r;have B:q≠w1.heap.size:=cZ f;have n:w1.heap.size≠q:=cN f;have HST:=I (o.o.new v);clear c b eP C p o;apply I;go_wp2_with fail;go_loopg [6] (G ts - j) (λgk x wr=>∃ (j:Nat) (v:Vl) (no m:Bool),G ts<=j+gk/\j<=G ts/\x=.bool m/\Hid (yg (eU q al cl af cf ts fs 208 #[eV q,stA [97,110,100]]) ts false m v no j v' k lf/\jG q al cl af cf ts fs w w1.heap.size wr j no v))
 case atStart=>exact XW
 case round=>
  clear HST HC hj;obtain ⟨j,v,no,m,F,hj,rfl,a⟩:=hrel;have g:(j:Int)<=1000:=a6.2 (bf hj a.o.2.at_.tl);have g:(j:Int)<=1000:=a6.2 (bf hj a.o.2.at_.tl);go_wp2_with (go_at_call 209;refine mo (fS a.o.2.at_) ?_;rintro e w2 ⟨rfl,d⟩);have H2:=I (a.o.2.next d);have gM:=I a.o.1.inv;have HJ:=I hj;clear d a hj;obtain ⟨⟨⟨r0,r1⟩,⟨gK,gL⟩,eP⟩,⟨x0,x1⟩,⟨i6,i7⟩,ja⟩:=H2.o.rows;obtain ⟨⟨k0,k1,k2,k3⟩,⟨f0,f1,f2,f3⟩,hsz⟩:=aX H2.o.at_.row;generalize aw ts j=t at *;rcases gM.o with ⟨ht,rfl,rfl,hv⟩|⟨ht,hst,hv2,rfl,rfl,rfl⟩|⟨ht,hst,rfl,rfl,rfl⟩|⟨ht,hst,hv2,l,rfl,rfl,rfl⟩|⟨ht,hst,rfl,hv2,l,u,j2,n2,hc,y,Jp,hgo⟩
  ·have et:(t == [97,110,100])=false:=bo.2 (by simpa [iw] using ht);exact Wi
  ·have et:=(by simpa [iw] using ht:t=[97,110,100]);exact Ww
  ·have et:=(by simpa [iw] using ht:t=[97,110,100]);subst et;clear ht gM;exact Wu
  ·have et:=(by simpa [iw] using ht:t=[97,110,100]);subst et;clear ht gM;have yy:(v'.1 == 2)=true:=sG;clear hv2;exact Wu
  ·have et:=(by simpa [iw] using ht:t=[97,110,100]);exact Wn
variable {w1:zW} {v Z:zV} {aJ:List By} {H:List RF} {y er:Nat}
def fp (er at_:Int) (tx:By) (bn:Option zD) (ln cn:Nat) (kd nn:Int):Obj:=.cells #[zI er,zI at_,zG tx,.slice bn ln cn,zI kd,zI nn] 39
def tY (o:Obj) (e:ea w v ts) (d:0<G ts):∃ a g b,v=.slice (some ⟨g,b,none⟩) (G ts) a/\∀ j,j<G ts->(w.alloc o).cell? ⟨g,b+j*2,none⟩=some (.string ⟨(aw ts j).toArray⟩):=by
 obtain ⟨a,g,b,rfl,_,c⟩:=(e.next ((aM _ _).alloc (aG _) o)).all d;exact ⟨a,g,b,rfl,c⟩
def eE (o:Obj) {b k:Nat} {u:zV} (h:w.cell? ⟨b,k,none⟩=some u):(w.alloc o).cell? ⟨b,k,none⟩=some u:=
 (((aM w.heap.size w).alloc (aG _) o).cell (p:=⟨b,k,none⟩) (gI w _ h)).t h
def oZ {w1:zW} {er at_ kd nn:Int} {tx:By} {bn:Option zD} {ln cn:Nat} (a:Below (w.alloc (fp er at_ tx bn ln cn kd nn)).heap.size (w.alloc (fp er at_ tx bn ln cn kd nn)) w1):w1.cell? ⟨w.heap.size,0,none⟩=some (zI er)/\w1.cell? ⟨w.heap.size,1,none⟩=some (zI at_)/\w1.cell? ⟨w.heap.size,2,none⟩=some (zG tx)/\w1.cell? ⟨w.heap.size,3,none⟩=some (.slice bn ln cn)/\w1.cell? ⟨w.heap.size,4,none⟩=some (zI kd)/\w1.cell? ⟨w.heap.size,5,none⟩=some (zI nn):=
 (eC (t:=39) ((a.block w.heap.size aq).t ZG)).1
def o5 {w1:zW} {o:Obj} (a:Below (w.alloc o).heap.size (w.alloc o) w1):zB w w1:=((aM _ _).alloc (aG _) o).t (a.m aq)
def T1 {f:Nat} {ag:Array zV} {a:Ending} {b W:zW} (c:zB b W) (h:zC prog f ag W λr w'=>r=a/\zB W w'):zC prog f ag W λr w'=>r=a/\zB b w':=h.m λr w' h=>⟨h.1,c.t (h.2.m c.size)⟩
def Po (bn:Option zD) (cn:Nat) (f:w.cell? ⟨y,0,none⟩=some Z) (j:dU w Z H) (h:RFb H) (i:ea w v ts) (q:aw ts 0=[108,105,115,116]) (c:0<G ts) :
  zC prog 84 #[.agg #[zI 0,zI 0,.string ⟨(mi H).toArray⟩,.slice bn 0 cn,zI 0,zI 0],zJ y,v] w λr w'=>r=.returned (.bool true)/\zB w w':=by
 obtain ⟨s,g,t,rfl,k⟩:=tY (fp 0 0 (mi H) bn 0 cn 0 0) i c;have d:=k 0 c;rw [q] at d;simp only [jC,k7] at d;have m:=eE (fp 0 0 (mi H) bn 0 cn 0 0) f;have o:(0:Int)<((G ts):Int):=iD.2 c;have n:=I (abE H (j.next ((aM w.heap.size w).alloc (aG _) (fp 0 0 (mi H) bn 0 cn 0 0))) h);have b:=I (λw1=>oZ (w:=w) (w1:=w1) (er:=0) (at_:=0) (tx:=mi H) (bn:=bn) (ln:=0) (cn:=cn) (kd:=0) (nn:=0));have l:(mi H == mi H)=true:=aq;clear k j h i f;generalize mi H=tx at *;unfold fp at *;go_in;go_wp2_with (go_at_call 120;refine mo n.o ?_;rintro e w1 ⟨rfl,a⟩);obtain ⟨c0,c1,c2,c3,c4,c5⟩:=b.o _ a;have p:=I (o5 a);clear a;apply I;go_wp2_with fail;go_ret;exact ⟨aq,p.o⟩
def Kr (bn:Option zD) (cn:Nat) (t:w.cell? ⟨y,0,none⟩=some Z) (hf:dU w Z H) (j:pP H) (x:ll w (.slice bn (G aJ) cn) aJ) (q:(G aJ)<=1000) (z:RN aJ H) (h:(G aJ)=G H) (A:ea w v ts) (L:aw ts 0=[111,114,100,101,114]) (o:0<G ts) :
  zC prog 84 #[.agg #[zI 0,zI 0,zG [],.slice bn (G aJ) cn,zI 0,zI 0],zJ y,v] w λr w'=>r=.returned (.bool true)/\zB w w':=by
 obtain ⟨M,g,N,rfl,B⟩:=tY (fp 0 0 [] bn (G aJ) cn 0 0) A o;have l:=B 0 o;rw [L] at l;simp only [jC,k7] at l;have f:=(aM w.heap.size w).alloc (aG _) (fp 0 0 [] bn (G aJ) cn 0 0);have d:=eE (fp 0 0 [] bn (G aJ) cn 0 0) t;have J:(0:Int)<((G ts):Int):=iD.2 o;have u:=I (λW (m:Below (w.alloc (fp 0 0 [] bn (G aJ) cn 0 0)).heap.size (w.alloc (fp 0 0 [] bn (G aJ) cn 0 0)) W)=>T1 m (Aj ((x.below f).below m) q ((hf.next f).next m) j z));have i:=I (λw1=>oZ (w:=w) (w1:=w1) (er:=0) (at_:=0) (tx:=[]) (bn:=bn) (ln:=G aJ) (cn:=cn) (kd:=0) (nn:=0));have k:=I (λw1 (D:Below (w.alloc (fp 0 0 [] bn (G aJ) cn 0 0)).heap.size (w.alloc (fp 0 0 [] bn (G aJ) cn 0 0)) w1)=>(D.cell (p:=⟨y,0,none⟩) (gI _ _ d)).t d);obtain ⟨C,E,rfl⟩:∃ a c,Z=.slice a (G H) c:=Nh;rw [h] at u i k d l f;have F:((G H):Int)<=1000:=by rw [<- h];exact a6.2 q
 clear B hf j A t x q z;rw [h];generalize (G H)=n at *;clear h f;unfold fp at *;go_in;go_wp2_with fail;obtain ⟨-,-,-,c3,-,-⟩:=i.o _ (aM _ _);have s:=d
 go_region_held3 (λw'=>w'.cell? ⟨w.heap.size,3,none⟩=some (.slice bn n cn)/\w'.cell? ⟨y,0,none⟩=some (.slice C n E)) (first|(with_reducible exact ⟨c3,s⟩)|go_keep) (first|(go_at_call 121;(with_reducible refine (u.o _ (aM _ _).drew).m ?_);rintro e w1 ⟨rfl,b⟩;obtain ⟨c0,c1,c2,c3,c4,c5⟩:=i.o _ b;have s:=k.o _ b;have K:=I (o5 b);clear b))
 go_wp2_with fail
 go_quiet (fail)
 go_wp2_with fail;go_ret;exact ⟨aq,lG K.o _⟩
def told_none (bn:Option zD) (cn:Nat) (u:w.cell? ⟨y,0,none⟩=some Z) (p:dU w Z H) (x:ea w v ts) (E:(aw ts 0 == [108,105,115,116])=false) (A:(aw ts 0 == [111,114,100,101,114])=false) (d:1<G ts) (t:(G ts)<=1000) (P:bK H (aw ts 1)<0) :
  zC prog 84 #[.agg #[zI 5,zI 0,zG [],.slice bn 0 cn,zI 0,zI 0],zJ y,v] w λr w'=>r=.returned (.bool true)/\zB w w':=by
 obtain ⟨O,g,M,rfl,q⟩:=tY (fp 5 0 [] bn 0 cn 0 0) x (yt d);have z:=q 0 (yt d);have s:=q 1 d;simp only [jC,k7,mQ] at z s;have f:=(aM w.heap.size w).alloc (aG _) (fp 5 0 [] bn 0 cn 0 0);have k:=eE (fp 5 0 [] bn 0 cn 0 0) u;have m:(1:Int)<((G ts):Int):=iD.2 d;have C:(0:Int)<((G ts):Int):=Int.lt_trans ai m;have J:((G ts):Int)<=1000:=a6.2 t;have K:=I (λW (D:Below (w.alloc (fp 5 0 [] bn 0 cn 0 0)).heap.size (w.alloc (fp 5 0 [] bn 0 cn 0 0)) W)=>find_ok H (aw ts 1) ((p.next f).next D));have o:=I (λW=>xT (w:=W) 5 0 bn cn);obtain ⟨B,F,L,rfl⟩:∃ a l c,Z=.slice a l c:=by
  obtain ⟨_,a,c,e,_⟩:=p;exact ⟨a,_,c,e⟩
 have j:Hid (∀ W,Below (w.alloc (fp 5 0 [] bn 0 cn 0 0)).heap.size (w.alloc (fp 5 0 [] bn 0 cn 0 0)) W->zB w W):=I λW h=>o5 h;have i:=I (oZ (w:=w) (er:=5) (at_:=0) (tx:=[]) (bn:=bn) (ln:=0) (cn:=cn) (kd:=0) (nn:=0) (aM _ _));clear q p x u f;generalize bK H (aw ts 1)=Q at *;generalize aw ts 1=tx at *;generalize aw ts 0=R at *;generalize (G ts)=n at *;clear d t;unfold fp at *;go_in;go_wp2_with fail
 go_region_held3 (λw'=>w'.cell? ⟨y,0,none⟩=some (.slice B F L)/\w'.cell? ⟨g,M+2,none⟩=some (zG tx)) (first|(with_reducible exact ⟨k,s⟩)|go_keep) (first|(go_at_call 122;(with_reducible refine (K.o _ (aM _ _).drew).m ?_);rintro e w1 ⟨rfl,rfl⟩))
 obtain ⟨c0,c1,c2,c3,c4,c5⟩:=i.o;go_wp2_with (go_at_call 81;refine mo (o.o _) ?_;rintro e w1 ⟨rfl,b⟩;have N:=I (j.o _ ((aM _ _).drew.t b));clear b);apply I;go_wp2_with fail;go_ret;exact ⟨rfl,N.o⟩
def Pp (bn:Option zD) (cn:Nat) (s:w.cell? ⟨y,0,none⟩=some Z) (hf:dU w Z H) (x:ea w v ts) (z:aw ts 0=[114,117,108,101]) (f:1<G ts) (q:(G ts)<=1000) {b:Nat} (A:b<G H) (u:bK H (aw ts 1)=(b:Int)) (P:(G H)<=1000) :
  zC prog 84 #[.agg #[zI 0,zI 0,.string ⟨H[b].rl.toArray⟩,.slice bn 0 cn,zI 0,zI 0],zJ y,v] w λr w'=>r=.returned (.bool true)/\zB w w':=by
 obtain ⟨Q,g,L,rfl,m⟩:=tY (fp 0 0 H[b].rl bn 0 cn 0 0) x (yt f);have o:=m 0 (yt f);have p:=m 1 f;rw [z] at o;simp only [jC,k7,mQ] at o p;have d:=(aM w.heap.size w).alloc (aG _) (fp 0 0 H[b].rl bn 0 cn 0 0);have k:=eE (fp 0 0 H[b].rl bn 0 cn 0 0) s;have l:(1:Int)<((G ts):Int):=iD.2 f;have B:(0:Int)<((G ts):Int):=Int.lt_trans ai l;have J:((G ts):Int)<=1000:=a6.2 q;have t:=I (λW (C:Below (w.alloc (fp 0 0 H[b].rl bn 0 cn 0 0)).heap.size (w.alloc (fp 0 0 H[b].rl bn 0 cn 0 0)) W)=>find_ok H (aw ts 1) ((hf.next d).next C));obtain ⟨R,K,rfl⟩:∃ a c,Z=.slice a (G H) c:=Nh;obtain ⟨O,N,rfl,-,-,f1⟩:=fA (hf.next d) A;rw [u] at t;have D:¬ ((b:Int)<0):=Int.not_lt.2 (mF _);have E:(b:Int)<((G H):Int):=iD.2 A;have M:((G H):Int)<=1000:=a6.2 P;have F:(H[b].rl == H[b].rl)=true:=aq;have j:Hid (∀ W,Below (w.alloc (fp 0 0 H[b].rl bn 0 cn 0 0)).heap.size (w.alloc (fp 0 0 H[b].rl bn 0 cn 0 0)) W->zB w W):=I λW h=>o5 h;have i:=I (oZ (w:=w) (er:=0) (at_:=0) (tx:=H[b].rl) (bn:=bn) (ln:=0) (cn:=cn) (kd:=0) (nn:=0) (aM _ _));clear m hf x s d;clear u;generalize H[b].rl=S at *;generalize aw ts 1=tx at *;generalize (G ts)=n at *;clear f q z;unfold fp at *;go_in;go_wp2_with fail
 go_region_held3 (λw'=>w'.cell? ⟨y,0,none⟩=some (.slice (some ⟨O,N,none⟩) (G H) K)/\w'.cell? ⟨g,L+2,none⟩=some (zG tx)) (first|(with_reducible exact ⟨k,p⟩)|go_keep) (first|(go_at_call 122;(with_reducible refine (t.o _ (aM _ _).drew).m ?_);rintro e w1 ⟨rfl,rfl⟩))
 obtain ⟨c0,c1,c2,c3,c4,c5⟩:=i.o;go_wp2_with fail
 go_quiet (fail)
 go_wp2_with fail;go_ret;exact ⟨aq,j.o _ (lG (aM _ _).drew _)⟩
variable {u:zV}
def O2 (z:w.cell? ⟨y,0,none⟩=some Z) (c:dU w Z fs) (h:ea w v ts) (k:(G ts)<=1000) (r:aw ts 0=[115,101,116]) (t:4<=G ts) (d:bK fs (aw ts 1)<0) (b:10<=G fs) :
  zC prog 150 #[zJ y,v] w (jT w [] 7 []):=by
 obtain ⟨s,g,o,rfl,f,a⟩:=h.all ae;have t0:=a 0 ae;have t1:=a 1 ae;rw [r] at t0;simp only [jC,mQ,k7] at t0 t1;have j:=I c;obtain ⟨n,u,A,rfl,-⟩:=id c;have p:((G fs):Int)<=1000:=a6.2 n;have l:(10:Int)<=((G fs):Int):=a6.2 b;have m:(4:Int)<=((G ts):Int):=a6.2 t;have i:((G ts):Int)<=1000:=a6.2 k;clear c h a;generalize aw ts 1=x at *;go_in;go_wp2_with (go_at_call 122;refine mo (find_ok fs x j.o) ?_;rintro e w1 ⟨rfl,rfl⟩);generalize bK fs x=B at *;apply I;go_wp2_with fail;refine aK (v:=.tuple #[zN,zI 7,zG []]) zK rfl ?_;exact ⟨_,rfl,jS,(λq hq=>pI),aM _ _⟩
def TF (t:w.cell? ⟨y,0,none⟩=some Z) (b:dU w Z fs) (f:ea w v ts) (j:(G ts)<=1000) (n:aw ts 0=[100,101,108,101,116,101]) (r:2<=G ts) (c:bK fs (aw ts 1)<0) :
  zC prog 150 #[zJ y,v] w (jT w [] 5 []):=by
 obtain ⟨p,g,o,rfl,d,a⟩:=f.all ae;have t0:=a 0 ae;have t1:=a 1 ae;rw [n] at t0;simp only [jC,mQ,k7] at t0 t1;have i:=I b;obtain ⟨l,s,u,rfl,-⟩:=id b;have m:((G fs):Int)<=1000:=a6.2 l;have k:(2:Int)<=((G ts):Int):=a6.2 r;have h:((G ts):Int)<=1000:=a6.2 j;clear b f a;generalize aw ts 1=x at *;go_in;go_wp2_with (go_at_call 122;refine mo (find_ok fs x i.o) ?_;rintro e w1 ⟨rfl,rfl⟩);generalize bK fs x=z at *;apply I;go_wp2_with fail;refine aK (v:=.tuple #[zN,zI 5,zG []]) zK rfl ?_;exact ⟨_,rfl,jS,(λq hq=>pI),aM _ _⟩
def aeo (u:w.cell? ⟨y,0,none⟩=some Z) (h:dU w Z fs) (n:ea w v ts) (t:(G ts)<=1000) (D:aw ts 0=[100,101,108,101,116,101]) (F:2<=G ts) (k:¬ bK fs (aw ts 1)<0) :
  zC prog 150 #[zJ y,v] w (jT w (gv fs (aw ts 1)) 0 (aw ts 1)):=by
 obtain ⟨E,g,o,rfl,m,a⟩:=n.all ae;have t0:=a 0 ae;have t1:=a 1 ae;rw [D] at t0;simp only [jC,mQ,k7] at t0 t1;have i:=I h;obtain ⟨d,H,J,rfl,-⟩:=id h;have B:((G fs):Int)<=1000:=a6.2 d;have A:(2:Int)<=((G ts):Int):=a6.2 F;have r:((G ts):Int)<=1000:=a6.2 t;have z:=I d;clear h n a;generalize aw ts 1=x at *;have f:Hid ((gv fs x).length<=1000):=I (bf (uS fs x) d);go_in;go_wp2_with (go_at_call 122;refine mo (find_ok fs x i.o) ?_;rintro e w1 ⟨rfl,rfl⟩);generalize bK fs x=K at *;have p:y<w1.heap.size:=gI _ _ u;apply I;go_wp2_with (go_at_call 183;refine (Ad fs x i.o).m ?_;rintro e w3 ⟨j,rfl,b,c⟩;have s:=I c;have l:=I b;clear c b);refine aK (v:=.tuple #[j,zI 0,zG x]) zK rfl ?_;exact ⟨j,rfl,dU.nj l.o f.o,λq C=>fJ l.o q C,s.o⟩
def xN (x z s:By):By:=bV (gJ x z (aI s).1) (aI s).1.length
def mA (x z n:By):By:=if n=x then z else n
def sQ (x z:By) (fs:List RF):List RF:=fs.foldl (λa f=>iu (gv a (mA x z f.nm)) ⟨mA x z f.nm,xN x z f.rl,0,0⟩) []
def TH {x z:By} {fs:List RF} {j:Nat} (a:j<G fs):sQ x z (fs.take (j+1))=iu (gv (sQ x z (fs.take j)) (mA x z fs[j].nm)) ⟨mA x z fs[j].nm,xN x z fs[j].rl,0,0⟩:=by
 unfold sQ;rw [vJ a,List.foldl_append];rfl
def J5 (x z:By) (fs:List RF):(sQ x z fs).length<=(G fs):=by
 unfold sQ;have:∀ (l a:List RF),(l.foldl (λa f=>iu (gv a (mA x z f.nm)) ⟨mA x z f.nm,xN x z f.rl,0,0⟩) a).length<=G a+(G l):=by
  intro l
  induction l with
  | nil=>intro a;simp
  | cons f l b=>
   intro a;rw [wC];refine bf (b _) ?_;rw [uR];have:=uS a (mA x z f.nm);rw [gS];omega
 simpa using this fs []
def TJ (u:w.cell? ⟨y,0,none⟩=some Z) (b:dU w Z fs) (h:ea w v ts) (j:(G ts)<=1000) (n:aw ts 0=[114,101,110,97,109,101]) (r:3<=G ts) (d:bK fs (aw ts 1)<0) :
  zC prog 150 #[zJ y,v] w (jT w [] 5 []):=by
 obtain ⟨p,g,o,rfl,f,a⟩:=h.all ae;have t0:=a 0 ae;have t1:=a 1 ae;have t2:=a 2 ae;rw [n] at t0;simp only [jC,mQ,k7,show 2*2=4 from rfl] at t0 t1 t2;have c:=I b;obtain ⟨l,s,A,rfl,-⟩:=id b;have m:((G fs):Int)<=1000:=a6.2 l;have k:(3:Int)<=((G ts):Int):=a6.2 r;have i:((G ts):Int)<=1000:=a6.2 j;clear b h a;generalize aw ts 1=x at *;generalize aw ts 2=z at *;go_in;go_wp2_with (go_at_call 122;refine mo (find_ok fs _ c.o) ?_;rintro e w1 ⟨rfl,rfl⟩);generalize bK fs x=B at *;apply I;go_wp2_with (go_at_call 122;refine mo (find_ok fs _ c.o) ?_;rintro e w2 ⟨rfl,rfl⟩);generalize bK fs z=t at *;apply I;go_wp2_with fail;refine aK (v:=.tuple #[zN,zI 5,zG []]) zK rfl ?_;exact ⟨_,rfl,jS,(λq hq=>pI),aM _ _⟩
def Hp (u:w.cell? ⟨y,0,none⟩=some Z) (b:dU w Z fs) (h:ea w v ts) (j:(G ts)<=1000) (n:aw ts 0=[114,101,110,97,109,101]) (r:3<=G ts) (d:¬ bK fs (aw ts 1)<0) (C:0<=bK fs (aw ts 2)) :
  zC prog 150 #[zJ y,v] w (jT w [] 6 []):=by
 obtain ⟨p,g,o,rfl,f,a⟩:=h.all ae;have t0:=a 0 ae;have t1:=a 1 ae;have t2:=a 2 ae;rw [n] at t0;simp only [jC,mQ,k7,show 2*2=4 from rfl] at t0 t1 t2;have c:=I b;obtain ⟨l,s,A,rfl,-⟩:=id b;have m:((G fs):Int)<=1000:=a6.2 l;have k:(3:Int)<=((G ts):Int):=a6.2 r;have i:((G ts):Int)<=1000:=a6.2 j;clear b h a;generalize aw ts 1=x at *;generalize aw ts 2=z at *;go_in;go_wp2_with (go_at_call 122;refine mo (find_ok fs _ c.o) ?_;rintro e w1 ⟨rfl,rfl⟩);generalize bK fs x=B at *;apply I;go_wp2_with (go_at_call 122;refine mo (find_ok fs _ c.o) ?_;rintro e w2 ⟨rfl,rfl⟩);generalize bK fs z=t at *;apply I;go_wp2_with fail;refine aK (v:=.tuple #[zN,zI 6,zG []]) zK rfl ?_;exact ⟨_,rfl,jS,(λq hq=>pI),aM _ _⟩
def pO (x z:By) (fs:List RF):Prop:=∀ f∈fs,(xN x z f.rl).length<=100
def O3 {x z:By} {j:Nat} (c:j<G fs) (h:pO x z (fs.take j)) (b:(xN x z fs[j].rl).length<=100):pO x z (fs.take (j+1)):=by
 intro f a;rw [vJ c] at a;rcases cG.1 a with a|a
 ·exact h f a
 ·rw [iB.1 a];exact b
def aep (E:w.cell? ⟨y,0,none⟩=some Z) (L:dU w Z fs) (N:pP fs) (hT:ea w v ts) (hl:(G ts)<=1000) (h0:aw ts 0=[114,101,110,97,109,101]) (h3:3<=G ts) (hz:aw ts 2≠[]/\(aw ts 2).length<=19) (arx:¬ bK fs (aw ts 1)<0) (hk:bK fs (aw ts 2)<0) :
  zC prog 150 #[zJ y,v] w λr w'=>(pO (aw ts 1) (aw ts 2) fs/\jT w (sQ (aw ts 1) (aw ts 2) fs) 0 (aw ts 2) r w')\/(¬ pO (aw ts 1) (aw ts 2) fs/\jT w [] 7 [] r w'):=by
 obtain ⟨cap,g,o,rfl,ary,u⟩:=hT.all ae;have t0:=u 0 ae;have t1:=u 1 ae;have t2:=u 2 ae;rw [h0] at t0;simp only [jC,mQ,k7,show 2*2=4 from rfl] at t0 t1 t2;have Q:=I L;obtain ⟨hn,fa,fc,rfl,-⟩:=id L;have wR:((G fs):Int)<=1000:=a6.2 hn;have hl1:(3:Int)<=((G ts):Int):=a6.2 h3;have hl2:((G ts):Int)<=1000:=a6.2 hl;have R:=I hn;have V:=I N;have Y:=I (gI _ _ E);clear L hT u N;generalize aw ts 1=x at *;generalize aw ts 2=z at *;have HZ:=I hz;have AK:¬ (0:Int)<=bK fs z:=ae;have HC:=I E;clear hz hk;go_in;go_wp2_with (go_at_call 122;refine mo (find_ok fs _ Q.o) ?_;rintro e w1 ⟨rfl,rfl⟩);generalize bK fs x=fi at *;apply I;go_wp2_with (go_at_call 122;refine mo (find_ok fs _ Q.o) ?_;rintro e w2 ⟨rfl,rfl⟩);generalize bK fs z=fk at *;apply I;go_wp2_with fail;clear E t0 t1 t2;go_loopg [11,12] (G fs) (λgk X i wr=>∃ j:Nat,j<=G fs/\(G fs)<=j+gk/\i=zI j/\Hid (dU wr X (sQ x z (fs.take j))/\(∀ q,X.ownBlock=some q->w2.heap.size<=q/\q<wr.heap.size)/\zB w2 wr/\pO x z (fs.take j)))
 case atStart=>exact ⟨0,bE _,jD (cS _).symm,rfl,I ⟨jS,(λq hq=>pI),aM _ _,λf L=>by simp at L⟩⟩
 case round=>
  obtain ⟨j,hj,S,rfl,k⟩:=hrel;have E:=(k.o.2.2.1.cell (p:=⟨y,0,none⟩) Y.o).t HC.o;rcases cC j (G fs) with a|a
  ·have hlt:=eu a;have eQ:=I (eJ a S);obtain ⟨fg,fo,rfl,P,f0,f1⟩:=fA (Q.o.next k.o.2.2.1) a;have J:=I (TH (x:=x) (z:=z) a);have F:=I (O3 (x:=x) (z:=z) a k.o.2.2.2);have H:=I (V.o fs[j] (bt a));have U:=I (bt a);generalize fs[j]=f at *;obtain ⟨B,l⟩:∃ B,Hid (xN x z f.rl=B):=⟨_,I rfl⟩;have O:Hid (∀ W:zW,zC prog 184 #[zG f.rl,zG x,zG z] W λr w'=>r=.returned (zG B)/\zB W w'):=I λW=>by
    rw [<- l.o];exact J6 (w:=W) f.rl x z H.o.1 H.o.2.1 HZ.o
   go_wp2_with (go_at_call 184;refine mo (O.o _) ?_;rintro e w3 ⟨rfl,C⟩);have c3:=(C.cell (p:=⟨y,0,none⟩) (bG Y.o k.o.2.2.1.size)).t E;have f0':=(C.cell (p:=⟨fg,fo+j*4,none⟩) P).t f0;have c:=I C;have s:∀ n,Hid ((iu (gv (sQ x z (fs.take j)) n) ⟨n,B,0,0⟩).length<=1000):=λn=>I (by
    rw [uR];have h1:=uS (sQ x z (fs.take j)) n;have h2:=J5 x z (fs.take j);rw [sF] at h2;have h3:=R.o;omega)
   clear C E f0 f1;by_cases A:(G B)<=100
   ·have K:¬ (100:Int)<((G B):Int):=ae;by_cases m:f.nm=x
    ·have T:(f.nm == x)=true:=by simpa using m
     have s:=s z;have D:=I m;clear m;apply I;go_wp2_with (go_at_call 182;refine mo (BQ (sQ x z (fs.take j)) z B (k.o.1.next c.o)) ?_;rintro e w4 ⟨v4,rfl,b,t⟩);have HN:Hid (dU w4 v4 (sQ x z (fs.take (j+1)))/\(∀ q,v4.ownBlock=some q->w2.heap.size<=q/\q<w4.heap.size)/\zB w2 w4/\pO x z (fs.take (j+1))):=I (by
      have e1:=J.o;rw [l.o,show mA x z f.nm=z from aB D.o] at e1;refine ⟨?_,λq hq=>⟨bf (bf k.o.2.2.1.size c.o.size) (fJ b q hq).1,(fJ b q hq).2⟩,(k.o.2.2.1.t (c.o.m k.o.2.2.1.size)).t (t.m (bf k.o.2.2.1.size c.o.size)),F.o (by rw [l.o];exact A)⟩;rw [e1];exact dU.nj b s.o)
     clear b t;apply I;go_wp2_with fail;go_roundg (G fs - (j+1))
     case measure=>exact eQ.o.2.1
     case rel=>exact wL
    ·have T:(f.nm == x)=false:=by simpa using m
     have s:=s f.nm;have D:=I m;clear m;apply I;go_wp2_with (go_at_call 182;refine mo (BQ (sQ x z (fs.take j)) f.nm B (k.o.1.next c.o)) ?_;rintro e w4 ⟨v4,rfl,b,t⟩);have HN:Hid (dU w4 v4 (sQ x z (fs.take (j+1)))/\(∀ q,v4.ownBlock=some q->w2.heap.size<=q/\q<w4.heap.size)/\zB w2 w4/\pO x z (fs.take (j+1))):=I (by
      have e1:=J.o;rw [l.o,show mA x z f.nm=f.nm from aA D.o] at e1;refine ⟨?_,λq hq=>⟨bf (bf k.o.2.2.1.size c.o.size) (fJ b q hq).1,(fJ b q hq).2⟩,(k.o.2.2.1.t (c.o.m k.o.2.2.1.size)).t (t.m (bf k.o.2.2.1.size c.o.size)),F.o (by rw [l.o];exact A)⟩;rw [e1];exact dU.nj b s.o)
     clear b t;apply I;go_wp2_with fail;go_roundg (G fs - (j+1))
     case measure=>exact eQ.o.2.1
     case rel=>exact wL
   ·have K:(100:Int)<((G B):Int):=ae;have M:Hid (¬ pO x z fs):=I λh=>A (by rw [<- l.o];exact h f U.o);clear A;apply I;go_wp2_with fail;refine aK (v:=.tuple #[zN,zI 7,zG []]) zK rfl ?_;exact Or.inr ⟨M.o,_,rfl,jS,(λq hq=>pI),k.o.2.2.1.t (c.o.m k.o.2.2.1.size)⟩
  ·have tA:=eH a;obtain rfl:j=(G fs):=lT hj a;have d:=I k.o;rw [tq] at d;go_wp2_with fail;refine aK (v:=.tuple #[u11,zI 0,zG z]) zK rfl ?_;exact Or.inl ⟨d.o.2.2.2,u11,rfl,d.o.1,d.o.2.1,d.o.2.2.1⟩
variable {out:List RF} {nm:By}
def abp (er:Nat) (h:er≠0) (i:er<=12) (a:zC prog 150 #[zJ y,v] w (jT w [] er [])) :
  zC prog 116 #[zJ y,v] w (jT w [] er []):=by
 have d:=I a;have g:((er:Int) == 0)=false:=aN;clear a;go_in;go_wp2_with (go_at_call 150;refine d.o.m ?_;rintro e w1 ⟨j,rfl,c,f,b⟩;have B:=I b;clear c f b);refine aK (v:=.tuple #[zN,zI er,zG []]) NG rfl ?_;exact ⟨_,rfl,jS,(λq hq=>pI),B.o⟩
def J7 (d:pP out) (p:zC prog 150 #[zJ y,v] w (jT w out 0 nm)) :
  zC prog 116 #[zJ y,v] w λr w'=>(AO out/\jT w out 8 nm r w')\/(¬ AO out/\jT w out 0 nm r w'):=by
 have t:=I p;have m:=I d;clear p d;go_in;go_wp2_with (go_at_call 150;refine mo t.o ?_;rintro e w1 ⟨i,rfl,n,o,s⟩);have l:=I n;have j:=I o;have g:=I s;clear n o s;apply I;go_wp2_with (go_at_call 151;refine mo (O4 out l.o m.o) ?_;rintro e w2 ⟨u,rfl,b,c⟩);have a:=I c;clear c;cases u
 ·have k:Hid (¬ AO out):=I λh=>absurd (b.2 h) aq;clear b;apply I;go_wp2_with fail;refine aK (v:=.tuple #[i,zI 0,zG nm]) NG rfl ?_;exact Or.inr ⟨k.o,i,rfl,l.o.next a.o,(λq f=>⟨(j.o q f).1,bG (j.o q f).2 a.o.size⟩),g.o.t (a.o.m g.o.size)⟩
 ·have k:Hid (AO out):=I (b.1 rfl);clear b;apply I;go_wp2_with fail;refine aK (v:=.tuple #[i,zI 8,zG nm]) NG rfl ?_;exact Or.inl ⟨k.o,i,rfl,l.o.next a.o,(λq f=>⟨(j.o q f).1,bG (j.o q f).2 a.o.size⟩),g.o.t (a.o.m g.o.size)⟩
end
end Go.Proofs.YtihgojcfpnhelaaGreatDoor
