import Derived.Test.YtihgojcfpnhelaaGreatDoorDb
import Derived.Test.YtihgojcfpnhelaaGreatDoorEm
import Derived.Test.YtihgojcfpnhelaaGreatDoorEk
set_option maxRecDepth 100000
set_option maxHeartbeats 4000000
set_option linter.all false
namespace Go.Proofs.YtihgojcfpnhelaaGreatDoor
open Value renaming slice->B,agg->zd,tuple->zp,bool->zF
open Obj renaming cells->zM
open Ending renaming returned->zP
open Option renaming some->A
open Or renaming inl->zR,inr->zZ
open Go renaming World->zW,Value->zV,Calls->zC,Addr->zD
open Go.RowKit Go.Proofs.Tryz
open List renaming length→G
section
attribute [local go_sem] ap aq
variable {w w' W:zW} {q cl cf i Z j k:Nat} {al af:Option zD} {K:List (By × Nat)} {fs:List RF} {no lf:Bool} {v v' u:Vl}
inductive yg (C:Nat->Vl->Nat->Bool->Prop) (K:List (By × Nat)) (o:Bool):Bool->Vl->Bool->Nat->Vl->Nat->Bool->Prop
 | fin (m:Bool) (v:Vl) (no:Bool) (i:Nat):aw K i≠iw o->yg C K o m v no i (if m=true/\dY v no=false/\v.1≠2 then cL 2 else v) i no
 | type (m:Bool) (v:Vl) (no:Bool) (i:Nat):aw K i=iw o->dY v no=false->v.1≠2->yg C K o m v no i (cL 2) i no
 | short (m:Bool) (v:Vl) (no:Bool) (i:Nat):aw K i=iw o->(dY v no=true\/(v.1=2/\(v.2=1↔o=true)))->yg C K o m v no i v (jy (dG o) K i) no
 | go (m:Bool) (v u v':Vl) (i j k:Nat) (no lf:Bool):aw K i=iw o->v.1=2->¬ (v.2=1↔o=true)->C (i+1) u j no->i<j->j<=G K->yg C K o true u no j v' k lf->yg C K o m v false i v' k lf
def yg.inv {C:Nat->Vl->Nat->Bool->Prop} {o m:Bool} (h:yg C K o m v no j v' k lf) :
  (aw K j≠iw o/\k=j/\lf=no/\v'=(if m=true/\dY v no=false/\v.1≠2 then cL 2 else v)) \/
  (aw K j=iw o/\dY v no=false/\v.1≠2/\v'=cL 2/\k=j/\lf=no) \/
  (aw K j=iw o/\dY v no=true/\v'=v/\k=jy (dG o) K j/\lf=no) \/
  (aw K j=iw o/\dY v no=false/\v.1=2/\(v.2 == 1)=o/\v'=v/\k=jy (dG o) K j/\lf=no) \/
  (aw K j=iw o/\dY v no=false/\no=false/\v.1=2/\(v.2 == 1)=!o/\∃ u c f,C (j+1) u c f/\j<c/\c<=G K/\yg C K o true u f c v' k lf):=by
 have g:∀ (o:Bool),(v.2=1↔o=true)->(v.2 == 1)=o:=λo h=>by
  cases o
  .exact bo.2 λe=>absurd (h.1 e) (by simp)
  .exact beq_iff_eq.2 (h.2 rfl)
 cases h with
 | fin _ _ _ _ h=>exact zR ⟨h,rfl,rfl,rfl⟩
 | type _ _ _ _ b a d=>exact zZ (zR ⟨b,a,d,rfl,rfl,rfl⟩)
 | short _ _ _ _ b a=>
  cases D:dY v no
  .rcases a with a|⟨a,d⟩
   .rw [D] at a;cases a
   .exact zZ (zZ (zZ (zR ⟨b,rfl,a,g o d,rfl,rfl,rfl⟩)))
  .exact zZ (zZ (zR ⟨b,rfl,rfl,rfl,rfl⟩))
 | go _ _ u _ _ c _ f _ b a d l p n i=>
  refine zZ (zZ (zZ (zZ ⟨b,vx (by omega),rfl,a,?_,u,c,f,l,p,n,i⟩)));cases o
  .by_cases h:v.2=1
   .exact beq_iff_eq.2 h
   .exact absurd ⟨λe=>absurd e h,λe=>by cases e⟩ d
  .exact bo.2 λh=>d ⟨λ_=>rfl,λ_=>h⟩
set_option maxHeartbeats 16000000 in
def QS {o:Bool} {z:By} (hz:z=iw o) (Q0:eU q al cl af cf K fs 208 #[eV q,bx z] i v j no) (f:j<=G K) (l:yg (eU q al cl af cf K fs 208 #[eV q,bx z]) K o false v no j v' k lf):eU q al cl af cf K fs 185 #[eV q,bx z] i v' k lf:=by
 obtain ⟨r0,hY⟩:∃ r0,Hid (r0=yg (eU q al cl af cf K fs 208 #[eV q,bx z]) K o):=⟨_,I rfl⟩;rw [<- hY.o] at l;cases o
 all_goals
  have hz0:=I hz;simp [iw] at hz;subst hz;intro w h;have gL:=I Q0;have eP:=I h.pr;have HC:=I l;have gK:=h.lt;have w1:(G K:Int)<=1000:=a6.2 h.tl;clear Q0 h l;go_in;go_wp2_with (go_at_call 208;refine mo (gL.o _ eP.o.at_) ?_;rintro e n ⟨rfl,i7,ja⟩);have o:=I (eP.o.call ja i7);have E:=o.o.rows.2.2;have x1:q<n.heap.size:=bG gK (lF E);have SN:n.heap.size≠w.heap.size:=cN E;have yz:w.heap.size≠n.heap.size:=cZ E;have hj:q≠w.heap.size:=cZ gK;have Jn:w.heap.size≠q:=cN gK;have Q4:q≠n.heap.size:=cZ x1;have H5:n.heap.size≠q:=cN x1;have i6:=I (o.o.new v);clear ja i7 E gL eP o;apply I;go_wp2_with fail;go_loopg [6] (G K - j) (λgk HV wr=>∃ (j:Nat) (v:Vl) (no m:Bool),G K<=j+gk/\j<=G K/\HV=zF m/\Hid (r0 m v no j v' k lf/\jG q al cl af cf K fs w n.heap.size wr j no v))
  case atStart=>exact ⟨j,v,no,false,jD (Nat.add_sub_cancel' f).symm,f,rfl,I ⟨HC.o,i6.o⟩⟩
  case round=>
   clear i6 HC f;obtain ⟨j,v,no,m,hc,f,rfl,a⟩:=hrel;have ht:(j:Int)<=1000:=a6.2 (bf f a.o.2.at_.tl);have ht:(j:Int)<=1000:=a6.2 (bf f a.o.2.at_.tl);go_wp2_with (go_at_call 209;refine mo (fS a.o.2.at_) ?_;rintro e w2 ⟨rfl,x0⟩);have Y:=I (a.o.2.next x0);have yA:=a.o.1;rw [hY.o] at yA;have t:=I yA.inv;have HJ:=I f;clear x0 a f yA;obtain ⟨⟨⟨C,D⟩,⟨F,H⟩,E⟩,⟨O,P⟩,⟨L,M⟩,N⟩:=Y.o.rows;obtain ⟨⟨k0,k1,k2,k3⟩,⟨f0,f1,f2,f3⟩,r1⟩:=aX Y.o.at_.row;generalize aw K j=H4 at *;rcases t.o with ⟨V,rfl,rfl,hv⟩|⟨V,U,T,rfl,rfl,rfl⟩|⟨V,U,rfl,rfl,rfl⟩|⟨V,U,T,H2,rfl,rfl,rfl⟩|⟨V,U,rfl,T,H2,u,x,n2,l,Jo,Jp,H3⟩
   .rw [<- hz0.o] at V;have et:=bo.2 V
    have d:=I hv;clear V hv t;cases m
    .have g:=I (d.o.t (aA (by simp)));clear d;apply I;go_wp2_with fail;refine aK (v:=gH v) (by simp [results,results185,go_sem,C,D]) rfl ?_;rw [g.o];exact ⟨rfl,Y.o.o _ _⟩
    .apply I;go_wp2_with (go_at_call 210;refine mo (dC v Y.o.at_) ?_;rintro e w3 ⟨rfl,b⟩);have R:=I (Y.o.next b);clear b C D F H E O P L M N;obtain ⟨⟨⟨C,D⟩,⟨F,H⟩,E⟩,⟨O,P⟩,⟨L,M⟩,N⟩:=R.o.rows;cases U:dY v lf
     .by_cases T:v.1=2
      .have g:=I (d.o.t (aA (by simp [T])));have y:(v.1 == 2)=true:=(by simpa using T);clear d T;try rw [U]
       apply I;go_wp2_with fail;refine aK (v:=gH v) (by simp [results,results185,go_sem,C,D]) rfl ?_;rw [g.o];exact ⟨rfl,R.o.o _ _⟩
      .have g:=I (d.o.t (aB (by simp [U,T])));have y:(v.1 == 2)=false:=(by simpa using T);clear d T
       try rw [U]
       apply I;go_wp2_with (go_at_call 211;refine mo (mR _ _) ?_;rintro e w4 ⟨rfl,c⟩);have S:=I (R.o.next c);clear c C D F H E O P L M N;obtain ⟨⟨⟨C,D⟩,⟨F,H⟩,E⟩,⟨O,P⟩,⟨L,M⟩,N⟩:=S.o.rows;apply I;go_wp2_with fail;refine aK (v:=gH (cL 2)) (by simp [results,results185,go_sem,C,D]) rfl ?_;rw [g.o];exact ⟨rfl,S.o.o _ _⟩
     .have g:=I (d.o.t (aA (by simp [U])));clear d;try rw [U]
      apply I;go_wp2_with fail;refine aK (v:=gH v) (by simp [results,results185,go_sem,C,D]) rfl ?_;rw [g.o];exact ⟨rfl,R.o.o _ _⟩
   .simp [iw] at V;subst V;clear t;have y:(v.1 == 2)=false:=(by simpa using T);clear T;apply I;go_wp2_with (go_at_call 210;refine mo (dC v Y.o.at_) ?_;rintro e w3 ⟨rfl,b⟩);have R:=I (Y.o.next b);clear b C D F H E O P L M N;obtain ⟨⟨⟨C,D⟩,⟨F,H⟩,E⟩,⟨O,P⟩,⟨L,M⟩,N⟩:=R.o.rows
    try rw [U]
    apply I;go_wp2_with (go_at_call 211;refine mo (mR _ _) ?_;rintro e w4 ⟨rfl,c⟩);have S:=I (R.o.next c);clear c C D F H E O P L M N;obtain ⟨⟨⟨C,D⟩,⟨F,H⟩,E⟩,⟨O,P⟩,⟨L,M⟩,N⟩:=S.o.rows;apply I;go_wp2_with fail;refine aK (v:=gH (cL 2)) (by simp [results,results185,go_sem,C,D]) rfl ?_;exact ⟨rfl,S.o.o _ _⟩
   rotate_right
   .simp [iw] at V;subst V;have D3:=I l;have D6:=I H3;have HM:=I (show (G K) - x<gk/\G K<=x+(G K - x) from ⟨by omega,by omega⟩);clear t l H3;have y:(v.1 == 2)=true:=(by simpa using T);clear T;apply I;go_wp2_with (go_at_call 210;refine mo (dC v Y.o.at_) ?_;rintro e w3 ⟨rfl,b⟩);have R:=I (Y.o.next b);clear b C D F H E O P L M N;obtain ⟨⟨⟨C,D⟩,⟨F,H⟩,E⟩,⟨O,P⟩,⟨L,M⟩,N⟩:=R.o.rows
    try rw [U]
    apply I;go_wp2_with (go_at_call 210;refine mo (dC v R.o.at_) ?_;rintro e w4 ⟨rfl,c⟩);have S:=I (R.o.next c);clear c C D F H E O P L M N;obtain ⟨⟨⟨C,D⟩,⟨F,H⟩,E⟩,⟨O,P⟩,⟨L,M⟩,N⟩:=S.o.rows
    try rw [U]
    clear k0 k1 k2 k3 f0 f1 f2 f3 r1;obtain ⟨⟨k0,k1,k2,k3⟩,⟨f0,f1,f2,f3⟩,r1⟩:=aX S.o.at_.row;apply I;go_wp2_with (go_at_call 208;refine mo (D3.o _ (S.o.inc (j+1)).at_) ?_;rintro e w5 ⟨rfl,r,s⟩);have p:=I ((S.o.inc (j+1)).call s r);clear s r k0 k1 k2 k3 f0 f1 f2 f3 r1 C D F H E O P L M N;obtain ⟨⟨⟨C,D⟩,⟨F,H⟩,E⟩,⟨O,P⟩,⟨L,M⟩,N⟩:=p.o.rows;apply I;go_wp2_with fail;go_roundg (G K - x)
    case measure=>exact HM.o.1
    case rel=>exact ⟨x,u,n2,true,HM.o.2,Jp,rfl,I ⟨by rw [hY.o];exact D6.o,p.o.put u⟩⟩
   rotate_left;have y:(v'.1 == 2)=true:=(by simpa using T);clear T
   all_goals
    simp [iw] at V;subst V;clear t;apply I;go_wp2_with (go_at_call 210;refine mo (dC v' Y.o.at_) ?_;rintro e w3 ⟨rfl,b⟩);have R:=I (Y.o.next b);clear b C D F H E O P L M N;obtain ⟨⟨⟨C,D⟩,⟨F,H⟩,E⟩,⟨O,P⟩,⟨L,M⟩,N⟩:=R.o.rows
    try rw [U]
    apply I;go_wp2_with (go_at_call 210;refine mo (dC v' R.o.at_) ?_;rintro e w4 ⟨rfl,c⟩);have S:=I (R.o.next c);clear c C D F H E O P L M N;obtain ⟨⟨⟨C,D⟩,⟨F,H⟩,E⟩,⟨O,P⟩,⟨L,M⟩,N⟩:=S.o.rows
    try rw [U]
    apply I;go_wp2_with (go_at_call 212;refine mo (SQ hz0.o S.o.at_ HJ.o) ?_;rintro e w5 ⟨rfl,r,s⟩);have p:=I (S.o.call s r);clear s r C D F H E O P L M N;obtain ⟨⟨⟨C,D⟩,⟨F,H⟩,E⟩,⟨O,P⟩,⟨L,M⟩,N⟩:=p.o.rows;apply I;go_wp2_with fail;refine aK (v:=gH v') (by simp [results,results185,go_sem,C,D]) rfl ?_;exact ⟨rfl,p.o.o _ _⟩
variable {w1:zW} {v Z:zV} {aJ:List By} {H:List RF} {y er:Nat}
def fp (er at_:Int) (tx:By) (bn:Option zD) (ln cn:Nat) (kd nn:Int):Obj:=zM #[J er,J at_,Q tx,B bn ln cn,J kd,J nn] 39
def tY (o:Obj) (e:ea w v K) (d:0<G K):∃ a g b,v=B (A (X g b)) (G K) a/\∀ j,j<G K->(w.alloc o).cell? (X g (b+j*2))=A (Q (aw K j)):=by
 obtain ⟨a,g,b,rfl,_,c⟩:=(e.next ((aM _ _).alloc (aG _) o)).all d;exact ⟨a,g,b,rfl,c⟩
def eE (o:Obj) {b k:Nat} {u:zV} (h:w.cell? (X b k)=A u):(w.alloc o).cell? (X b k)=A u:=
 (((aM w.heap.size w).alloc (aG _) o).cell (p:=X b k) (gI w _ h)).t h
def oZ {w1:zW} {er at_ kd nn:Int} {tx:By} {bn:Option zD} {ln cn:Nat} (a:Below (w.alloc (fp er at_ tx bn ln cn kd nn)).heap.size (w.alloc (fp er at_ tx bn ln cn kd nn)) w1):w1.cell? (yh w.heap.size)=A (J er)/\w1.cell? (X w.heap.size 1)=A (J at_)/\w1.cell? (X w.heap.size 2)=A (Q tx)/\w1.cell? (X w.heap.size 3)=A (B bn ln cn)/\w1.cell? (X w.heap.size 4)=A (J kd)/\w1.cell? (X w.heap.size 5)=A (J nn):=
 (eC (t:=39) ((a.block w.heap.size (by simp)).t (by simp only [fp,World.alloc,yi]))).1
def o5 {w1:zW} {o:Obj} (a:Below (w.alloc o).heap.size (w.alloc o) w1):zB w w1:=((aM _ _).alloc (aG _) o).t (a.m (by simp))
def T1 {f:Nat} {ag:Array zV} {a:Ending} {b W:zW} (c:zB b W) (h:zC prog f ag W λr w'=>r=a/\zB W w'):zC prog f ag W λr w'=>r=a/\zB b w':=h.m λr w' h=>⟨h.1,c.t (h.2.m c.size)⟩
def Po (bn:Option zD) (cn:Nat) (f:w.cell? (yh y)=A Z) (j:dU w Z H) (h:cg H) (i:ea w v K) (q:aw K 0=[108,105,115,116]) (c:0<G K) :
  zC prog 84 #[zd #[J 0,J 0,Q (mi H),B bn 0 cn,J 0,J 0],zJ y,v] w λr w'=>r=zP (zF true)/\zB w w':=by
 obtain ⟨s,g,t,rfl,k⟩:=tY (fp 0 0 (mi H) bn 0 cn 0 0) i c;have d:=k 0 c;rw [q] at d;simp only [jC,k7] at d;have m:=eE (fp 0 0 (mi H) bn 0 cn 0 0) f;have o:(0:Int)<(G K:Int):=iD.2 c;have n:=I (pu H (j.next ((aM w.heap.size w).alloc (aG _) (fp 0 0 (mi H) bn 0 cn 0 0))) h);have b:=I (λw1=>oZ (w:=w) (w1:=w1) (er:=0) (at_:=0) (tx:=mi H) (bn:=bn) (ln:=0) (cn:=cn) (kd:=0) (nn:=0));have l:(mi H == mi H)=true:=(by simp);clear k j h i f;generalize mi H=C at *;unfold fp at *;go_in;go_wp2_with (go_at_call 120;refine mo n.o ?_;rintro e w1 ⟨rfl,a⟩);obtain ⟨c0,c1,c2,c3,c4,c5⟩:=b.o _ a;have p:=I (o5 a);clear a;apply I;go_wp2_with fail;go_ret;exact ⟨(by simp),p.o⟩
def Kr (bn:Option zD) (cn:Nat) (t:w.cell? (yh y)=A Z) (O:dU w Z H) (j:pP H) (x:ll w (B bn (G aJ) cn) aJ) (q:G aJ<=1000) (z:RN aJ H) (h:G aJ=G H) (Q0:ea w v K) (L:aw K 0=[111,114,100,101,114]) (o:0<G K) :
  zC prog 84 #[zd #[J 0,J 0,Q [],B bn (G aJ) cn,J 0,J 0],zJ y,v] w λr w'=>r=zP (zF true)/\zB w w':=by
 obtain ⟨M,g,N,rfl,P⟩:=tY (fp 0 0 [] bn (G aJ) cn 0 0) Q0 o;have l:=P 0 o;rw [L] at l;simp only [jC,k7] at l;have f:=(aM w.heap.size w).alloc (aG _) (fp 0 0 [] bn (G aJ) cn 0 0);have d:=eE (fp 0 0 [] bn (G aJ) cn 0 0) t;have S:(0:Int)<(G K:Int):=iD.2 o;have u:=I (λW (m:Below (w.alloc (fp 0 0 [] bn (G aJ) cn 0 0)).heap.size (w.alloc (fp 0 0 [] bn (G aJ) cn 0 0)) W)=>T1 m (Aj ((x.below f).below m) q ((O.next f).next m) j z));have i:=I (λw1=>oZ (w:=w) (w1:=w1) (er:=0) (at_:=0) (tx:=[]) (bn:=bn) (ln:=G aJ) (cn:=cn) (kd:=0) (nn:=0));have k:=I (λw1 (D:Below (w.alloc (fp 0 0 [] bn (G aJ) cn 0 0)).heap.size (w.alloc (fp 0 0 [] bn (G aJ) cn 0 0)) w1)=>(D.cell (p:=yh y) (gI _ _ d)).t d);obtain ⟨C,E,rfl⟩:∃ a c,Z=B a (G H) c:=(by obtain ⟨_,a,c,e,_⟩:=O;exact ⟨a,c,e⟩);rw [h] at u i k d l f;have F:(G H:Int)<=1000:=by rw [<- h];exact a6.2 q
 clear P O j Q0 t x q z;rw [h];generalize (G H)=n at *;clear h f;unfold fp at *;go_in;go_wp2_with fail;obtain ⟨-,-,-,c3,-,-⟩:=i.o _ (aM _ _);have s:=d
 go_region_held3 (λw'=>w'.cell? (X w.heap.size 3)=A (B bn n cn)/\w'.cell? (yh y)=A (B C n E)) (first|(with_reducible exact ⟨c3,s⟩)|go_keep) (first|(go_at_call 121;(with_reducible refine (u.o _ (aM _ _).drew).m ?_);rintro e w1 ⟨rfl,b⟩;obtain ⟨c0,c1,c2,c3,c4,c5⟩:=i.o _ b;have s:=k.o _ b;have R:=I (o5 b);clear b))
 go_wp2_with fail
 go_quiet (fail)
 go_wp2_with fail;go_ret;exact ⟨(by simp),lG R.o _⟩
def be (bn:Option zD) (cn:Nat) (u:w.cell? (yh y)=A Z) (p:dU w Z H) (x:ea w v K) (E:(aw K 0 == [108,105,115,116])=false) (Q0:(aw K 0 == [111,114,100,101,114])=false) (d:1<G K) (t:G K<=1000) (P:bK H (aw K 1)<0) :
  zC prog 84 #[zd #[J 5,J 0,Q [],B bn 0 cn,J 0,J 0],zJ y,v] w λr w'=>r=zP (zF true)/\zB w w':=by
 obtain ⟨O,g,M,rfl,q⟩:=tY (fp 5 0 [] bn 0 cn 0 0) x (yt d);have z:=q 0 (yt d);have s:=q 1 d;simp only [jC,k7,mQ] at z s;have f:=(aM w.heap.size w).alloc (aG _) (fp 5 0 [] bn 0 cn 0 0);have k:=eE (fp 5 0 [] bn 0 cn 0 0) u;have m:(1:Int)<(G K:Int):=iD.2 d;have C:(0:Int)<(G K:Int):=Int.lt_trans (by decide) m;have Y:(G K:Int)<=1000:=a6.2 t;have T:=I (λW (D:Below (w.alloc (fp 5 0 [] bn 0 cn 0 0)).heap.size (w.alloc (fp 5 0 [] bn 0 cn 0 0)) W)=>aD H (aw K 1) ((p.next f).next D));have o:=I (λW=>xT (w:=W) 5 0 bn cn);obtain ⟨S,F,L,rfl⟩:∃ a l c,Z=B a l c:=by
  obtain ⟨_,a,c,e,_⟩:=p;exact ⟨a,_,c,e⟩
 have j:Hid (∀ W,Below (w.alloc (fp 5 0 [] bn 0 cn 0 0)).heap.size (w.alloc (fp 5 0 [] bn 0 cn 0 0)) W->zB w W):=I λW h=>o5 h;have i:=I (oZ (w:=w) (er:=5) (at_:=0) (tx:=[]) (bn:=bn) (ln:=0) (cn:=cn) (kd:=0) (nn:=0) (aM _ _));clear q p x u f;generalize bK H (aw K 1)=V at *;generalize aw K 1=U at *;generalize aw K 0=R at *;generalize (G K)=n at *;clear d t;unfold fp at *;go_in;go_wp2_with fail
 go_region_held3 (λw'=>w'.cell? (yh y)=A (B S F L)/\w'.cell? (X g (M+2))=A (Q U)) (first|(with_reducible exact ⟨k,s⟩)|go_keep) (first|(go_at_call 122;(with_reducible refine (T.o _ (aM _ _).drew).m ?_);rintro e w1 ⟨rfl,rfl⟩))
 obtain ⟨c0,c1,c2,c3,c4,c5⟩:=i.o;go_wp2_with (go_at_call 81;refine mo (o.o _) ?_;rintro e w1 ⟨rfl,b⟩;have N:=I (j.o _ ((aM _ _).drew.t b));clear b);apply I;go_wp2_with fail;go_ret;exact ⟨rfl,N.o⟩
def Pp (bn:Option zD) (cn:Nat) (s:w.cell? (yh y)=A Z) (S:dU w Z H) (x:ea w v K) (z:aw K 0=[114,117,108,101]) (f:1<G K) (q:G K<=1000) {b:Nat} (Q0:b<G H) (u:bK H (aw K 1)=(b:Int)) (P:G H<=1000) :
  zC prog 84 #[zd #[J 0,J 0,Q H[b].rl,B bn 0 cn,J 0,J 0],zJ y,v] w λr w'=>r=zP (zF true)/\zB w w':=by
 obtain ⟨Y,g,L,rfl,m⟩:=tY (fp 0 0 H[b].rl bn 0 cn 0 0) x (yt f);have o:=m 0 (yt f);have p:=m 1 f;rw [z] at o;simp only [jC,k7,mQ] at o p;have d:=(aM w.heap.size w).alloc (aG _) (fp 0 0 H[b].rl bn 0 cn 0 0);have k:=eE (fp 0 0 H[b].rl bn 0 cn 0 0) s;have l:(1:Int)<(G K:Int):=iD.2 f;have V:(0:Int)<(G K:Int):=Int.lt_trans (by decide) l;have n:(G K:Int)<=1000:=a6.2 q;have t:=I (λW (C:Below (w.alloc (fp 0 0 H[b].rl bn 0 cn 0 0)).heap.size (w.alloc (fp 0 0 H[b].rl bn 0 cn 0 0)) W)=>aD H (aw K 1) ((S.next d).next C));obtain ⟨R,T,rfl⟩:∃ a c,Z=B a (G H) c:=(by obtain ⟨_,a,c,e,_⟩:=S;exact ⟨a,c,e⟩);obtain ⟨O,N,rfl,-,-,f1⟩:=fA (S.next d) Q0;rw [u] at t;have D:¬ ((b:Int)<0):=Int.not_lt.2 (mF _);have E:(b:Int)<(G H:Int):=iD.2 Q0;have M:(G H:Int)<=1000:=a6.2 P;have F:(H[b].rl == H[b].rl)=true:=(by simp);have j:Hid (∀ W,Below (w.alloc (fp 0 0 H[b].rl bn 0 cn 0 0)).heap.size (w.alloc (fp 0 0 H[b].rl bn 0 cn 0 0)) W->zB w W):=I λW h=>o5 h;have i:=I (oZ (w:=w) (er:=0) (at_:=0) (tx:=H[b].rl) (bn:=bn) (ln:=0) (cn:=cn) (kd:=0) (nn:=0) (aM _ _));clear m S x s d;clear u;generalize H[b].rl=hf at *;generalize aw K 1=U at *;generalize (G K)=QT at *;clear f q z;unfold fp at *;go_in;go_wp2_with fail
 go_region_held3 (λw'=>w'.cell? (yh y)=A (B (A (X O N)) (G H) T)/\w'.cell? (X g (L+2))=A (Q U)) (first|(with_reducible exact ⟨k,p⟩)|go_keep) (first|(go_at_call 122;(with_reducible refine (t.o _ (aM _ _).drew).m ?_);rintro e w1 ⟨rfl,rfl⟩))
 obtain ⟨c0,c1,c2,c3,c4,c5⟩:=i.o;go_wp2_with fail
 go_quiet (fail)
 go_wp2_with fail;go_ret;exact ⟨(by simp),j.o _ (lG (aM _ _).drew _)⟩
variable {u:zV}
def O2 (z:w.cell? (yh y)=A Z) (c:dU w Z fs) (h:ea w v K) (k:G K<=1000) (r:aw K 0=[115,101,116]) (t:4<=G K) (d:bK fs (aw K 1)<0) (b:10<=G fs) :
  zC prog 150 #[zJ y,v] w (jT w [] 7 []):=by
 obtain ⟨s,g,o,rfl,f,a⟩:=h.all (by omega);have t0:=a 0 (by omega);have t1:=a 1 (by omega);rw [r] at t0;simp only [jC,mQ,k7] at t0 t1;have j:=I c;obtain ⟨n,u,D,rfl,-⟩:=id c;have p:(G fs:Int)<=1000:=a6.2 n;have l:(10:Int)<=(G fs:Int):=a6.2 b;have m:(4:Int)<=(G K:Int):=a6.2 t;have i:(G K:Int)<=1000:=a6.2 k;clear c h a;generalize aw K 1=x at *;go_in;go_wp2_with (go_at_call 122;refine mo (aD fs x j.o) ?_;rintro e w1 ⟨rfl,rfl⟩);generalize bK fs x=E at *;apply I;go_wp2_with fail;refine aK (v:=zp #[zN,J 7,Q []]) (by simp [results,results150,go_sem]) rfl ?_;exact ⟨_,rfl,jS,(λq C=>by cases C),aM _ _⟩
def TF (t:w.cell? (yh y)=A Z) (b:dU w Z fs) (f:ea w v K) (j:G K<=1000) (n:aw K 0=[100,101,108,101,116,101]) (r:2<=G K) (c:bK fs (aw K 1)<0) :
  zC prog 150 #[zJ y,v] w (jT w [] 5 []):=by
 obtain ⟨p,g,o,rfl,d,a⟩:=f.all (by omega);have t0:=a 0 (by omega);have t1:=a 1 (by omega);rw [n] at t0;simp only [jC,mQ,k7] at t0 t1;have i:=I b;obtain ⟨l,s,u,rfl,-⟩:=id b;have m:(G fs:Int)<=1000:=a6.2 l;have k:(2:Int)<=(G K:Int):=a6.2 r;have h:(G K:Int)<=1000:=a6.2 j;clear b f a;generalize aw K 1=x at *;go_in;go_wp2_with (go_at_call 122;refine mo (aD fs x i.o) ?_;rintro e w1 ⟨rfl,rfl⟩);generalize bK fs x=z at *;apply I;go_wp2_with fail;refine aK (v:=zp #[zN,J 5,Q []]) (by simp [results,results150,go_sem]) rfl ?_;exact ⟨_,rfl,jS,(λq C=>by cases C),aM _ _⟩
def m7 (u:w.cell? (yh y)=A Z) (h:dU w Z fs) (n:ea w v K) (t:G K<=1000) (D:aw K 0=[100,101,108,101,116,101]) (F:2<=G K) (k:¬ bK fs (aw K 1)<0) :
  zC prog 150 #[zJ y,v] w (jT w (gv fs (aw K 1)) 0 (aw K 1)):=by
 obtain ⟨E,g,o,rfl,m,a⟩:=n.all (by omega);have t0:=a 0 (by omega);have t1:=a 1 (by omega);rw [D] at t0;simp only [jC,mQ,k7] at t0 t1;have i:=I h;obtain ⟨d,H,O,rfl,-⟩:=id h;have M:(G fs:Int)<=1000:=a6.2 d;have L:(2:Int)<=(G K:Int):=a6.2 F;have r:(G K:Int)<=1000:=a6.2 t;have z:=I d;clear h n a;generalize aw K 1=x at *;have f:Hid ((gv fs x).length<=1000):=I (bf (uS fs x) d);go_in;go_wp2_with (go_at_call 122;refine mo (aD fs x i.o) ?_;rintro e w1 ⟨rfl,rfl⟩);generalize bK fs x=N at *;have p:y<w1.heap.size:=gI _ _ u;apply I;go_wp2_with (go_at_call 183;refine (Ad fs x i.o).m ?_;rintro e P ⟨j,rfl,b,c⟩;have s:=I c;have l:=I b;clear c b);refine aK (v:=zp #[j,J 0,Q x]) (by simp [results,results150,go_sem]) rfl ?_;exact ⟨j,rfl,dU.nj l.o f.o,λq C=>fJ l.o q C,s.o⟩
def xN (x z s:By):By:=bV (gJ x z (aI s).1) (aI s).1.length
def mA (x z n:By):By:=if n=x then z else n
def sQ (x z:By) (fs:List RF):List RF:=fs.foldl (λa f=>iu (gv a (mA x z f.nm)) ⟨mA x z f.nm,xN x z f.rl,0,0⟩) []
def TH {x z:By} {fs:List RF} {j:Nat} (a:j<G fs):sQ x z (fs.take (j+1))=iu (gv (sQ x z (fs.take j)) (mA x z fs[j].nm)) ⟨mA x z fs[j].nm,xN x z fs[j].rl,0,0⟩:=by
 unfold sQ;rw [vJ a,List.foldl_append];rfl
def J5 (x z:By) (fs:List RF):(sQ x z fs).length<=G fs:=by
 unfold sQ;have:∀ (l a:List RF),(l.foldl (λa f=>iu (gv a (mA x z f.nm)) ⟨mA x z f.nm,xN x z f.rl,0,0⟩) a).length<=G a+G l:=by
  intro l
  induction l with
  | nil=>intro a;simp
  | cons f l b=>
   intro a;rw [wC];refine bf (b _) ?_;rw [uR];have:=uS a (mA x z f.nm);rw [gS];omega
 simpa using this fs []
def TJ (u:w.cell? (yh y)=A Z) (b:dU w Z fs) (h:ea w v K) (j:G K<=1000) (n:aw K 0=[114,101,110,97,109,101]) (r:3<=G K) (d:bK fs (aw K 1)<0) :
  zC prog 150 #[zJ y,v] w (jT w [] 5 []):=by
 obtain ⟨p,g,o,rfl,f,a⟩:=h.all (by omega);have t0:=a 0 (by omega);have t1:=a 1 (by omega);have t2:=a 2 (by omega);rw [n] at t0;simp only [jC,mQ,k7,show 2*2=4 from rfl] at t0 t1 t2;have c:=I b;obtain ⟨l,s,D,rfl,-⟩:=id b;have m:(G fs:Int)<=1000:=a6.2 l;have k:(3:Int)<=(G K:Int):=a6.2 r;have i:(G K:Int)<=1000:=a6.2 j;clear b h a;generalize aw K 1=x at *;generalize aw K 2=z at *;go_in;go_wp2_with (go_at_call 122;refine mo (aD fs _ c.o) ?_;rintro e w1 ⟨rfl,rfl⟩);generalize bK fs x=E at *;apply I;go_wp2_with (go_at_call 122;refine mo (aD fs _ c.o) ?_;rintro e F ⟨rfl,rfl⟩);generalize bK fs z=t at *;apply I;go_wp2_with fail;refine aK (v:=zp #[zN,J 5,Q []]) (by simp [results,results150,go_sem]) rfl ?_;exact ⟨_,rfl,jS,(λq C=>by cases C),aM _ _⟩
def Hp (u:w.cell? (yh y)=A Z) (b:dU w Z fs) (h:ea w v K) (j:G K<=1000) (n:aw K 0=[114,101,110,97,109,101]) (r:3<=G K) (d:¬ bK fs (aw K 1)<0) (C:0<=bK fs (aw K 2)) :
  zC prog 150 #[zJ y,v] w (jT w [] 6 []):=by
 obtain ⟨p,g,o,rfl,f,a⟩:=h.all (by omega);have t0:=a 0 (by omega);have t1:=a 1 (by omega);have t2:=a 2 (by omega);rw [n] at t0;simp only [jC,mQ,k7,show 2*2=4 from rfl] at t0 t1 t2;have c:=I b;obtain ⟨l,s,E,rfl,-⟩:=id b;have m:(G fs:Int)<=1000:=a6.2 l;have k:(3:Int)<=(G K:Int):=a6.2 r;have i:(G K:Int)<=1000:=a6.2 j;clear b h a;generalize aw K 1=x at *;generalize aw K 2=z at *;go_in;go_wp2_with (go_at_call 122;refine mo (aD fs _ c.o) ?_;rintro e w1 ⟨rfl,rfl⟩);generalize bK fs x=F at *;apply I;go_wp2_with (go_at_call 122;refine mo (aD fs _ c.o) ?_;rintro e L ⟨rfl,rfl⟩);generalize bK fs z=t at *;apply I;go_wp2_with fail;refine aK (v:=zp #[zN,J 6,Q []]) (by simp [results,results150,go_sem]) rfl ?_;exact ⟨_,rfl,jS,(λq D=>by cases D),aM _ _⟩
def pO (x z:By) (fs:List RF):Prop:=∀ f∈fs,(xN x z f.rl).length<=100
def O3 {x z:By} {j:Nat} (c:j<G fs) (h:pO x z (fs.take j)) (b:(xN x z fs[j].rl).length<=100):pO x z (fs.take (j+1)):=by
 intro f a;rw [vJ c] at a;rcases cG.1 a with a|a
 .exact h f a
 .rw [iB.1 a];exact b
def m8 (E:w.cell? (yh y)=A Z) (L:dU w Z fs) (N:pP fs) (hT:ea w v K) (hl:G K<=1000) (h0:aw K 0=[114,101,110,97,109,101]) (h3:3<=G K) (hz:aw K 2≠[]/\(aw K 2).length<=19) (Q6:¬ bK fs (aw K 1)<0) (hk:bK fs (aw K 2)<0) :
  zC prog 150 #[zJ y,v] w λr w'=>(pO (aw K 1) (aw K 2) fs/\jT w (sQ (aw K 1) (aw K 2) fs) 0 (aw K 2) r w')\/(¬ pO (aw K 1) (aw K 2) fs/\jT w [] 7 [] r w'):=by
 obtain ⟨aa,ad,an,rfl,QV,u⟩:=hT.all (by omega);have t0:=u 0 (by omega);have t1:=u 1 (by omega);have t2:=u 2 (by omega);rw [h0] at t0;simp only [jC,mQ,k7,show 2*2=4 from rfl] at t0 t1 t2;have g:=I L;obtain ⟨hn,fa,fc,rfl,-⟩:=id L;have wR:(G fs:Int)<=1000:=a6.2 hn;have ag:(3:Int)<=(G K:Int):=a6.2 h3;have ak:(G K:Int)<=1000:=a6.2 hl;have eQ:=I hn;have HN:=I N;have Y:=I (gI _ _ E);clear L hT u N;generalize aw K 1=x at *;generalize aw K 2=z at *;have HZ:=I hz;have AK:¬ (0:Int)<=bK fs z:=(by omega);have HC:=I E;clear hz hk;go_in;go_wp2_with (go_at_call 122;refine mo (aD fs _ g.o) ?_;rintro e w1 ⟨rfl,rfl⟩);generalize bK fs x=fi at *;apply I;go_wp2_with (go_at_call 122;refine mo (aD fs _ g.o) ?_;rintro e S ⟨rfl,rfl⟩);generalize bK fs z=fk at *;apply I;go_wp2_with fail;clear E t0 t1 t2;go_loopg [11,12] (G fs) (λgk h i wr=>∃ j:Nat,j<=G fs/\G fs<=j+gk/\i=J j/\Hid (dU wr h (sQ x z (fs.take j))/\(∀ q,h.ownBlock=A q->S.heap.size<=q/\q<wr.heap.size)/\zB S wr/\pO x z (fs.take j)))
 case atStart=>exact ⟨0,bE _,jD (cS _).symm,rfl,I ⟨jS,(λq O=>by cases O),aM _ _,λf L=>by simp at L⟩⟩
 case round=>
  obtain ⟨j,hj,w2,rfl,k⟩:=hrel;have E:=(k.o.2.2.1.cell (p:=yh y) Y.o).t HC.o;rcases cC j (G fs) with a|a
  .have am:=eu a;have R:=I (eJ a w2);obtain ⟨fg,fo,rfl,w4,f0,f1⟩:=fA (g.o.next k.o.2.2.1) a;have o:=I (TH (x:=x) (z:=z) a);have F:=I (O3 (x:=x) (z:=z) a k.o.2.2.2);have H:=I (HN.o fs[j] (bt a));have Q0:=I (bt a);generalize fs[j]=f at *;obtain ⟨M,l⟩:∃ M,Hid (xN x z f.rl=M):=⟨_,I rfl⟩;have hq:Hid (∀ W:zW,zC prog 184 #[Q f.rl,Q x,Q z] W λr w'=>r=zP (Q M)/\zB W w'):=I λW=>by
    rw [<- l.o];exact J6 (w:=W) f.rl x z H.o.1 H.o.2.1 HZ.o
   go_wp2_with (go_at_call 184;refine mo (hq.o _) ?_;rintro e w3 ⟨rfl,C⟩);have c3:=(C.cell (p:=yh y) (bG Y.o k.o.2.2.1.size)).t E;have ac:=(C.cell (p:=X fg (fo+j*4)) w4).t f0;have c:=I C;have s:∀ n,Hid ((iu (gv (sQ x z (fs.take j)) n) ⟨n,M,0,0⟩).length<=1000):=λn=>I (by
    rw [uR];have h1:=uS (sQ x z (fs.take j)) n;have h2:=J5 x z (fs.take j);rw [sF] at h2;have h3:=eQ.o;omega)
   clear C E f0 f1;by_cases U:G M<=100
   .have QT:¬ (100:Int)<(G M:Int):=(by omega);by_cases m:f.nm=x
    .have v4:(f.nm == x)=true:=by simpa using m
     have s:=s z;have D:=I m;clear m;apply I;go_wp2_with (go_at_call 182;refine mo (BQ (sQ x z (fs.take j)) z M (k.o.1.next c.o)) ?_;rintro e P ⟨T,rfl,b,t⟩);have V:Hid (dU P T (sQ x z (fs.take (j+1)))/\(∀ q,T.ownBlock=A q->S.heap.size<=q/\q<P.heap.size)/\zB S P/\pO x z (fs.take (j+1))):=I (by
      have e1:=o.o;rw [l.o,show mA x z f.nm=z from aB D.o] at e1;refine ⟨?_,λq O=>⟨bf (bf k.o.2.2.1.size c.o.size) (fJ b q O).1,(fJ b q O).2⟩,(k.o.2.2.1.t (c.o.m k.o.2.2.1.size)).t (t.m (bf k.o.2.2.1.size c.o.size)),F.o (by rw [l.o];exact U)⟩;rw [e1];exact dU.nj b s.o)
     clear b t;apply I;go_wp2_with fail;go_roundg (G fs - (j+1))
     case measure=>exact R.o.2.1
     case rel=>exact ⟨j+1,R.o.2.2,R.o.1,(by simp),V⟩
    .have v4:(f.nm == x)=false:=by simpa using m
     have s:=s f.nm;have D:=I m;clear m;apply I;go_wp2_with (go_at_call 182;refine mo (BQ (sQ x z (fs.take j)) f.nm M (k.o.1.next c.o)) ?_;rintro e P ⟨T,rfl,b,t⟩);have V:Hid (dU P T (sQ x z (fs.take (j+1)))/\(∀ q,T.ownBlock=A q->S.heap.size<=q/\q<P.heap.size)/\zB S P/\pO x z (fs.take (j+1))):=I (by
      have e1:=o.o;rw [l.o,show mA x z f.nm=f.nm from aA D.o] at e1;refine ⟨?_,λq O=>⟨bf (bf k.o.2.2.1.size c.o.size) (fJ b q O).1,(fJ b q O).2⟩,(k.o.2.2.1.t (c.o.m k.o.2.2.1.size)).t (t.m (bf k.o.2.2.1.size c.o.size)),F.o (by rw [l.o];exact U)⟩;rw [e1];exact dU.nj b s.o)
     clear b t;apply I;go_wp2_with fail;go_roundg (G fs - (j+1))
     case measure=>exact R.o.2.1
     case rel=>exact ⟨j+1,R.o.2.2,R.o.1,(by simp),V⟩
   .have QT:(100:Int)<(G M:Int):=(by omega);have Q4:Hid (¬ pO x z fs):=I λQ5=>U (by rw [<- l.o];exact Q5 f Q0.o);clear U;apply I;go_wp2_with fail;refine aK (v:=zp #[zN,J 7,Q []]) (by simp [results,results150,go_sem]) rfl ?_;exact zZ ⟨Q4.o,_,rfl,jS,(λq O=>by cases O),k.o.2.2.1.t (c.o.m k.o.2.2.1.size)⟩
  .have tA:=eH a;obtain rfl:j=G fs:=lT hj a;have d:=I k.o;rw [tq] at d;go_wp2_with fail;refine aK (v:=zp #[u11,J 0,Q z]) (by simp [results,results150,go_sem]) rfl ?_;exact zR ⟨d.o.2.2.2,u11,rfl,d.o.1,d.o.2.1,d.o.2.2.1⟩
variable {out:List RF} {nm:By}
def m9 (er:Nat) (h:er≠0) (i:er<=12) (a:zC prog 150 #[zJ y,v] w (jT w [] er [])) :
  zC prog 116 #[zJ y,v] w (jT w [] er []):=by
 have d:=I a;have g:((er:Int) == 0)=false:=(by simp;omega);clear a;go_in;go_wp2_with (go_at_call 150;refine d.o.m ?_;rintro e w1 ⟨j,rfl,c,f,b⟩;have C:=I b;clear c f b);refine aK (v:=zp #[zN,J er,Q []]) (by simp [results,results116,go_sem]) rfl ?_;exact ⟨_,rfl,jS,(λq D=>by cases D),C.o⟩
def J7 (d:pP out) (p:zC prog 150 #[zJ y,v] w (jT w out 0 nm)) :
  zC prog 116 #[zJ y,v] w λr w'=>(AO out/\jT w out 8 nm r w')\/(¬ AO out/\jT w out 0 nm r w'):=by
 have t:=I p;have m:=I d;clear p d;go_in;go_wp2_with (go_at_call 150;refine mo t.o ?_;rintro e w1 ⟨i,rfl,n,o,s⟩);have l:=I n;have j:=I o;have g:=I s;clear n o s;apply I;go_wp2_with (go_at_call 151;refine mo (O4 out l.o m.o) ?_;rintro e C ⟨u,rfl,b,c⟩);have a:=I c;clear c;cases u
 .have k:Hid (¬ AO out):=I λh=>absurd (b.2 h) (by simp);clear b;apply I;go_wp2_with fail;refine aK (v:=zp #[i,J 0,Q nm]) (by simp [results,results116,go_sem]) rfl ?_;exact zZ ⟨k.o,i,rfl,l.o.next a.o,(λq f=>⟨(j.o q f).1,bG (j.o q f).2 a.o.size⟩),g.o.t (a.o.m g.o.size)⟩
 .have k:Hid (AO out):=I (b.1 rfl);clear b;apply I;go_wp2_with fail;refine aK (v:=zp #[i,J 8,Q nm]) (by simp [results,results116,go_sem]) rfl ?_;exact zR ⟨k.o,i,rfl,l.o.next a.o,(λq f=>⟨(j.o q f).1,bG (j.o q f).2 a.o.size⟩),g.o.t (a.o.m g.o.size)⟩
end
end Go.Proofs.YtihgojcfpnhelaaGreatDoor
