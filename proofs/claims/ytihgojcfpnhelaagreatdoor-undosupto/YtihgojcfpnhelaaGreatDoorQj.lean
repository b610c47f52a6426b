import Derived.Test.YtihgojcfpnhelaaGreatDoorJt
import Derived.Test.YtihgojcfpnhelaaGreatDoorHn
import Derived.Test.YtihgojcfpnhelaaGreatDoorIj
set_option maxRecDepth 100000
set_option maxHeartbeats 4000000
set_option linter.all false
namespace Go.Proofs.YtihgojcfpnhelaaGreatDoor
open Value renaming slice->B,agg->zd,tuple->zp,bool->zF,pointer->zK
open Obj renaming cells->zM
open Ending renaming returned->zP
open Option renaming some->A
open Or renaming inl->zR,inr->zZ
open Go renaming World->zW,Value->zV,Calls->zC,Addr->zD
open Go.RowKit Go.Proofs.Tryz
open List renaming length→G
def jh (x:By) {S:Nat->Prop} (p:Pt) (a:Option zD) (l c:Nat) (w:zW) (f:dR w S p a l c) (d:∀ q,S q->q<w.heap.size) :
  zC prog 195 #[zd #[J p.k,Q p.nm,J p.n,B a l c],Q x] w λe D=>e=zP (zF (aC x p))/\zB w D:=by
 have H:=I (λC (h:zB w C)=>Iu x f C (λq g=>⟨bG (d q g) h.size,h.block q (d q g)⟩));clear f d;go_in;go_wp2_with (go_at_call 218;refine (H.o _ (bZ _)).m ?_;rintro e C ⟨rfl,b⟩);go_ret;exact ⟨rfl,(bZ _).t (b.m (by simp))⟩
def OL (r:zV) (D:By->Vl) {S:Nat->Prop} (p:Pt) (a:Option zD) (l c:Nat) (w:zW) (h:dR w S p a l c) (g:∀ q,S q->q<w.heap.size) (d:az p) (i:∀ x W,zB w W->zC prog 198 #[r,Q (x:By)] W (dx (D x) W)) :
  zC prog 197 #[zd #[J p.k,Q p.nm,J p.n,B a l c],bH r] w (dx (cD D p) w):=by
 have H:=I (λC (f:zB w C)=>UJ r D h C d (λq k=>⟨bG (g q k) f.size,f.block q (g q k)⟩) (λx W t=>i x W (f.t (t.m f.size))));clear h g i d;go_in;go_wp2_with (go_at_call 220;refine mo (H.o _ (aY _ _ _)) ?_;rintro e C ⟨rfl,b⟩);have m:=(b.block (w.heap.size+1) (by simp)).t (bc w _ _ _);obtain ⟨⟨n,o⟩,⟨f0,f1⟩,s⟩:=cq m;have u:=I (show zB w C from (aY w _ _).t (b.m (by simp;omega)));clear b m H;generalize cD D p=j at *;apply I;go_wp2;refine aK (v:=zd #[J j.1,J j.2]) (by simp [results,results197,go_sem,n,o]) rfl ?_;exact ⟨rfl,dJ u.o _ (by omega) _ _⟩
def R8 (x y:By) (p:Pt) (w:zW) (e:Ending) (w':zW):Prop:=
 zB w w'/\((100<(ai (aR x y p)).length/\e=zP (zp #[zd #[J 0,Q [],J 0,zN],J 7]))\/(¬ 100<(ai (aR x y p)).length/\∃ (a:Option zD) (l c:Nat),e=zP (zp #[zd #[J ((aR x y p).k:Int),Q ((aR x y p).nm),J ((aR x y p).n:Int),B a l c],J 0])/\dR w' (λq=>w.heap.size<=q/\q<w'.heap.size) (aR x y p) a l c))
def Hj (x y:By) {S:Nat->Prop} (p:Pt) (a:Option zD) (l c:Nat) (w:zW) (Q4:dR w S p a l c) (t:∀ q,S q->q<w.heap.size) (o:az p) (G:Env w) (QV:Good (aR x y p)) (C:(ai (aR x y p)).length<=1000000) :
  zC prog 200 #[zd #[J p.k,Q p.nm,J p.n,B a l c],Q x,Q y] w (R8 x y p w):=by
 have H:=I (λN (n:zB w N)=>Lb x y Q4 N o (λq K=>⟨bG (t q K) n.size,n.block q (t q K)⟩));have i:=I (show ∀ (a:Option zD) (l c:Nat) (N O:zW),zB w N->dR O (λq=>N.heap.size<=q/\q<O.heap.size) (aR x y p) a l c->zB N O->zC prog 62 #[zd #[J ((aR x y p).k:Int),Q ((aR x y p).nm),J ((aR x y p).n:Int),B a l c]] O (R8 x y p N) from λa l c N O n E g=>by
  have b:=n.t (g.m n.size);refine (Dq (aR x y p) a l c O E (λq K=>K.2) (G.next b) QV C).m ?_;rintro e Z ⟨j,h⟩;refine ⟨g.t (j.m g.size),?_⟩;rcases h with ⟨d,u⟩|⟨d,u⟩
  .exact zR ⟨d,u⟩
  .exact zZ ⟨d,a,l,c,u,(E.next λq K=>j.block q K.2).wide λq K=>⟨K.1,bG K.2 j.size⟩⟩)
 clear Q4 t o G QV C;go_in;go_wp2_with (first|(go_at_call 222;refine (H.o _ (aY _ _ _)).m ?_;rintro e N ⟨L,Y,M,rfl,k,f⟩)|(go_at_call 62;refine (i.o _ _ _ _ _ (aY _ _ _) k f).m ?_;rintro e W ⟨b,⟨d,rfl⟩|⟨d,F,D,c2,rfl,m⟩⟩<;>apply Hid.o))
 .obtain ⟨⟨R,T,U,V⟩,⟨f0,f1,f2,f3⟩,r⟩:=aX ((b.block (w.heap.size+1) (by simp)).t (bc w _ _ _));have z:=I b;have P:=I d;clear b d f k H i;apply I;go_wp2;refine aK (v:=zp #[zd #[J 0,Q [],J 0,zN],J 7]) (by simp [results,results200,go_sem,R,T,U,V]) rfl ?_;refine ⟨?_,zR ⟨P.o,rfl⟩⟩;exact ((((((aY w _ _).t (z.o.m (by simp;omega))).setCell (p:=yh (w.heap.size+1)) (by show w.heap.size<=w.heap.size+1;omega) _).setCell (p:=X (w.heap.size+1) 1) (by show w.heap.size<=w.heap.size+1;omega) _).setCell (p:=X (w.heap.size+1) 2) (by show w.heap.size<=w.heap.size+1;omega) _).setCell (p:=X (w.heap.size+1) 3) (by show w.heap.size<=w.heap.size+1;omega) _)
 .obtain ⟨⟨R,T,U,V⟩,⟨f0,f1,f2,f3⟩,r⟩:=aX ((b.block (w.heap.size+1) (by simp)).t (bc w _ _ _));have z:=I b;have P:=I d;have s:=I m;clear b d f k H i m;apply I;go_wp2;refine aK (v:=zp #[zd #[J ((aR x y p).k:Int),Q ((aR x y p).nm),J ((aR x y p).n:Int),B F D c2],J 0]) (by simp [results,results200,go_sem,R,T,U,V]) rfl ?_;refine ⟨?_,zZ ⟨P.o,F,D,c2,rfl,(s.o.next λq K=>lx W (w.heap.size+1) _ _ _ _ (by have:=K.1;simp at this;omega)).wide λq K=>⟨by have:=K.1;simp at this;omega,by simpa using K.2⟩⟩⟩;exact ((((((aY w _ _).t (z.o.m (by simp;omega))).setCell (p:=yh (w.heap.size+1)) (by show w.heap.size<=w.heap.size+1;omega) _).setCell (p:=X (w.heap.size+1) 1) (by show w.heap.size<=w.heap.size+1;omega) _).setCell (p:=X (w.heap.size+1) 2) (by show w.heap.size<=w.heap.size+1;omega) _).setCell (p:=X (w.heap.size+1) 3) (by show w.heap.size<=w.heap.size+1;omega) _)
def GW:∀ args w,(callFunc 237 args).run prog w=.ok (.enter 237 args) w:=oK func237 (by kernel_rfl) rfl
def i8 {S:Nat->Prop} (Q4 b q:Nat) (f g:Fd) (w:zW) (i:∀ q,S q->q<w.heap.size) (o:fB w S b f) (m:fB w S q g) (r:w.cell? (yh Q4)=A (zJ b)) :
  zC prog 237 #[zJ q,zJ Q4] w λe C=>e=zP (zF (aC f.nm g.p))/\zB w C:=by
 obtain ⟨_,_,_,_,y,x,c1,d,_⟩:=o;obtain ⟨_,_,_,_,l,k,c2,h,c⟩:=m;obtain ⟨⟨p,_⟩,_,_⟩:=fP d;obtain ⟨⟨_,s,v,t,u,_⟩,_,_⟩:=fP h;have j:=I (jh f.nm g.p l k c2 w.drew (c.next λ_ _=>rfl) i);clear d h c;go_in;go_wp2_with fail
 go_region_with (first|(go_at_call 195;refine j.o.m ?_;rintro e D ⟨rfl,a⟩;have n:=I a;clear a))
 all_goals go_wp2
 all_goals go_ret
 all_goals exact ⟨rfl,(aM _ _).drew.t n.o⟩
def FE (a:Option zD) (n c:Nat) (lb:zV) (w:zW) (q:Nat->Nat) (f:Nat->Bool) (E:n<=1000)
  (t:∀ j,j<n->∃ g o,a=A (X g o)/\g<w.heap.size/\w.cell? (X g (o+j))=A (zK (A (yh (q j)))))
  (u:∀ j,j<n->∀ W,zB w W->zC prog 237 #[zK (A (yh (q j))),lb] W λe F=>e=zP (zF (f j))/\zB W F) :
  zC prog 236 #[B a n c,.func (.func 237) #[] #[lb]] w λe F=>∃ z:Int,e=zP (J z)/\((z = -1/\∀ j,j<n->f j=false)\/∃ j:Nat,j<n/\z=(j:Int)/\f j=true/\∀ i,i<j->f i=false)/\zB w F:=by
 have L:=I t;have y:=I u;have C:=GW;clear t u;go_in;go_wp2_with fail;go_loopg [5,8] n (λgk _ M wr=>∃ j:Nat,j<=n/\n<=j+gk/\M=J j/\Hid (zB w wr)/\Hid (∀ i,i<j->f i=false))
 case atStart=>exact ⟨0,bE _,by omega,rfl,aM _ _,λi K=>by omega⟩
 case round=>
  obtain ⟨j,D,v,rfl,k,s⟩:=hrel;by_cases d:j<n
  .obtain ⟨g,o,rfl,x,c0⟩:=L.o j d;have d0:=(k.o.cell (p:=X g (o+j)) x).t c0;have h:=I (y.o j d wr k.o);have m:=I k.o.size;have l:(j:Int)<(n:Int):=(by omega);clear c0;cases r:f j with
   | true=>
    rw [r] at h;go_wp2_with (first|(go_at_fn 237;refine h.o.m ?_;rintro e H ⟨rfl,b⟩)|(go_at_call 237;refine h.o.m ?_;rintro e H ⟨rfl,b⟩));go_ret;exact ⟨_,rfl,zZ ⟨j,d,rfl,r,s.o⟩,k.o.t (b.m m.o)⟩
   | false=>
    rw [r] at h;go_wp2_with (first|(go_at_fn 237;refine h.o.m ?_;rintro e H ⟨rfl,b⟩)|(go_at_call 237;refine h.o.m ?_;rintro e H ⟨rfl,b⟩));go_roundg (n - (j+1))
    case measure=>omega
    case rel=>
     refine ⟨j+1,by omega,by omega,by go_num,k.o.t (b.m m.o),(show Hid _ from λi K=>?_)⟩;by_cases e:i=j
     .subst e;exact r
     .exact s.o i (by omega)
  .have l:¬ (j:Int)<(n:Int):=(by omega);go_wp2;go_ret;exact ⟨_,rfl,zR ⟨rfl,λi K=>s.o i (by omega)⟩,k.o⟩
def FH {S:Nat->Prop} (a:Option zD) (c b:Nat) (f:Fd) (fs:List (Nat × Fd)) (w:zW) (hs:Sh w S a fs) (hl:G fs<=1000) (o:fB w S b f) :
  zC prog 233 #[B a (G fs) c,zJ b] w λe w'=>∃ z:Int,e=zP (J z)/\((z = -1/\∀ j (h:j<G fs),aC (fs[j]).2.nm f.p=false)\/∃ j:Nat,∃ h:j<G fs,z=(j:Int)/\aC (fs[j]).2.nm f.p=true/\∀ i (d:i<G fs),j<i->aC (fs[i]).2.nm f.p=false)/\zB w w':=by
 have F:=I hs;obtain ⟨_,_,_,_,u,V,c1,H,M⟩:=o;have D:b<w.heap.size:=(cz.1 H).1;have Y:=I H;have T:=I (λx W (N:zB w W)=>jh x f.p u V c1 W (M.next λq r=>N.block q (hs.still q r)) (λq r=>bG (hs.still q r) N.size));clear hs H M;go_in;go_wp2_with fail;go_loopg [5] (G fs+1) (λgk O wr=>∃ j:Nat,j<=G fs/\j<gk/\O=J ((j:Int) - 1)/\Hid (zB w wr)/\Hid (∀ i (d:i<G fs),j<=i->aC (fs[i]).2.nm f.p=false))
 case atStart=>exact ⟨G fs,aG _,by omega,rfl,aM _ _,λi d h=>by omega⟩
 case round=>
  obtain ⟨j,hj,Q4,rfl,m,v⟩:=hrel;cases j with
  | zero=>
   have P:¬ (0:Int)<=((0:Nat):Int) - 1:=(by omega);go_wp2;go_ret;exact ⟨_,rfl,zR ⟨rfl,λi d=>v.o i d (by omega)⟩,m.o⟩
  | succ j=>
   have E:(((j+1:Nat):Int) - 1)=(j:Int):=(by omega);rw [E];have P:(0:Int)<=(j:Int):=(by omega);have Q0:(j:Int)<(G fs:Int):=(by omega);obtain ⟨g,QV,rfl,U,L⟩:=F.o.ptr j (by omega);have Q5:=(m.o.cell (p:=X g (QV+j)) (F.o.still g U)).t L;have r:=F.o.bX fs[j] (bt (by omega));have C:=r.lt;obtain ⟨_,_,_,_,a2,l2,c2,t,_⟩:=r;obtain ⟨⟨k0,_⟩,_,_⟩:=fP ((m.o.block _ C).t t);obtain ⟨⟨_,j1,j2,j3,j4,_⟩,_,_⟩:=fP ((m.o.block b D).t Y.o);have y:=I (T.o (fs[j]).2.nm wr.drew m.o.drew);have s:=m.o.size;have l:∀ i (d:i<G fs),j+1<=i->aC (fs[i]).2.nm f.p=false:=v.o;clear t L;cases n:aC (fs[j]).2.nm f.p with
   | true=>
    have QT:=I (show ((-1:Int) = -1/\False)\/∃ i:Nat,∃ h:i<G fs,(j:Int)=(i:Int)/\aC (fs[i]).2.nm f.p=true/\∀ i' (d:i'<G fs),i<i'->aC (fs[i']).2.nm f.p=false from zZ ⟨j,by omega,rfl,n,λi d h=>l i d (by omega)⟩);rw [n] at y;clear n l v;generalize fs[j]=Z at *;go_wp2_with fail
    go_region_with (first|(go_at_call 195;refine y.o.m ?_;rintro e w1 ⟨rfl,k⟩;have K:=I k;clear k))
    all_goals go_wp2
    all_goals go_ret
    all_goals exact ⟨_,rfl,zZ (QT.o.elim (λh=>h.2.elim) id),m.o.drew.t (K.o.m s)⟩
   | false=>
    have R:=I (show ∀ i (d:i<G fs),j<=i->aC (fs[i]).2.nm f.p=false from λi d h=>by
     by_cases e:i=j
     .subst e;exact n
     .exact l i d (by omega))
    rw [n] at y;clear n l v;generalize fs[j]=Z at *;go_wp2_with fail
    go_region_with (first|(go_at_call 195;refine y.o.m ?_;rintro e w1 ⟨rfl,k⟩;have K:=I k;clear k))
    all_goals go_wp2
    all_goals go_roundg (gk - 1)
    all_goals try (case measure=>omega)
    all_goals exact ⟨j,by omega,by omega,by go_num,m.o.drew.t (K.o.m s),R⟩
def aF (on:List By) (p:Pt):Bool:=on.any λx=>aC x p
def Qy (p:Pt) (a:Option zD) (l c:Nat):zV:=zd #[J p.k,Q p.nm,J p.n,B a l c]
def Lu:∀ args w,(callFunc 195 args).run prog w=.ok (.enter 195 args) w:=oK func195 (by kernel_rfl) rfl
def GX {S:Nat->Prop} (p:Pt) (a:Option zD) (l c:Nat) (on:List By) (C:Option zD) (QV:Nat) (w:zW) (v:dR w S p a l c) (s:∀ q,S q->q<w.heap.size)
  (k:∀ j (h:j<G on),∃ g,C=A (yh g)/\g<w.heap.size/\w.cell? (X g j)=A (Q (on[j]))) (L:G on<=1000) :
  zC prog 217 #[B C (G on) QV,.func (.func 195) #[Qy p a l c] #[]] w λe U=>∃ z:Int,e=zP (J z)/\(0<=z↔aF on p=true)/\zB w U:=by
 have E:=I (λx W (R:zB w W)=>jh x p a l c W (v.next λq u=>R.block q (s q u)) (λq u=>bG (s q u) R.size));have M:=Lu;have t:=I k;clear v s k;go_in;go_wp2_with fail;go_loopg [5,8] (G on) (λgk _ T wr=>∃ j:Nat,j<=G on/\G on<=j+gk/\T=J j/\Hid (zB w wr)/\Hid (∀ i (K:i<G on),i<j->aC on[i] p=false))
 case atStart=>exact ⟨0,bE _,by omega,rfl,aM _ _,λi K h=>by omega⟩
 case round=>
  obtain ⟨j,N,D,rfl,f,y⟩:=hrel;by_cases m:j<G on
  .obtain ⟨g,rfl,F,c0⟩:=t.o j m;have d0:=(f.o.cell (p:=X g j) F).t c0;have d:=I (E.o (on[j]) wr f.o);have o:=I f.o.size;have n:(j:Int)<(G on:Int):=(by omega);clear c0;cases r:aC on[j] p with
   | true=>
    rw [r] at d;unfold Qy;go_wp2_with (first|(go_at_fn 195;refine d.o.m ?_;rintro e O ⟨rfl,b⟩)|(go_at_call 195;refine d.o.m ?_;rintro e O ⟨rfl,b⟩));go_ret;exact ⟨_,rfl,⟨λ_=>rD.2 ⟨on[j],bt m,r⟩,λ_=>by omega⟩,f.o.t (b.m o.o)⟩
   | false=>
    rw [r] at d;go_wp2_with (first|(go_at_fn 195;refine d.o.m ?_;rintro e O ⟨rfl,b⟩)|(go_at_call 195;refine d.o.m ?_;rintro e O ⟨rfl,b⟩));go_roundg (G on - (j+1))
    case measure=>omega
    case rel=>
     refine ⟨j+1,by omega,by omega,by go_num,f.o.t (b.m o.o),(show Hid _ from λi K h=>?_)⟩;by_cases e:i=j
     .subst e;exact r
     .exact y.o i K (by omega)
  .have n:¬ (j:Int)<(G on:Int):=(by omega);go_wp2;go_ret;refine ⟨_,rfl,⟨λh=>by omega,λh=>?_⟩,f.o⟩;obtain ⟨x,H,P⟩:=rD.1 h;obtain ⟨i,K,rfl⟩:=e9 H;rw [y.o i K (by omega)] at P;cases P
def Lx {S:Nat->Prop} (p:Pt) (a:Option zD) (l c:Nat) (on:List By) (i:Option zD) (o:Nat) (w:zW) (k:dR w S p a l c) (m:∀ q,S q->q<w.heap.size)
  (b:∀ j (h:j<G on),∃ g,i=A (yh g)/\g<w.heap.size/\w.cell? (X g j)=A (Q (on[j]))) (r:G on<=1000) :
  zC prog 194 #[B i (G on) o,.func (.func 195) #[Qy p a l c] #[]] w λe C=>e=zP (zF (aF on p))/\zB w C:=by
 have H:=I (GX p a l c on i o w k m b r);clear k m b;go_in;go_wp2_with (go_at_call 217;refine H.o.m ?_;rintro e D ⟨z,rfl,n,d⟩);cases f:aF on p with
 | true=>
  have:0<=z:=n.2 f;have s:decide (0<=z)=true:=by simp [this]
  go_ret;exact ⟨by simp [this,f],d⟩
 | false=>
  have:¬ 0<=z:=λh=>by rw [n.1 h] at f;cases f
  go_ret;exact ⟨by simp [this,f],d⟩
def aO (on:List By):List (Nat × Fd)->List (Nat × Fd)
 | []=>[]
 | f::r=>if aF on f.2.p=true then f::aO (on++[f.2.nm]) r else aO on r
def cA (fs:List (Nat × Fd)):List zV:=fs.map λf=>zK (A (yh f.1))
def oX:(prog.info? 220).map (λi=>(i.zero,i.size,i.bytes))=A (A (zK none),1,8):=by kernel_rfl
def Sm {w:zW} {Q4 j z q n o:Nat} {e f:TypeId} {v v':zV} {C b:List zV} (h:w.ownsRow Q4 e z v n C) (k:w.ownsRow j f q v' o b) (c:e≠f):v.ownBlock=none\/v.ownBlock≠v'.ownBlock:=by
 rcases h.2 with ⟨rfl,_⟩|⟨g,m,p,rfl,_,l,_⟩
 .exact zR rfl
 .right;rcases k.2 with ⟨rfl,_⟩|⟨r,i,d,rfl,_,a,_⟩
  .simp [Value.ownBlock]
  .simp only [Value.ownBlock,ne_eq,rB];rintro rfl;rw [l] at a;simp at a;exact c a.2
def zX (x:By) {S:Nat->Prop} (e c:Nat) (a:Option zD) (fs:List (Nat × Fd)) (w:zW) (hs:Sh w S a fs) (hc:w.cell? (yh e)=A (B a (G fs) c)) (he:e<w.heap.size) (hl:G fs<=900) :
  zC prog 166 #[zJ e,Q x] w λac w'=>∃ HH,ac=zP HH/\w'.ownsRow w.heap.size 220 1 HH (aO [x] fs).length (cA (aO [x] fs))/\zB w w':=by
 have H:=I hs;clear hs;obtain ⟨i0,l,Q4,g0,aa⟩:=fe yU;obtain ⟨i1,gi,qh,qi,pD⟩:=fe oX;go_in;go_wp2_with fail;go_loopg [5,6,8,16] (G fs) (λgk s5 s6 _ ad wr=>∃ (j:Nat) (k:List (Nat × Fd)) (o:List By),j<=G fs/\G fs<=j+gk/\G k<=j/\G o<=j+1/\ad=J j/\Hid (aO [x] fs=k++aO o (fs.drop j))/\Hid (wr.ownsRow w.heap.size 220 1 s5 (G k) (cA k))/\Hid (wr.ownsRow w.heap.size 9 1 s6 (G o) (ab o))/\Hid (zB w wr))
 case atStart=>exact ⟨0,[],[x],bE _,by omega,(by simp),(by simp),rfl,by rw [List.drop_zero];rfl,eW _ _ _ _,nz w [x] (by simp),(aM _ _).alloc (aG _) _⟩
 case round=>
  obtain ⟨j,k,o,hj,xA,hk,ho,rfl,V,T,K,s⟩:=hrel;obtain ⟨ak,lk,ck,rfl⟩:=b7 T.o;by_cases E:j<G fs
  .obtain ⟨QV,of,rfl,hg,hp⟩:=H.o.ptr j E;have am:=(s.o.cell (p:=X QV (of+j)) (H.o.still QV hg)).t hp;have f:=H.o.bX fs[j] (bt E);have Z:=f.lt;obtain ⟨_,_,_,_,a1,l1,c1,t,i⟩:=f;obtain ⟨⟨k0,k1,k2,k3,k4,k5,k6⟩,_,ar⟩:=fP ((s.o.block _ Z).t t);have Q0:(j:Int)<(G fs:Int):=(by omega);obtain ⟨U,lo,co,rfl⟩:=b7 K.o;have QT:lo=G o:=by
    rcases K.o.2 with ⟨D,h2⟩|⟨_,_,_,D,_⟩
    .simp at D;omega
    .simp at D;omega
   subst QT;have P:=I (λW (t:zB wr W)=>Lx (fs[j]).2.p a1 l1 c1 o U co W ((i.next λq f=>s.o.block q (H.o.still q f)).next λq f=>t.block q (bG (H.o.still q f) s.o.size)) (λq f=>bG (bG (H.o.still q f) s.o.size) t.size) (λhm l=>by
    rcases K.o.2 with ⟨D,h2⟩|⟨g,ag,al,D,h2,h3,_⟩
    .omega
    .have e1:U=A (yh g):=by simp at D;exact D.1
     subst e1;have L:=(cz.1 h3).1;refine ⟨g,rfl,bG L t.size,?_⟩;rw [t.cell (p:=X g hm) L,K.o.cellAt hm (by omega)];simp [ab,l]) (by omega))
   have v:=jL E;have af:=I i;have N:=I t;clear i t hp;cases O:aF o (fs[j]).2.p with
   | false=>
    have z:=I (show aO [x] fs=k++aO o (fs.drop (j+1)) by rw [V.o,v];simp [aO,O]);rw [O] at P;clear O;generalize fs[j]=n at *;go_wp2_with (go_at_call 194;refine (P.o _ (aM _ _)).m ?_;rintro e m ⟨rfl,d⟩);go_roundg (G fs - (j+1))
    case measure=>omega
    case rel=>exact ⟨j+1,k,o,by omega,by omega,by omega,by omega,by go_num,z,aZ T.o d,aZ K.o d,s.o.t (d.m s.o.size)⟩
   | true=>
    have z:=I (show aO [x] fs=(k++[fs[j]])++aO (o++[(fs[j]).2.nm]) (fs.drop (j+1)) by rw [V.o,v];simp [aO,O]);rw [O] at P;clear O;generalize fs[j]=n at *;go_wp2_with (go_at_call 194;refine mo (P.o _ (aM _ _)) ?_;rintro e m ⟨rfl,d⟩);have Y:=I (aZ T.o d);have r:=I (aZ K.o d);have C:=I (s.o.t (d.m s.o.size));have hP:=C.o.size;obtain ⟨⟨m0,_⟩,_,an⟩:=fP ((C.o.block _ Z).t N.o);clear d;apply I;go_wp2_with (at_builtin;refine km _ rfl (.tmp 27) (.tmp 29) 101 rfl w.heap.size 220 i1 (zK none) 1 8 underlying101 gi qh qi pD rfl (by decide) (B ak lk ck) (G k) (cA k) rfl (Y.o.alloc _) (yh m.heap.size) 1 1 [zK (A (yh n.1))] rfl rfl (λq u f=>bC m [zK (A (yh n.1))] 220 q u f) (λu R=>by simp at R;subst R;rfl) (by unfold maxLen;omega) (by omega) (by simp;omega) ?_;intro v' w2 Q5 h _;apply Hid.o);have y:=I ((C.o.alloc hP (zM #[zK (A (yh n.1))] 220)).grown h (by simp;omega) (λq f=>(Y.o.lt q f).1));have w1:=y.o.size;obtain ⟨⟨n0,_⟩,_,ao⟩:=fP ((y.o.block _ Z).t N.o);have F:=I ((r.o.alloc (zM #[zK (A (yh n.1))] 220)).kept h (Sm r.o Y.o (by decide)));have M:=I Q5;clear h Q5;apply I;go_wp2_with (at_builtin;refine km _ rfl (.tmp 31) (.tmp 36) 24 rfl w.heap.size 9 i0 (Q []) 1 16 underlying24 l Q4 g0 aa rfl (by decide) (B U (G o) co) (G o) (ab o) rfl (F.o.alloc _) (yh w2.heap.size) 1 1 [Q n.2.nm] rfl rfl (λq u f=>bC w2 [Q n.2.nm] 9 q u f) (λu R=>by simp at R;subst R;rfl) (by unfold maxLen;omega) (by omega) (by simp;omega) ?_;intro v3 w3 hu b _;apply Hid.o);have hi:=I ((y.o.alloc w1 (zM #[Q n.2.nm] 9)).grown b (by simp;omega) (λq f=>(F.o.lt q f).1));have Tt:=I ((M.o.alloc (zM #[Q n.2.nm] 9)).kept b (Sm M.o F.o (by decide)));have Q6:=I hu;clear b hu;apply I;go_wp2;go_roundg (G fs - (j+1))
    case measure=>omega
    case rel=>exact ⟨j+1,k++[n],o++[n.2.nm],by omega,by omega,by simp;omega,by simp;omega,by go_num,z,I (by rw [b6];simpa [cA] using Tt.o),I (by rw [b6];simpa [ab] using Q6.o),hi⟩
  .have Q0:¬ (j:Int)<(G fs:Int):=(by omega);go_wp2;go_ret;have e1:aO [x] fs=k:=by
    rw [V.o,nY (by omega)];simp [aO]
   rw [e1];exact ⟨_,rfl,T.o,s.o⟩
def Sn:(prog.info? 223).map (λi=>i.size)=A 7:=by kernel_rfl
def FD (b:Nat) (w:zW):(binOp .eql 220 (zJ b) (zJ b)).run prog w=.ok (zF true) w:=by
 obtain ⟨i,a,_⟩:=oF.1 Sn;exact run_eql_ptr_same w _ underlying220 a
def Dz {S:Nat->Prop} {b g:Nat} {f m:Fd} (w:zW) (h:fB w S b f) (k:fB w S g m) (j:b≠g):(binOp .eql 220 (zJ b) (zJ g)).run prog w=.ok (zF false) w:=by
 obtain ⟨i,o,C⟩:=oF.1 Sn;obtain ⟨_,_,_,_,a,l,c,n,_⟩:=h;obtain ⟨_,_,_,_,r,q,p,d,_⟩:=k;exact run_eql_ptr_other w underlying220 o (by omega) (λe=>j (eL Addr.block e)) n d
def qI {S:Nat->Prop} (a:Option zD) (c b d:Nat) (fs:List (Nat × Fd)) (w:zW) (hs:Sh w S a fs) (z:G fs<=1000) (l:d<G fs) (s:(fs[d]).1=b) (p:∀ i (h:i<G fs),i<d->(fs[i]).1≠b) :
  zC prog 165 #[B a (G fs) c,zJ b] w λe C=>e=zP (J d)/\w=C:=by
 have m:=I hs;have u:=I p;have r:=I s;clear hs p s;go_in;go_wp2_with fail;go_loopg [5,8] (G fs) (λgk _ y wr=>wr=w/\∃ j:Nat,j<=d/\G fs<=j+gk/\y=J j)
 case atStart=>exact ⟨rfl,0,bE _,by omega,rfl⟩
 case round=>
  obtain ⟨rfl,j,E,v,rfl⟩:=hrel;obtain ⟨g,o,rfl,D,x⟩:=m.o.ptr j (by omega);have q:(j:Int)<(G fs:Int):=(by omega);by_cases t:j=d
  .subst t;rw [r.o] at x;have k:=FD b wr;go_wp2;go_ret;exact ⟨rfl,rfl⟩
  .have n:=u.o j (by omega) (by omega);have f:=Dz wr (r.o▸m.o.bX fs[d] (bt l)) (m.o.bX fs[j] (bt (by omega))) (λh=>n h.symm);go_wp2;go_roundg (G fs - (j+1))
   case measure=>omega
   case rel=>exact ⟨rfl,j+1,by omega,by omega,by go_num⟩
def GY (n:Nat) (w:zW) (p:n<=1000) :
  zC prog 193 #[zN,J n] w λe C=>∃ v,e=zP v/\C.ownsRow w.heap.size 220 1 v 0 []/\zB w C:=by
 have j:¬ (n:Int)<0:=(by omega);obtain ⟨k,l,b,h,d⟩:=fe oX;by_cases o:n=0
 .subst o;go_in;go_wp2;go_ret;exact ⟨_,rfl,eW _ _ _ _,aM _ _⟩
 .have m:(0:Int)<(n:Int):=(by omega);go_in;have a:=Lib.run_append_nil_zeros (P:=prog) w 101 3 101 220 k (zK none) .i64 .i64 underlying101 underlying3 l b n (by omega) (by omega) (by omega) (by rw [d];omega);have i:=I a;have g:=grownCap_ge w n 0 220;have c:=grownCap_le_maxLen w n 0 220 (by unfold maxLen;omega);generalize grownCap w n 0 220=f at *;clear a;go_wp2_with (at_builtin;refine Lib.wpList_append_run _ rfl _ _ _ _ rfl _ _ rfl rfl _ _ i.o ?_);go_ret;exact ⟨_,rfl,⟨(by simp),zZ ⟨w.heap.size,f,_,rfl,aG _,bL w _,bE _,c,by simp [size_zeroCells];omega,by simp⟩⟩,(bZ _).drew⟩
def aW (g o j:Nat):((X g o):zD).add j=(X g (o+j)):=by
 unfold Addr.add;split<;>simp_all
def lI (w:zW) (v:zV) (fs:List (Nat × Fd)):Prop:=∃ (a:Option zD) (c:Nat),v=B a (G fs) c/\(a=none->c=0)/\∀ j (h:j<G fs),∃ g o,a=A (X g o)/\g<w.heap.size/\w.cell? (X g (o+j))=A (zK (A (yh ((fs[j]).1))))
def lI.next {w w':zW} {v:zV} {fs:List (Nat × Fd)} (h:lI w v fs) (d:zB w w'):lI w' v fs:=by
 obtain ⟨a,c,e,k,h⟩:=h;refine ⟨a,c,e,k,λj i=>?_⟩;obtain ⟨g,o,f,b,l⟩:=h j i;exact ⟨g,o,f,bG b d.size,(d.cell (p:=X g (o+j)) b).t l⟩
def b9:List (List (Nat × Fd))->List (Nat × Fd)
 | []=>[]
 | x::r=>x++b9 r
def yb (a b:List (List (Nat × Fd))):b9 (a++b)=b9 a++b9 b:=by
 induction a with
 | nil=>rfl
 | cons x a c=>simp [b9,c]
def DA (a:List (List (Nat × Fd))) (i:Nat) (h:i<G a):b9 (a.take (i+1))=b9 (a.take i)++a[i]:=by
 rw [show a.take (i+1)=a.take i++[a[i]] by rw [List.take_add_one,cU h];rfl,yb];simp [b9]
def DB (a:List (List (Nat × Fd))) (i:Nat):(b9 (a.take i)).length<=(b9 a).length:=by
 have:=eL (λx=>(b9 x).length) (wa i a);simp only [yb,b6] at this;omega
def rK (c:List (List (Nat × Fd))) (S:List zV) (E cc:Nat) (w:zW) (w':G S=G c) (Q6:E<w.heap.size) (b:∀ i (h:i<G c),w.cell? (X E i)=A (S[i]'(by omega))/\lI w (S[i]'(by omega)) c[i]) (hl:(b9 c).length<=500) (i1:G c<=10) :
  zC prog 164 #[zS E (G c) cc] w λe q=>∃ v,e=zP v/\q.ownsRow w.heap.size 220 1 v (b9 c).length (cA (b9 c))/\zB w q:=by
 obtain ⟨n,Z,Q5,h1,Q0⟩:=fe oX;have U:=I b;clear b;go_in;go_wp2_with fail;go_loopg [3,5,11] (G c) (λgk s3 _ HC wr=>wr=w/\∃ i:Nat,i<=G c/\G c<=i+gk/\HC=J i/\s3=J ((b9 (c.take i)).length:Int))
 case atStart=>exact ⟨rfl,0,bE _,by omega,rfl,rfl⟩
 case round=>
  obtain ⟨hw,i,hi,HG,rfl,rfl⟩:=hrel;obtain rfl:=hw.symm;by_cases t:i<G c
  .obtain ⟨f,l,c0⟩:∃ f l,w.cell? (X E i)=A (B f (c[i]).length l):=by
    obtain ⟨c0,f,l,R,_⟩:=U.o i t;exact ⟨f,l,by rw [c0,R]⟩
   have QT:(i:Int)<(G c:Int):=(by omega);have O:=DB c i;have a:=DB c (i+1);have e1:(b9 (c.take (i+1))).length=(b9 (c.take i)).length+(c[i]).length:=by rw [DA c i t,b6]
   generalize (c[i]).length=HN at *;generalize (b9 (c.take i)).length=HB at *;go_wp2;go_roundg (G c - (i+1))
   case measure=>omega
   case rel=>exact ⟨rfl,i+1,by omega,by omega,by go_num,by rw [e1];go_num⟩
  .have QT:¬ (i:Int)<(G c:Int):=(by omega);obtain rfl:i=G c:=(by omega);rw [tq];have T:=I (GY (b9 c).length w (by omega));have F:=I (show ∀ i,(b9 (c.take i)).length<=500 from λi=>bf (DB c i) hl);generalize M:(b9 c).length=nn at T;have Gh:=I M;clear M;go_wp2_with (go_at_call 193;refine mo T.o ?_;rintro e w1 ⟨v,rfl,z,Y⟩);have HO:=I z;have r:=I Y;clear z Y T;apply I;go_wp2_with fail;go_loopg [6,8,27] (G c) (λgk s6 _ QV wr=>∃ i:Nat,i<=G c/\G c<=i+gk/\QV=J i/\Hid (wr.ownsRow w.heap.size 220 1 s6 (b9 (c.take i)).length (cA (b9 (c.take i))))/\Hid (zB w wr))
   case atStart=>exact ⟨0,bE _,by omega,rfl,HO,r⟩
   case round=>
    obtain ⟨i,hi,HG,rfl,y,d⟩:=hrel;have L:=d.o.size;by_cases t:i<G c
    .have C:(i:Int)<(G c:Int):=(by omega);obtain ⟨f,l,c0,Q4,V⟩:∃ f l,w.cell? (X E i)=A (B f (c[i]).length l)/\(f=none->l=0)/\Hid (∀ j (h:j<(c[i]).length),∃ g o,f=A (X g o)/\g<w.heap.size/\w.cell? (X g (o+j))=A (zK (A (yh (((c[i])[j]).1))))):=by
      obtain ⟨c0,f,l,R,hn,hp⟩:=U.o i t;exact ⟨f,l,by rw [c0,R],hn,hp⟩
     have d0:=(d.o.cell (p:=X E i) Q6).t c0;have N:=I (DA c i t);have hu:=F.o i;have D7:=F.o (i+1);have e1:(b9 (c.take (i+1))).length=(b9 (c.take i)).length+(c[i]).length:=by rw [N.o,b6]
     generalize c[i]=K at *;clear c0;cases f with
     | none=>
      have h0:K=[]:=by
       rcases K with _|⟨ac,aa⟩
       .rfl
       .obtain ⟨g,o,O,_⟩:=V.o 0 (by simp);cases O
      subst h0;obtain rfl:=Q4 rfl;have D:=I (show wr.ownsRow w.heap.size 220 1 u6 (b9 (c.take (i+1))).length (cA (b9 (c.take (i+1)))) by rw [N.o,iq];exact y.o);go_wp2_with (at_builtin;refine Bv rfl (.tmp 31) (.tmp 32) 101 rfl w.heap.size 220 n 1 underlying101 Z u6 (b9 (c.take i)).length (cA (b9 (c.take i))) rfl y.o rfl ?_);go_roundg (G c - (i+1))
      case measure=>omega
      case rel=>exact ⟨i+1,by omega,by omega,by go_num,D,d⟩
     | some P=>
      have x:=I (show ∀ j u,(cA K)[j]?=A u->wr.cell? (P.add j)=A u from λj u W=>by
       have H:j<G K:=by
        have:=(fI.1 W).1;simpa [cA] using this
       obtain ⟨g,o,O,a,h3⟩:=V.o j H;obtain rfl:P=(X g o):=(by simpa using O);rw [aW,d.o.cell (p:=X g (o+j)) a,h3];simp [cA,H] at W;rw [<- W])
      go_wp2_with (at_builtin;refine km _ rfl (.tmp 31) (.tmp 32) 101 rfl w.heap.size 220 n (zK none) 1 8 underlying101 Z Q5 h1 Q0 rfl (by decide) u6 (b9 (c.take i)).length (cA (b9 (c.take i))) rfl y.o P (G K) l (cA K) rfl (by simp [cA]) x.o (λu m=>by simp [cA] at m;obtain ⟨h2,hc,_,rfl⟩:=m;rfl) (by unfold maxLen;omega) (by omega) L ?_;intro v' w2 k s _;apply Hid.o);have D:=I (show w2.ownsRow w.heap.size 220 1 v' (b9 (c.take (i+1))).length (cA (b9 (c.take (i+1)))) by
       rw [N.o,b6,show cA (b9 (c.take i)++K)=cA (b9 (c.take i))++cA K by simp [cA]];exact k)
      have HP:=I (d.o.grown s L (λgi hq=>(y.o.lt gi hq).1));clear s k;apply I;go_wp2;go_roundg (G c - (i+1))
      case measure=>omega
      case rel=>exact ⟨i+1,by omega,by omega,by go_num,D,HP⟩
    .have C:¬ (i:Int)<(G c:Int):=(by omega);obtain rfl:i=G c:=(by omega);go_wp2;go_ret;have:=y.o;rw [tq] at this;exact ⟨_,rfl,this,d.o⟩
section
attribute [local go_sem] aW
def Sh.part {w:zW} {S:Nat->Prop} {g o:Nat} {fs:List (Nat × Fd)} (h:Sh w S (A (X g o)) fs) (i n c:Nat) (m:i+n<=G fs):lI w (B (A (X g (o+i))) n c) ((fs.drop i).take n):=by
 have b:((fs.drop i).take n).length=n:=(by simp;omega);refine ⟨_,c,by rw [b],λh=>(by cases h),λj e=>?_⟩;rw [b] at e;obtain ⟨k,l,a,d,f⟩:=h.ptr (i+j) (by omega);simp at a;obtain ⟨rfl,rfl⟩:=a;refine ⟨g,o+i,rfl,h.still g d,?_⟩;rw [oJ,f];simp
def lI.empty (w:zW) (a:zD) (c:Nat):lI w (B (A a) 0 c) []:=⟨A a,c,rfl,λh=>(by cases h),λj C=>by simp at C⟩
def eK (fs:List (Nat × Fd)) (at_ j:Nat):List (Nat × Fd):=b9 [fs.take j,(fs.drop at_).take 1,(fs.drop j).take (at_ - j),fs.drop (at_+1)]
def Qs {S:Nat->Prop} (a:Option zD) (c at_ b:Nat) (fs:List (Nat × Fd)) (w:zW) (hs:Sh w S a fs) (hl:G fs<=100) (D:at_<G fs) (R:b<at_) (T:∀ i (h:i<G fs),i<at_->(fs[i]).1≠(fs[at_]).1) (O:aC (fs[at_]).2.nm (fs[b]).2.p=true) (U:∀ i (h:i<G fs),i<b->aC (fs[at_]).2.nm (fs[i]).2.p=false) (HI:G fs<=c) :
  zC prog 216 #[B a (G fs) c,zK (A (yh ((fs[at_]).1)))] w λe K=>∃ v,e=zP v/\K.ownsRow w.heap.size 220 1 v (eK fs at_ b).length (cA (eK fs at_ b))/\zB w K:=by
 have o:=I (λW (L:zB w W)=>qI a c (fs[at_]).1 at_ fs W (hs.next L) (by omega) D rfl T);have w':=I (λW (L:zB w W) (hB:W.cell? (yh w.heap.size)=A (zK (A (yh ((fs[at_]).1))))) (ln:w.heap.size<W.heap.size)=>(FE a at_ c (zJ w.heap.size) W (λj=>((fs[j]?).map λx=>x.1).getD 0) (λj=>((fs[j]?).map λx=>aC (fs[at_]).2.nm x.2.p).getD false) (by omega) (λj hj=>by
  obtain ⟨Q0,Q4,h1,E,N⟩:=(hs.next L).ptr j (by omega);refine ⟨Q0,Q4,h1,bG (hs.still Q0 E) L.size,?_⟩;rw [N];simp [show j<(G fs) by omega]) (λj hj W' l=>by
  have z:j<G fs:=(by omega);have C:=(hs.next L).next l;have:=i8 (S:=S) w.heap.size (fs[at_]).1 (fs[j]).1 (fs[at_]).2 (fs[j]).2 W' C.still (C.bX _ (bt D)) (C.bX _ (bt z)) ((l.cell (p:=yh w.heap.size) ln).t hB);simpa [z] using this)).m (R':=λr K=>r=zP (J b)/\zB W K) (by
   rintro r K ⟨aa,rfl,hz,l⟩;refine ⟨?_,l⟩;rcases hz with ⟨_,E⟩|⟨j,hj,rfl,E,N⟩
   .have:=E b R;simp [show b<(G fs) by omega,O] at this
   .have e:j=b:=by
     rcases Nat.lt_trichotomy j b with h|h|h
     .simp [show j<(G fs) by omega,U j (by omega) h] at E
     .exact h
     .have:=N b h;simp [show b<(G fs) by omega,O] at this
    rw [e]))
 obtain ⟨d,f,rfl,_,_⟩:=hs.ptr at_ D;have Q6:(at_:Int)<=(G fs:Int):=(by omega);have QT:(at_:Int)<=(c:Int):=(by omega);have z1:¬ (b:Int)<0:=(by omega);have z2:(b:Int)<=(c:Int):=(by omega);have z3:(at_:Int)<=(at_:Int)+1:=(by omega);have z4:(at_:Int)+1<=(c:Int):=(by omega);have z5:(b:Int)<=(at_:Int):=(by omega);have z6:(at_:Int)+1<=(G fs:Int):=(by omega);have z7:(G fs:Int)<=(c:Int):=(by omega);have y1:¬ c=at_:=(by omega);have y2:¬ c=b:=(by omega);have y4:¬ at_=0:=(by omega);have QV:IntKind.i64.wrap ((at_:Int)+1)=(at_:Int)+1:=(by rw [IntKind.wrap_i64];omega);have z8:(at_:Int)<100:=(by omega);have z9:at_+1<=c:=(by omega);have ac:at_<c:=(by omega);have ad:at_<=c:=(by omega);have af:b<=c:=(by omega);have ag:b<=at_:=(by omega);have ak:at_+1<=G fs:=(by omega);have w1:=I hs;clear hs T O U;generalize (fs[at_]).1=Q5 at *;go_in;go_wp2_with (first|(go_at_call 165;refine (o.o _ (bZ _)).m ?_;rintro e H ⟨rfl,rfl⟩;clear o)|(go_at_call 236;refine mo (w'.o _ (bZ _) (by simp) (by simp)) ?_;rintro e H ⟨rfl,q⟩));have F:=I (((aM w.heap.size w).alloc (aG _) (zM #[zJ Q5] 220)).t (q.m (by simp)));clear q w';apply I;have k:=I (show ∀ (c4:Nat) (u:zD),lI H (B (A u) (G fs - (at_+1)) c4) (fs.drop (at_+1))->zC prog 164 #[zS H.heap.size 4 4] (H.alloc (zM #[B (A (X d f)) b c,B (A (X d (f+at_))) 1 (c - at_),B (A (X d (f+b))) (at_ - b) (c - b),B (A u) (G fs - (at_+1)) c4] 101)).drew λe K=>∃ P Y V,e=zP (B P Y V)/\K.ownsRow w.heap.size 220 1 (B P Y V) (eK fs at_ b).length (cA (eK fs at_ b))/\zB w K from λc4 u h4=>by
  have m:=w1.o.next F.o;have n:zB H (H.alloc (zM #[B (A (X d f)) b c,B (A (X d (f+at_))) 1 (c - at_),B (A (X d (f+b))) (at_ - b) (c - b),B (A u) (G fs - (at_+1)) c4] 101)).drew:=(bZ _).drew;have cn:(H.alloc (zM #[B (A (X d f)) b c,B (A (X d (f+at_))) 1 (c - at_),B (A (X d (f+b))) (at_ - b) (c - b),B (A u) (G fs - (at_+1)) c4] 101)).drew.heap[H.heap.size]?=A (zM #[B (A (X d f)) b c,B (A (X d (f+at_))) 1 (c - at_),B (A (X d (f+b))) (at_ - b) (c - b),B (A u) (G fs - (at_+1)) c4] 101 (0,0)):=bL H _;have JY:(H.alloc (zM #[B (A (X d f)) b c,B (A (X d (f+at_))) 1 (c - at_),B (A (X d (f+b))) (at_ - b) (c - b),B (A u) (G fs - (at_+1)) c4] 101)).drew.heap.size=H.heap.size+1:=(by simp);generalize (H.alloc (zM #[B (A (X d f)) b c,B (A (X d (f+at_))) 1 (c - at_),B (A (X d (f+b))) (at_ - b) (c - b),B (A u) (G fs - (at_+1)) c4] 101)).drew=W at *;have Z:=m.next n;obtain ⟨⟨r0,r1,r2,r3⟩,_,_⟩:=aX cn;have p0:lI W (B (A (X d f)) b c) (fs.take b):=by
   have:=Z.part 0 b c (by omega);simpa using this
  have p1:=Z.part at_ 1 (c - at_) (by omega);have p2:=Z.part b (at_ - b) (c - b) (by omega);have p3:=h4.next n;refine (rK [fs.take b,(fs.drop at_).take 1,(fs.drop b).take (at_ - b),fs.drop (at_+1)] [B (A (X d f)) b c,B (A (X d (f+at_))) 1 (c - at_),B (A (X d (f+b))) (at_ - b) (c - b),B (A u) (G fs - (at_+1)) c4] H.heap.size 4 W rfl (by omega) (λi hi=>?_) ?_ (by simp)).m ?_
  .rcases (show i=0\/i=1\/i=2\/i=3 by simp at hi;omega) with rfl|rfl|rfl|rfl
   .exact ⟨r0,p0⟩
   .exact ⟨r1,p1⟩
   .exact ⟨r2,p2⟩
   .exact ⟨r3,p3⟩
  .simp [b9];omega
  .rintro r K ⟨v,rfl,y,l⟩;obtain ⟨P,Y,V,rfl⟩:=b7 y;exact ⟨P,Y,V,rfl,dS y (bf F.o.size n.size),F.o.t ((n.t (l.m n.size)).m F.o.size)⟩)
 have m:=w1.o.next F.o;by_cases y3:c=at_+1
 .have t:=I (k.o 0 (X d f) (by
   have e1:G fs - (at_+1)=0:=(by omega);rw [e1,nY (by omega)];exact lI.empty _ _ _))
  subst y3;rw [show (G fs) - (at_+1)=0 by omega,show at_+1 - at_=1 by omega] at t;clear k m;go_wp2_with fail
  go_region_with (first|(go_at_call 164;refine t.o.m ?_;rintro r w3 ⟨P,Y,V,rfl,y,s⟩;have M:=I y;have g:=I s;clear y s))
  all_goals go_wp2
  all_goals refine aK (v:=B P Y V) (by simp [results,results216,go_sem]) (by simp [go_sem]) ?_
  all_goals exact ⟨_,rfl,M.o,g.o⟩
 .have t:=I (k.o (c - (at_+1)) (X d (f+(at_+1))) (by
   have:=m.part (at_+1) (G fs - (at_+1)) (c - (at_+1)) (by omega);rw [qy (by simp)] at this;exact this))
  clear k m;go_wp2_with fail
  go_region_with (first|(go_at_call 164;refine t.o.m ?_;rintro r w3 ⟨P,Y,V,rfl,y,s⟩;have M:=I y;have g:=I s;clear y s))
  all_goals go_wp2
  all_goals refine aK (v:=B P Y V) (by simp [results,results216,go_sem]) (by simp [go_sem]) ?_
  all_goals exact ⟨_,rfl,M.o,g.o⟩
end
inductive eZ (w:zW) (P:Nat->Prop):Nat->List (Nat × Fd)->Prop
 | last (b:Nat) (f:Nat × Fd):P b->w.heap[b]?=some (zM #[zK (some (yh f.1)),zK none] 344 (0,0))->eZ w P b [f]
 | more (b b':Nat) (f g:Nat × Fd) (r:List (Nat × Fd)):P b->w.heap[b]?=some (zM #[zK (some (yh f.1)),zJ b'] 344 (0,0))->eZ w P b' (g::r)->eZ w P b (f::g::r)
def eZ.keep {w w':zW} {P P':Nat->Prop} {b:Nat} {e:List (Nat × Fd)} (h:eZ w P b e) (i:∀ q,P q->q<w.heap.size->w'.heap[q]?=w.heap[q]?/\P' q):eZ w' P' b e:=by
 induction h with
 | last b f d h=>
  obtain ⟨a,c⟩:=i b d (cz.1 h).1;exact .last b f c (a.t h)
 | more b k f g r d h _ j=>
  obtain ⟨a,c⟩:=i b d (cz.1 h).1;exact .more b k f g r c (a.t h) j
def eZ.next {w w':zW} {P:Nat->Prop} {b:Nat} {a:List (Nat × Fd)} (h:eZ w P b a) (d:zB w w'):eZ w' P b a:=h.keep λq e c=>⟨d.block q c,e⟩
def eZ.head {w:zW} {P:Nat->Prop} {b:Nat} {d:List (Nat × Fd)} (h:eZ w P b d):∃ f r c,d=f::r/\w.heap[b]?=A (zM #[zK (A (yh f.1)),zK c] 344 (0,0))/\((r=[]/\c=none)\/∃ a,c=A (yh a)/\eZ w P a r):=by
 cases h with
 | last b f _ h=>exact ⟨f,[],none,rfl,h,zR ⟨rfl,rfl⟩⟩
 | more b a f g r _ h e=>exact ⟨f,g::r,A (yh a),rfl,h,zZ ⟨a,rfl,e⟩⟩
def Qz {P:Nat->Prop} (b:Nat) (i:List (Nat × Fd)) (w:zW) (h:eZ w P b i) (F:G i<=500) :
  zC prog 235 #[zJ b] w λr S=>∃ v,r=zP v/\S.ownsRow w.heap.size 220 1 v (G i) (cA i)/\zB w S:=by
 obtain ⟨N,O,z,s,t⟩:=fe oX;have L:=I h;clear h;go_in;go_wp2_with fail;go_loopg [0,3] (G i+1) (λgk H W wr=>∃ (e K:List (Nat × Fd)),i=e++K/\G K<gk/\((K=[]/\H=zK none)\/∃ m,H=zJ m/\Hid (eZ w P m K))/\Hid (wr.ownsRow w.heap.size 220 1 W (G e) (cA e))/\Hid (zB w wr))
 case atStart=>exact ⟨[],i,rfl,by omega,zZ ⟨b,rfl,L⟩,eW _ _ _ _,aM _ _⟩
 case round=>
  obtain ⟨e,K,g,E,U,y,o⟩:=hrel;have p:=o.o.size;rcases U with ⟨rfl,rfl⟩|⟨m,rfl,x⟩
  .go_wp2;go_ret;rw [iq] at g;rw [g];exact ⟨_,rfl,y.o,o.o⟩
  .obtain ⟨f,r,w',rfl,a,l⟩:=x.o.head;have n:=(cz.1 a).1;obtain ⟨⟨Q5,rs⟩,_,_⟩:=cq ((o.o.block m n).t a);have T:=I l;have j:=I a;have QT:G e+1+G r<=500:=by rw [g] at F;simp at F;omega
   clear a l;go_wp2_with (at_builtin;refine km _ rfl (.tmp 10) (.tmp 15) 101 rfl w.heap.size 220 N (zK none) 1 8 underlying101 O z s t rfl (by decide) u3 (G e) (cA e) rfl (y.o.alloc _) (yh wr.heap.size) 1 1 [zK (A (yh f.1))] rfl rfl (λq u D=>bC wr [zK (A (yh f.1))] 220 q u D) (λu R=>by simp at R;subst R;rfl) (by unfold maxLen;omega) (by omega) (by simp;omega) ?_;intro Y Z c d _;apply Hid.o);have k:=I ((o.o.alloc p (zM #[zK (A (yh f.1))] 220)).grown d (by simp;omega) (λq D=>(y.o.lt q D).1));have C:=I (show Z.ownsRow w.heap.size 220 1 Y (e++[f]).length (cA (e++[f])) by rw [b6];simpa [cA] using c);obtain ⟨⟨hu,Q0⟩,_,_⟩:=cq ((k.o.block m n).t j.o);clear d c;apply I;go_wp2;go_roundg (G r+1)
   case measure=>simp at E;omega
   case rel=>
    refine ⟨e++[f],r,by rw [g];simp,by omega,?_,C,k⟩;rcases T.o with ⟨rfl,rfl⟩|⟨V,rfl,M⟩
    .exact zR ⟨rfl,rfl⟩
    .exact zZ ⟨V,rfl,M⟩
def DC (g:Nat × Fd) (l:Nat × List (Nat × Fd)):Bool:=match l.2 with|[]=>false|h::_=>aC h.2.nm g.2.p
def Vg {g h:Nat × Fd} {l:Nat × List (Nat × Fd)} {r:List (Nat × Fd)} (e:l.2=h::r):DC g l=aC h.2.nm g.2.p:=by simp [DC,e]
def qZ (g f:Nat × Fd) (a:List (Nat × List (Nat × Fd))):Option (List (Nat × Fd)):=
 if g.1=f.1 then A [f] else (a.find? (DC g)).map λl=>g::l.2
def GZ {D:Type} (p:D->Bool) (l:List D) (k:Nat) (h:k<G l) (b:∀ j (C:j<G l),j<k->p l[j]=false) (a:p l[k]=true):l.find? p=A l[k]:=by
 induction l generalizing k with
 | nil=>simp at h
 | cons x l e=>
  cases k with
  | zero=>simp at a;simp [a]
  | succ k=>
   have c:p x=false:=b 0 (by simp) (by omega);rw [List.find?_cons_of_neg (by simp [c])];exact e k (by simpa using h) (λj C d=>b (j+1) (by simpa using C) (by omega)) a
def G0 {C:Type} (p:C->Bool) (l:List C) (b:∀ j (a:j<G l),p l[j]=false):l.find? p=none:=by
 rw [rp];intro x c;obtain ⟨j,a,rfl⟩:=e9 c;simp [b j a]
def sj (P:Nat->Prop) (g f:Nat × Fd) (a:List (Nat × List (Nat × Fd))) (w:zW) (r:Ending) (w':zW):Prop:=
 zB w w'/\match qZ g f a with|none=>r=zP (zK none)|some ch=>∃ b,r=zP (zJ b)/\w.heap.size<=b/\eZ w' (λq=>P q\/w.heap.size<=q) b ch
def QB {S P:Nat->Prop} (g f:Nat × Fd) (a:List (Nat × List (Nat × Fd))) (al:Option zD) (cl:Nat) (w:zW) (hS:∀ q,S q->q<w.heap.size) (hg:fB w S g.1 g.2) (hf:fB w S f.1 f.2) (hl:G a<=500)
  (y:∀ j (h:j<G a),eZ w P (a[j]).1 (a[j]).2/\(∀ x,x∈(a[j]).2->fB w S x.1 x.2)/\∃ O,al=A (yh O)/\O<w.heap.size/\w.cell? (X O j)=A (zK (A (yh ((a[j]).1))))) :
  zC prog 234 #[zK (A (yh g.1)),zK (A (yh f.1)),B al (G a) cl] w (sj P g f a w):=by
 by_cases V:g.1=f.1
 .have ag:=FD f.1 w;have U:=I V;have n:=I (show ∀ H b,zB w H->w.heap.size<=b->eZ H (λq=>P q\/w.heap.size<=q) b [f]->sj P g f a w (zP (zJ b)) H from λH b L F Z=>by
   unfold sj qZ;rw [aB U.o];exact ⟨L,b,rfl,F,Z⟩)
  rw [V];clear y;go_in;go_wp2;go_ret;exact n.o _ _ (bZ _) (aG _) (.last _ f (zZ (aG _)) (bL w _))
 .have af:=Dz w hg hf V;have Q0:=I y;have U:=I V;have ac:=I (show ∀ H l b,zB w H->a.find? (DC g)=A l->w.heap.size<=b->eZ H (λq=>P q\/w.heap.size<=q) b (g::l.2)->sj P g f a w (zP (zJ b)) H from λH l b L F Z h4=>by
   unfold sj qZ;rw [aA U.o,F];exact ⟨L,b,rfl,Z,h4⟩)
  have ad:=I (show ∀ H,zB w H->a.find? (DC g)=none->sj P g f a w (zP (zK none)) H from λH L F=>by
   unfold sj qZ;rw [aA U.o,F];exact ⟨L,rfl⟩)
  obtain ⟨_,_,_,_,a1,l1,c1,R,hP⟩:=hg;have Q6:=(cz.1 R).1;have HG:=I R;have HM:=I (λx W (hW:zB w W)=>jh x g.2.p a1 l1 c1 W (hP.next λq N=>hW.block q (hS q N)) (λq N=>bG (hS q N) hW.size));clear y R hP hf;go_in;go_wp2_with fail;go_loopg [8,17] (G a) (λgk _ lj wr=>∃ j:Nat,j<=G a/\G a<=j+gk/\lj=J j/\Hid (zB w wr)/\Hid (∀ i (K:i<G a),i<j->DC g a[i]=false))
  case atStart=>exact ⟨0,bE _,by omega,rfl,aM _ _,λi K h=>by omega⟩
  case round=>
   obtain ⟨j,hj,xA,rfl,o,D⟩:=hrel;by_cases M:j<G a
   .have Q4:(j:Int)<(G a:Int):=(by omega);obtain ⟨r,Y,O,rfl,w1,hp⟩:=Q0.o j M;have ak:=(o.o.cell (p:=X O j) w1).t hp;obtain ⟨h,rr,nx,m,d,_⟩:=r.head;have aa:=(cz.1 d).1;obtain ⟨⟨k0,_⟩,_,_⟩:=cq ((o.o.block _ aa).t d);have u:=Y h (by rw [m];exact il);have QT:=u.lt;obtain ⟨_,_,_,_,a2,l2,c2,E,_⟩:=u;obtain ⟨⟨n0,_⟩,_,_⟩:=fP ((o.o.block _ QT).t E);obtain ⟨⟨_,j1,j2,j3,j4,_⟩,_,_⟩:=fP ((o.o.block g.1 Q6).t HG.o);have T:=I (HM.o h.2.nm wr.drew o.o.drew);have c:=o.o.size;have Q5:=I (r.next o.o);have s:DC g a[j]=aC h.2.nm g.2.p:=Vg m;clear hp d E;cases C:aC h.2.nm g.2.p with
    | true=>
     have n:=I (GZ (DC g) a j M (λi K h=>D.o i K h) (by rw [s,C]));have hi:=I m;rw [C] at T;clear C s D m r Y;generalize a[j]=t at *;go_wp2_with fail
     go_region_with (first|(go_at_call 195;refine T.o.m ?_;rintro e H ⟨rfl,k⟩;have z:=I k;clear k))
     all_goals go_wp2
     all_goals refine aK (v:=zJ H.heap.size) (by simp [results,results234,go_sem]) (by simp [go_sem]) ?_
     all_goals refine ac.o _ _ _ ((o.o.drew.t (z.o.m c)).alloc (bf c z.o.size) _) n.o (bf c z.o.size) ?_
     all_goals have QV:=((Q5.o.next ((aM _ _).drew.t z.o)).next (bZ (zM #[zK (A (yh g.1)),zK (A (yh t.1))] 344))).keep (P':=λq=>P q\/w.heap.size<=q) λq N _=>⟨rfl,zR N⟩
     all_goals rw [hi.o] at QV ⊢
     all_goals exact .more _ t.1 g h rr (zZ (bf c z.o.size)) (bL H _) QV
    | false=>
     have h3:=I (show ∀ i (K:i<G a),i<j+1->DC g a[i]=false from λi K h=>by
      by_cases e:i=j
      .subst e;rw [s,C]
      .exact D.o i K (by omega))
     rw [C] at T;clear C s D m r Y;generalize a[j]=t at *;go_wp2_with fail
     go_region_with (first|(go_at_call 195;refine T.o.m ?_;rintro e H ⟨rfl,k⟩;have z:=I k;clear k))
     all_goals go_wp2
     all_goals go_roundg (G a - (j+1))
     all_goals try (case measure=>omega)
     all_goals exact ⟨j+1,by omega,by omega,by go_num,o.o.drew.t (z.o.m c),h3⟩
   .have Q4:¬ (j:Int)<(G a:Int):=(by omega);go_wp2;go_ret;exact ad.o _ o.o (G0 _ _ λi K=>D.o i K (by omega))
section
attribute [local go_sem] aW
def yZ (g:Nat × Fd) (a:List (Nat × Fd)):Bool:=match a with|[]=>false|h::_=>aC h.2.nm g.2.p
def dW (g f:Nat × Fd) (b:List (List (Nat × Fd))):Option (List (Nat × Fd)):=if g.1=f.1 then A [f] else (b.find? (yZ g)).map λa=>g::a
def Ax (g f:Nat × Fd) (a:List (Nat × List (Nat × Fd))):qZ g f a=dW g f (a.map Prod.snd):=by
 unfold qZ dW;split
 .rfl
 .rw [oI];have:(yZ g ∘ Prod.snd)=DC g:=by
   funext l;rfl
  rw [this];cases a.find? (DC g)<;>rfl
def DD {g f:Nat × Fd} {e:List (Nat × List (Nat × Fd))} {i:List (Nat × Fd)} {k:Nat} (h:dW g f (e.map Prod.snd)=A i) (j:∀ l,l∈e->G l.2<=k):G i<=k+1:=by
 unfold dW at h;split at h
 .cases h;simp
 .obtain ⟨m,a,d⟩:=oF.1 h;obtain ⟨l,c,b⟩:=bU.1 (vK a);have:=j l c;rw [b] at this;rw [<- d];simp;exact this
inductive Uo where
 | ok (st mv:List (Nat × Fd))
 | dZ (ch:List (Nat × Fd))
def dB (f:Nat × Fd):List (Nat × Fd)->List (Nat × Fd)->List (Nat × Fd)->List (List (Nat × Fd))->Uo
 | [],D,C,_=>.ok D C
 | g::r,D,C,a=>match dW g f a with
  | none=>dB f r (D++[g]) C a
  | some b=>if aC g.2.nm f.2.p then .dZ b else dB f r D (C++[g]) (a++[b])
def xu (a:List (Nat × List (Nat × Fd))):List zV:=a.map λl=>zK (A (yh l.1))
def DF (a c b:zV) (q:Nat):Prop:=a.ownBlock≠A q/\c.ownBlock≠A q/\b.ownBlock≠A q
def uD {w w':zW} {base z n:Nat} {e:TypeId} {v:zV} {C:List zV} (h:w.ownsRow base e z v n C) (k:∀ q,v.ownBlock=A q->w'.heap[q]?=w.heap[q]?):w'.ownsRow base e z v n C:=by
 obtain ⟨c,d⟩:=h;refine ⟨c,d.imp id ?_⟩;rintro ⟨g,a,b,rfl,f,j,i⟩;exact ⟨g,a,b,rfl,f,(k g rfl).t j,i⟩
structure QD (S:Nat->Prop) (w wr:zW) (f:Nat × Fd) (gs:List (Nat × Fd)) (s6 s7 s8:zV) (k:Nat) (st mv:List (Nat × Fd)) (ls:List (Nat × List (Nat × Fd))):Prop where
 eq:dB f gs [] [] []=dB f (gs.drop k) st mv (ls.map Prod.snd)
 o6:wr.ownsRow w.heap.size 220 1 s6 (G st) (cA st)
 o7:wr.ownsRow w.heap.size 220 1 s7 (G mv) (cA mv)
 o8:wr.ownsRow w.heap.size 323 1 s8 (G ls) (xu ls)
 d67:∀ q,s6.ownBlock=A q->s7.ownBlock≠A q
 d68:∀ q,s6.ownBlock=A q->s8.ownBlock≠A q
 d78:∀ q,s7.ownBlock=A q->s8.ownBlock≠A q
 lk:∀ l,l∈ls->eZ wr (DF s6 s7 s8) l.1 l.2/\∀ x,x∈l.2->fB w S x.1 x.2
 cnt:G st+G mv=k/\G ls=G mv
 len:∀ l,l∈ls->G l.2<=k
 sub:∀ x,x∈st++mv->x∈gs
 bS:zB w wr
def IV (fs:List (Nat × Fd)) (at_ C:Nat) (r:Uo) (w:zW) (e:Ending) (w':zW):Prop:=
 zB w w'/\match r with
 | .ok E D=>∃ v,e=zP (zp #[v,zN])/\w'.ownsRow w.heap.size 220 1 v (b9 [fs.take at_,E,D,fs.drop (C+1)]).length (cA (b9 [fs.take at_,E,D,fs.drop (C+1)]))
 | .dZ a=>∃ v,e=zP (zp #[zN,v])/\w'.ownsRow w.heap.size 220 1 v (G a) (cA a)
def QD.stay {S:Nat->Prop} {w wr w1 w2:zW} {f g:Nat × Fd} {gs:List (Nat × Fd)} {c j r v':zV} {k:Nat} {st mv:List (Nat × Fd)} {p:List (Nat × List (Nat × Fd))} (h:QD S w wr f gs c j r k st mv p) (M:k<G gs) (L:gs[k]=g) (D:dW g f (p.map Prod.snd)=none)
  (b:zB wr w1) (a:w1.grownBy w2 c.ownBlock) (d:w2.ownsRow w.heap.size 220 1 v' (G st+1) (cA st++[zK (A (yh g.1))])) (o:v'.ownBlock=c.ownBlock\/∃ q,v'.ownBlock=A q/\wr.heap.size<=q):QD S w w2 f gs v' j r (k+1) (st++[g]) mv p:=by
 have v:=h.bS.size;have O:=b.size;have z:∀ q,c.ownBlock=A q->w.heap.size<=q/\q<wr.heap.size:=h.o6.lt;have s:∀ q,j.ownBlock=A q->w.heap.size<=q/\q<wr.heap.size:=h.o7.lt;have t:∀ q,r.ownBlock=A q->w.heap.size<=q/\q<wr.heap.size:=h.o8.lt;have H:∀ q,q<wr.heap.size->c.ownBlock≠A q->w2.heap[q]?=wr.heap[q]?:=λq D y=>(a.block q (by omega) (λe=>y e.symm)).t (b.block q D);have n:∀ q,v'.ownBlock=A q->c.ownBlock=A q\/wr.heap.size<=q:=λq D=>by
  rcases o with E|⟨C,E,K⟩
  .exact zR (E▸D)
  .rw [E] at D;cases D;exact zZ K
 have N:gs.drop k=g::gs.drop (k+1):=(by rw [jL M,L]);refine ⟨?_,?_,?_,?_,?_,?_,h.d78,?_,?_,λl i=>Nat.le_succ_of_le (h.len l i),?_,?_⟩
 .rw [h.eq,N];simp only [dB,D]
 .rw [b6,show cA (st++[g])=cA st++[zK (A (yh g.1))] by simp [cA]];exact d
 .exact uD h.o7 λq D=>H q (s q D).2 (λe=>h.d67 q e D)
 .exact uD h.o8 λq D=>H q (t q D).2 (λe=>h.d68 q e D)
 .intro q D e;rcases n q D with E|E
  .exact h.d67 q E e
  .have:=(s q e).2;omega
 .intro q D e;rcases n q D with E|E
  .exact h.d68 q E e
  .have:=(t q e).2;omega
 .intro l i;obtain ⟨E,K⟩:=h.lk l i;refine ⟨E.keep λq D m=>⟨H q m D.1,?_,D.2.1,D.2.2⟩,K⟩;intro e;rcases n q e with u|u
  .exact D.1 u
  .omega
 .have:=h.cnt;simp;omega
 .intro x F;simp at F;rcases F with F|rfl|F
  .exact h.sub x (by simp [F])
  .rw [<- L];exact bt M
  .exact h.sub x (by simp [F])
 .exact ⟨a.os.t (b.os.t h.bS.os),a.tape.t (b.tape.t h.bS.tape),a.output.t (b.output.t h.bS.output),by have:=a.size;omega,λq D=>(H q (by omega) (λe=>by have:=(z q e).1;omega)).t (h.bS.block q D)⟩
def QD.move {S:Nat->Prop} {w wr w1 w2 w3 w4:zW} {f g:Nat × Fd} {gs:List (Nat × Fd)} {v o p v7 v8:zV} {k b:Nat} {st mv H:List (Nat × Fd)} {Q0:List (Nat × List (Nat × Fd))} (h:QD S w wr f gs v o p k st mv Q0) (u:k<G gs) (Z:gs[k]=g) (K:dW g f (Q0.map Prod.snd)=A H) (Q6:aC g.2.nm f.2.p=false)
  (M:∀ x,x∈gs->fB w S x.1 x.2) (hf:fB w S f.1 f.2)
  (m:zB wr w1) (T:eZ w1 (λq=>DF v o p q\/wr.heap.size<=q) b H)
  (d:w1.grownBy w2 o.ownBlock) (j:w2.ownsRow w.heap.size 220 1 v7 (G mv+1) (cA mv++[zK (A (yh g.1))])) (C:v7.ownBlock=o.ownBlock\/∃ q,v7.ownBlock=A q/\w1.heap.size<=q)
  (i:zB w2 w3) (a:w3.grownBy w4 p.ownBlock) (Q4:w4.ownsRow w.heap.size 323 1 v8 (G Q0+1) (xu Q0++[zJ b])) (D:v8.ownBlock=p.ownBlock\/∃ q,v8.ownBlock=A q/\w2.heap.size<=q) :
  QD S w w4 f gs v v7 v8 (k+1) st (mv++[g]) (Q0++[(b,H)]):=by
 have hg:=h.bS.size;have aa:=m.size;have ac:=d.size;have hk:=i.size;have W:∀ q,v.ownBlock=A q->w.heap.size<=q/\q<wr.heap.size:=h.o6.lt;have U:∀ q,o.ownBlock=A q->w.heap.size<=q/\q<wr.heap.size:=h.o7.lt;have F:∀ q,p.ownBlock=A q->w.heap.size<=q/\q<wr.heap.size:=h.o8.lt;have P:∀ q,v7.ownBlock=A q->w.heap.size<=q/\q<w2.heap.size:=j.lt;have hx:∀ q,q<w1.heap.size->o.ownBlock≠A q->p.ownBlock≠A q->w4.heap[q]?=w1.heap[q]?:=λq K L N=>(a.block q (by omega) (λe=>N e.symm)).t ((i.block q (by omega)).t (d.block q K (λe=>L e.symm)));have Y:∀ q,q<wr.heap.size->o.ownBlock≠A q->p.ownBlock≠A q->w4.heap[q]?=wr.heap[q]?:=λq K L N=>(hx q (by omega) L N).t (m.block q K);have t:∀ q,v7.ownBlock=A q->o.ownBlock=A q\/w1.heap.size<=q:=λq K=>by
  rcases C with R|⟨q',R,V⟩
  .exact zR (R▸K)
  .rw [R] at K;cases K;exact zZ V
 have y:∀ q,v8.ownBlock=A q->p.ownBlock=A q\/w2.heap.size<=q:=λq K=>by
  rcases D with R|⟨q',R,V⟩
  .exact zR (R▸K)
  .rw [R] at K;cases K;exact zZ V
 have QV:gs.drop k=g::gs.drop (k+1):=(by rw [jL u,Z]);have E:∀ q,q<w1.heap.size->DF v o p q->DF v v7 v8 q:=λq K z=>by
  refine ⟨z.1,λe=>?_,λe=>?_⟩
  .rcases t q e with c|c
   .exact z.2.1 c
   .omega
  .rcases y q e with c|c
   .exact z.2.2 c
   .omega
 refine ⟨?_,?_,?_,?_,?_,?_,?_,?_,?_,?_,?_,?_⟩
 .rw [h.eq,QV];simp only [dB,K,Q6];simp
 .exact uD h.o6 λq K=>Y q (W q K).2 (λe=>h.d67 q K e) (λe=>h.d68 q K e)
 .rw [b6,show cA (mv++[g])=cA mv++[zK (A (yh g.1))] by simp [cA]];refine uD j λq K=>(a.block q (by have:=(P q K).2;omega) (λe=>?_)).t (i.block q (P q K).2);rcases t q K with c|c
  .exact h.d78 q c e.symm
  .have:=(F q e.symm).2;omega
 .rw [b6,show xu (Q0++[(b,H)])=xu Q0++[zJ b] by simp [xu]];exact Q4
 .intro q K e;rcases t q e with c|c
  .exact h.d67 q K c
  .have:=(W q K).2;omega
 .intro q K e;rcases y q e with c|c
  .exact h.d68 q K c
  .have:=(W q K).2;omega
 .intro q K e;rcases y q e with c|c
  .rcases t q K with hq|hq
   .exact h.d78 q hq c
   .have:=(F q c).2;omega
  .have:=(P q K).2;omega
 .intro l r;simp at r;rcases r with r|rfl
  .obtain ⟨R,V⟩:=h.lk l r;exact ⟨R.keep λq n s=>⟨Y q s n.2.1 n.2.2,E q (by omega) n⟩,V⟩
  .refine ⟨T.keep λq n s=>?_,?_⟩
   .have z:DF v o p q:=by
     rcases n with R|R
     .exact R
     .exact ⟨λe=>by have:=(W q e).2;omega,λe=>by have:=(U q e).2;omega,λe=>by have:=(F q e).2;omega⟩
    exact ⟨hx q s z.2.1 z.2.2,E q s z⟩
   .intro x O;unfold dW at K;split at K
    .cases K;simp at O;rw [O];exact hf
    .obtain ⟨c',h1,Q5⟩:=oF.1 K;subst Q5;simp at O;rcases O with rfl|O
     .exact M _ (by rw [<- Z];exact bt u)
     .obtain ⟨l,h2,QT⟩:=bU.1 (vK h1);exact (h.lk l h2).2 x (by rw [QT];exact O)
 .have:=h.cnt;simp;omega
 .intro l r;simp at r;rcases r with r|rfl
  .exact Nat.le_succ_of_le (h.len l r)
  .exact DD K h.len
 .intro x O;simp at O;rcases O with O|O|rfl
  .exact h.sub x (by simp [O])
  .exact h.sub x (by simp [O])
  .rw [<- Z];exact bt u
 .exact ⟨a.os.t (i.os.t (d.os.t (m.os.t h.bS.os))),a.tape.t (i.tape.t (d.tape.t (m.tape.t h.bS.tape))),a.output.t (i.output.t (d.output.t (m.output.t h.bS.output))),by have:=a.size;omega,λq K=>(Y q (by omega) (λe=>by have:=(U q e).1;omega) (λe=>by have:=(F q e).1;omega)).t (h.bS.block q K)⟩
end
def mX (on:List By) (fs:List (Nat × Fd)):∀ x,x∈aO on fs->x∈fs:=by
 induction fs generalizing on with
 | nil=>intro x a;simp [aO] at a
 | cons f r b=>
  intro x a;unfold aO at a;split at a
  .rcases bQ.1 a with rfl|h
   .exact il
   .exact ki _ (b _ x h)
  .exact ki _ (b _ x a)
def Cy (on:List By) (fs:List (Nat × Fd)):(aO on fs).length<=G fs:=by
 induction fs generalizing on with
 | nil=>simp [aO]
 | cons f r a=>
  unfold aO;split
  .have:=a (on++[f.2.nm]);simp;omega
  .have:=a on;simp;omega
def Sh.OS {w:zW} {S:Nat->Prop} {a i:Option zD} {fs k:List (Nat × Fd)} {Q4 z:Nat} (h:Sh w S a fs) (c:∀ x,x∈k->x∈fs) (C:w.ownsRow Q4 220 1 (B i (G k) z) (G k) (cA k)) (r:∀ f,f∈fs->f.1<Q4):Sh w (λq=>S q\/∃ o,i=A (X q o)) i k:=by
 have d:∀ q o,i=A (X q o)->Q4<=q/\q<w.heap.size/\o=0:=λq o b=>by
  subst b;rcases C.2 with ⟨e,_⟩|⟨g,E,p,e,l,m,_⟩
  .simp at e
  .simp at e;obtain ⟨⟨rfl,rfl⟩,_⟩:=e;exact ⟨l,(cz.1 m).1,rfl⟩
 refine ⟨λq b=>?_,λj F=>?_,λx n=>?_⟩
 .rcases b with b|⟨o,b⟩
  .exact h.still q b
  .exact (d q o b).2.1
 .obtain ⟨g,E,D,_,_⟩:=C.form (by omega);simp at D;obtain ⟨rfl,rfl⟩:=D;refine ⟨g,0,rfl,zZ ⟨0,rfl⟩,?_⟩;rw [cS,C.cellAt j (by omega)];simp [cA,F]
 .obtain ⟨e,l,m,v,u,t,c1,y,s⟩:=h.bX x (c x n);refine ⟨?_,l,m,v,u,t,c1,y,s.wide λq b=>zR b⟩;rintro (b|⟨o,b⟩)
  .exact e b
  .have:=(d _ o b).1;have:=r x (c x n);omega
def Sh.ks {P:Nat->Prop} {w w':zW} {S:Nat->Prop} {a:Option zD} {fs:List (Nat × Fd)} (h:Sh w S a fs) (c:Ks P w w') (i:∀ q,S q->¬ P q) (m:∀ f,f∈fs->¬ P f.1):Sh w' S a fs:=by
 refine ⟨λq b=>bG (h.still q b) c.size,λj l=>?_,λx e=>(h.bX x e).stays (c.block _ (h.bX x e).lt (m x e)) λq b=>c.block q (h.still q b) (i q b)⟩;obtain ⟨g,o,k,d,n⟩:=h.ptr j l;exact ⟨g,o,k,d,(nu (a:=X g (o+j)) (c.block g (h.still g d) (i g d))).t n⟩
def Sh.afC {w:zW} {S:Nat->Prop} {d:Option zD} {k:List (Nat × Fd)} {Q4 y:Nat} (n:∀ q,S q->q<w.heap.size) (h:∀ x,x∈k->fB w S x.1 x.2) (C:w.ownsRow Q4 220 1 (B d (G k) y) (G k) (cA k)) (p:∀ f,f∈k->f.1<Q4):Sh w (λq=>S q\/∃ o,d=A (X q o)) d k:=by
 have b:∀ q o,d=A (X q o)->Q4<=q/\q<w.heap.size:=λq o a=>by
  subst a;rcases C.2 with ⟨c,_⟩|⟨g,E,m,c,e,i,_⟩
  .simp at c
  .simp at c;obtain ⟨⟨rfl,rfl⟩,_⟩:=c;exact ⟨e,(cz.1 i).1⟩
 refine ⟨λq a=>?_,λj F=>?_,λx l=>?_⟩
 .rcases a with a|⟨o,a⟩
  .exact n q a
  .exact (b q o a).2
 .obtain ⟨g,E,D,_,_⟩:=C.form (by omega);simp at D;obtain ⟨rfl,rfl⟩:=D;refine ⟨g,0,rfl,zZ ⟨0,rfl⟩,?_⟩;rw [cS,C.cellAt j (by omega)];simp [cA,F]
 .obtain ⟨c,e,i,u,t,s,c1,v,r⟩:=h x l;refine ⟨?_,e,i,u,t,s,c1,v,r.wide λq a=>zR a⟩;rintro (a|⟨o,a⟩)
  .exact c a
  .have:=(b _ o a).1;have:=p x l;omega
def lJ (x:By):List (Nat × Fd)->Option Nat
 | []=>none
 | g::r=>if aC x g.2.p then A 0 else (lJ x r).map (·+1)
def xp {x:By}:∀ {fs:List (Nat × Fd)},lJ x fs=none->∀ i (h:i<G fs),aC x (fs[i]).2.p=false
 | [],_,i,h=>by simp at h
 | g::r,a,i,h=>by
  unfold lJ at a;split at a
  .cases a
  .rename_i b;cases i with
   | zero=>simpa using b
   | succ i=>
    have:lJ x r=none:=by
     cases c:lJ x r with
     | none=>rfl
     | some k=>rw [c] at a;cases a
    exact xp this i (by simpa using h)
def ng {x:By}:∀ {fs:List (Nat × Fd)} {j:Nat},lJ x fs=A j->∃ h:j<G fs,aC x (fs[j]).2.p=true/\∀ i (D:i<G fs),i<j->aC x (fs[i]).2.p=false
 | [],j,h=>by cases h
 | g::r,j,h=>by
  unfold lJ at h;split at h
  .rename_i C;cases h;exact ⟨(by simp),by simpa using C,λi D h=>by omega⟩
  .rename_i C;obtain ⟨k,a,rfl⟩:=oF.1 h;obtain ⟨E,F,c⟩:=ng a;refine ⟨by simpa using E,by simpa using F,λi D b=>?_⟩;cases i with
   | zero=>simpa using C
   | succ i=>exact c i (by simpa using D) (by omega)
def kT (p:Pt):List (Nat × Fd)->Option Nat
 | []=>none
 | g::r=>match kT p r with
  | some k=>A (k+1)
  | none=>if aC g.2.nm p then A 0 else none
def sg {p:Pt}:∀ {fs:List (Nat × Fd)},kT p fs=none->∀ i (h:i<G fs),aC (fs[i]).2.nm p=false
 | [],_,i,h=>by simp at h
 | g::r,a,i,h=>by
  unfold kT at a;cases b:kT p r with
  | some k=>rw [b] at a;cases a
  | none=>
   rw [b] at a;simp only at a;split at a
   .cases a
   .rename_i c;cases i with
    | zero=>simpa using c
    | succ i=>exact sg b i (by simpa using h)
def si {p:Pt}:∀ {fs:List (Nat × Fd)} {j:Nat},kT p fs=A j->∃ h:j<G fs,aC (fs[j]).2.nm p=true/\∀ i (C:i<G fs),j<i->aC (fs[i]).2.nm p=false
 | [],j,h=>by cases h
 | g::r,j,h=>by
  unfold kT at h;cases a:kT p r with
  | some k=>
   rw [a] at h;simp only at h;cases h;obtain ⟨D,E,c⟩:=si a;refine ⟨by simpa using D,by simpa using E,λi C b=>?_⟩;cases i with
   | zero=>omega
   | succ i=>exact c i (by simpa using C) (by omega)
  | none=>
   rw [a] at h;simp only at h;split at h
   .rename_i F;cases h;refine ⟨(by simp),by simpa using F,λi C b=>?_⟩;cases i with
    | zero=>omega
    | succ i=>exact sg a i (by simpa using C)
   .cases h
inductive Ek where
 | ok (gs:List (Nat × Fd))
 | dZ (ch:List (Nat × Fd))
def bY (fs:List (Nat × Fd)) (at_:Nat) (f:Nat × Fd):List (Nat × Fd) × Nat:=match lJ f.2.nm (fs.take at_) with|none=>(fs,at_)|some j=>(eK fs at_ j,j)
def jW (fs:List (Nat × Fd)) (at_:Nat) (f:Nat × Fd):Ek:=match kT f.2.p fs with
 | none=>.ok fs
 | some l=>if l<at_ then .ok fs else match dB f ((fs.drop at_).take (l+1 - at_)) [] [] [] with
  | .ok D C=>.ok (b9 [fs.take at_,D,C,fs.drop (l+1)])
  | .dZ a=>.dZ a
def dL (fs:List (Nat × Fd)) (at_:Nat) (f:Nat × Fd):Ek:=jW (bY fs at_ f).1 (bY fs at_ f).2 f
def qT (f:Nat × Fd):∀ (gs st mv:List (Nat × Fd)) (d:List (List (Nat × Fd))) (b a:List (Nat × Fd)),dB f gs st mv d=.ok b a->∀ x,x∈b++a->x∈st++mv++gs
 | [],st,mv,d,b,a,h,x,c=>by
  simp only [dB] at h;cases h;simpa using c
 | g::r,st,mv,d,b,a,h,x,c=>by
  simp only [dB] at h;split at h
  .have:=qT f r _ _ _ _ _ h x c;simp at this ⊢;rcases this with C|C|C|C
   .exact zR C
   .exact zZ (zZ (zR C))
   .exact zZ (zR C)
   .exact zZ (zZ (zZ C))
  .split at h
   .cases h
   .have:=qT f r _ _ _ _ _ h x c;simp at this ⊢;rcases this with C|C|C|C
    .exact zR C
    .exact zZ (zR C)
    .exact zZ (zZ (zR C))
    .exact zZ (zZ (zZ C))
def yF (f:Nat × Fd):∀ (gs st mv:List (Nat × Fd)) (c:List (List (Nat × Fd))) (a b:List (Nat × Fd)),dB f gs st mv c=.ok a b->G a+G b=G st+G mv+G gs
 | [],st,mv,c,a,b,h=>by
  simp only [dB] at h;cases h;simp
 | g::r,st,mv,c,a,b,h=>by
  simp only [dB] at h;split at h
  .have:=yF f r _ _ _ _ _ h;simp at this ⊢;omega
  .split at h
   .cases h
   .have:=yF f r _ _ _ _ _ h;simp at this ⊢;omega
def Qr {S:Nat->Prop} (a:Option zD) (c at_:Nat) (fs:List (Nat × Fd)) (w:zW) (hs:Sh w S a fs) (D:G fs<=1000) (d:at_<G fs) (t:∀ i (h:i<G fs),i<at_->(fs[i]).1≠(fs[at_]).1) (s:∀ i (h:i<G fs),i<at_->aC (fs[at_]).2.nm (fs[i]).2.p=false) (v:G fs<=c) :
  zC prog 216 #[B a (G fs) c,zK (A (yh ((fs[at_]).1)))] w λe T=>e=zP (B a (G fs) c)/\zB w T:=by
 have H:=I (λW (m:zB w W)=>qI a c (fs[at_]).1 at_ fs W (hs.next m) D d rfl t);have C:=I (λW (m:zB w W) (K:W.cell? (yh w.heap.size)=A (zK (A (yh ((fs[at_]).1))))) (r:w.heap.size<W.heap.size)=>FE a at_ c (zJ w.heap.size) W (λj=>((fs[j]?).map λx=>x.1).getD 0) (λ_=>false) (by omega) (λj u=>by
  obtain ⟨g,o,E,F,M⟩:=(hs.next m).ptr j (by omega);refine ⟨g,o,E,bG (hs.still g F) m.size,?_⟩;rw [M];simp [show j<(G fs) by omega]) (λj u R k=>by
  have f:j<G fs:=(by omega);have b:=(hs.next m).next k;have:=i8 (S:=S) w.heap.size (fs[at_]).1 (fs[j]).1 (fs[at_]).2 (fs[j]).2 R b.still (b.bX _ (bt d)) (b.bX _ (bt f)) ((k.cell (p:=yh w.heap.size) r).t K);rw [s j f u] at this;simpa [f] using this))
 have y:(at_:Int)<=(G fs:Int):=(by omega);have V:(at_:Int)<=(c:Int):=(by omega);obtain ⟨O,N,rfl,_,_⟩:=hs.ptr at_ d;clear hs t s;generalize (fs[at_]).1=q at *;go_in;go_wp2_with (first|(go_at_call 165;refine (H.o _ (bZ _)).m ?_;rintro e U ⟨rfl,rfl⟩)|(go_at_call 236;refine mo (C.o _ (bZ _) (by simp) (by simp)) ?_;rintro e U ⟨z,rfl,P,l⟩));have n:z = -1:=by
  rcases P with ⟨h,_⟩|⟨_,_,_,h,_⟩
  .exact h
  .cases h
 subst n;have L:=I (((aM w.heap.size w).alloc (aG _) (zM #[zJ q] 220)).t (l.m (by simp)));clear l;apply I;go_wp2;go_ret;exact ⟨rfl,L.o⟩
def Aw {S:Nat->Prop} (a:Option zD) (c at_:Nat) (fs:List (Nat × Fd)) (w:zW) (hs:Sh w S a fs) (m:G fs<=1000) (d:at_<G fs) (n:∀ i (h:i<G fs),i<at_->(fs[i]).1≠(fs[at_]).1) (l:∀ i (h:i<G fs),at_<=i->aC (fs[i]).2.nm (fs[at_]).2.p=false) :
  zC prog 215 #[B a (G fs) c,zK (A (yh ((fs[at_]).1)))] w λe C=>e=zP (zp #[B a (G fs) c,zN])/\zB w C:=by
 have p:=I (λW (f:zB w W)=>qI a c (fs[at_]).1 at_ fs W (hs.next f) m d rfl n);have r:=I (λW (f:zB w W)=>(FH a c (fs[at_]).1 (fs[at_]).2 fs W (hs.next f) m ((hs.next f).bX _ (bt d))).m (R':=λe C=>∃ z:Int,e=zP (J z)/\z<(at_:Int)/\zB W C) (by
  rintro e C ⟨z,rfl,o,g⟩;refine ⟨z,rfl,?_,g⟩;rcases o with ⟨rfl,_⟩|⟨j,t,rfl,k,_⟩
  .omega
  .rcases cC j at_ with h|h
   .omega
   .rw [l j t h] at k;cases k))
 clear hs n l;generalize (fs[at_]).1=q at *;go_in;go_wp2_with (first|(go_at_call 165;refine (p.o _ (aM _ _)).m ?_;rintro e D ⟨rfl,rfl⟩)|(go_at_call 233;refine mo (r.o _ (aM _ _)) ?_;rintro e D ⟨z,rfl,o,b⟩));have s:=I b;clear b;apply I;go_wp2;go_ret2;exact ⟨rfl,s.o⟩
def NM (g h:Nat × Fd):Prop:=aC h.2.nm g.2.p=false
def Db (fs:List (Nat × Fd)):Prop:=fs.Pairwise NM/\∀ g,g∈fs->NM g g
def Hd (a:List (List (Nat × Fd))) (mv:List (Nat × Fd)):Prop:=a.map List.head?=mv.map A
def Hd.snoc {b:List (List (Nat × Fd))} {mv a:List (Nat × Fd)} {g:Nat × Fd} (h:Hd b mv) (c:a.head?=A g):Hd (b++[a]) (mv++[g]):=by
 unfold Hd at *;simp [h,c]
def Hd.not {b:List (List (Nat × Fd))} {mv:List (Nat × Fd)} {g f:Nat × Fd} (h:Hd b mv) (a:dW g f b=none):∀ m,m∈mv->NM g m:=by
 intro m j;unfold dW at a;split at a
 .cases a
 .have i:b.find? (yZ g)=none:=by
   cases e:b.find? (yZ g) with
   | none=>rfl
   | some x=>rw [e] at a;cases a
  have:A m∈b.map List.head?:=by
   rw [h];exact iJ j
  obtain ⟨l,k,c⟩:=bU.1 this;have d:=rp.1 i l k;cases l with
  | nil=>cases c
  | cons x r=>
   simp at c;subst c;simpa [yZ,NM] using d
def Lp {g f:Nat × Fd} {d:List (List (Nat × Fd))} {b:List (Nat × Fd)} (a:g.1≠f.1) (h:dW g f d=A b):b.head?=A g:=by
 unfold dW at h;rw [aA a] at h;obtain ⟨c,_,rfl⟩:=oF.1 h;rfl
def zt (f:Nat × Fd):∀ (b st mv:List (Nat × Fd)) (k:List (List (Nat × Fd))) (d c:List (Nat × Fd)),(∀ g,g∈b->g.1≠f.1)->b.Pairwise NM->Hd k mv->dB f b st mv k=.ok d c ->
  ∃ e D,d=st++e/\c=mv++D/\e.Sublist b/\D.Sublist b/\(∀ g,g∈D->NM f g)/\(∀ g,g∈e->∀ m,m∈mv->NM g m)/\(∀ g,g∈e->∀ m,m∈D->NM g m)
 | [],st,mv,k,d,c,_,_,_,h=>by
  simp only [dB] at h;cases h;exact ⟨[],[],(by simp),(by simp),yr _,yr _,(by simp),(by simp),by simp⟩
 | g::r,st,mv,k,d,c,j,w,u,h=>by
  have i:=td.1 w;have t:=j g (by simp);simp only [dB] at h;cases n:dW g f k with
  | none=>
   rw [n] at h;obtain ⟨e,D,rfl,rfl,p,l,v,o,s⟩:=zt f r _ _ _ _ _ (λx C=>j x (by simp [C])) i.2 u h;refine ⟨g::e,D,(by simp),rfl,p.cons_cons g,l.cons g,v,λx C m a=>?_,λx C m a=>?_⟩
   .rcases bQ.1 C with rfl|C
    .exact u.not n m a
    .exact o x C m a
   .rcases bQ.1 C with rfl|C
    .exact i.1 m (l.subset a)
    .exact s x C m a
  | some y=>
   rw [n] at h;simp only at h;split at h
   .cases h
   .rename_i q;obtain ⟨e,D,rfl,rfl,p,l,v,o,s⟩:=zt f r _ _ _ _ _ (λx C=>j x (by simp [C])) i.2 (u.snoc (Lp t n)) h;refine ⟨e,g::D,rfl,(by simp),p.cons g,l.cons_cons g,λx C=>?_,λx C m a=>o x C m (by simp [a]),λx C m a=>?_⟩
    .rcases bQ.1 C with rfl|C
     .simpa [NM] using q
     .exact v x C
    .rcases bQ.1 a with rfl|a
     .exact o x C m (by simp)
     .exact s x C m a
def om (Q0 Q4:List (Nat × Fd)) (f:Nat × Fd):∃ L M,(bY (Q0++f::Q4) (G Q0) f).1=L++f::M/\(bY (Q0++f::Q4) (G Q0) f).2=G L/\L++M=Q0++Q4/\∀ g,g∈L->NM g f:=by
 have d:(Q0++f::Q4).take (G Q0)=Q0:=(by simp);unfold bY;rw [d];cases hF:lJ f.2.nm Q0 with
 | none=>
  refine ⟨Q0,Q4,rfl,rfl,rfl,λg b=>?_⟩;obtain ⟨i,C,rfl⟩:=e9 b;exact xp hF i C
 | some j=>
  obtain ⟨l,_,k⟩:=ng hF;refine ⟨Q0.take j,Q0.drop j++Q4,?_,by simp;omega,by rw [<- kI,wa],λg b=>?_⟩
  .have e1:(Q0++f::Q4).take j=Q0.take j:=by rw [F6 (by omega)]
   have c:((Q0++f::Q4).drop (G Q0)).take 1=[f]:=(by simp);have e:((Q0++f::Q4).drop j).take (G Q0 - j)=Q0.drop j:=by
    rw [List.drop_append_of_le_length (by omega),F6 (by simp)];exact qy (by simp)
   have h:(Q0++f::Q4).drop (G Q0+1)=Q4:=by
    rw [List.drop_append];simp
   simp only [eK,b9,e1,c,e,h];simp
  .obtain ⟨i,C,rfl⟩:=e9 b;have a:i<j:=(by simp at C;omega);rw [List.getElem_take];exact k i (by omega) a
def ve {c d:List (Nat × Fd)}:(c++d).Pairwise NM↔c.Pairwise NM/\d.Pairwise NM/\∀ a,a∈c->∀ b,b∈d->NM a b:=Bw
def Qv (Q0 Q4 gs:List (Nat × Fd)) (f:Nat × Fd) (Y:(Q0++Q4).Pairwise NM) (hs:∀ g,g∈Q0++Q4->NM g g) (S:∀ g,g∈Q0++Q4->g.1≠f.1) (h:dL (Q0++f::Q4) (G Q0) f=.ok gs):Db gs:=by
 obtain ⟨L,M,e1,e2,QT,t⟩:=om Q0 Q4 f;unfold dL at h;rw [e1,e2] at h;rw [<- QT] at Y hs S;obtain ⟨Z,H,j⟩:=ve.1 Y;have e:(∀ m,m∈M->NM f m)->NM f f->Db (L++f::M):=λR hi=>by
  refine ⟨ve.2 ⟨Z,td.2 ⟨R,H⟩,λa d b c=>?_⟩,λg K=>?_⟩
  .rcases bQ.1 c with rfl|c
   .exact t a d
   .exact j a d b c
  .simp at K;rcases K with K|rfl|K
   .exact hs g (by simp [K])
   .exact hi
   .exact hs g (by simp [K])
 unfold jW at h;cases v:kT f.2.p (L++f::M) with
 | none=>
  rw [v] at h;cases h;have O:∀ x,x∈L++f::M->NM f x:=λx r=>by
   obtain ⟨i,V,rfl⟩:=e9 r;exact sg v i V
  exact e (λm q=>O m (by simp [q])) (O f (by simp))
 | some l=>
  obtain ⟨R,_,W⟩:=si v;have p:∀ i (V:i<G M),l<G L+1+i->NM f M[i]:=λi V U=>by
   have:=W (G L+1+i) (by simp;omega) U;rw [Bt (by omega)] at this;simpa [NM,show (G L)+1+i - G L=i+1 by omega] using this
  rw [v] at h;simp only at h;split at h
  .rename_i s;cases h;refine e (λm q=>?_) ?_
   .obtain ⟨i,V,rfl⟩:=e9 q;exact p i V (by omega)
   .have:=W (G L) (by simp) s;rw [Bt (aG _)] at this;simpa [NM] using this
  .rename_i s;have Tn:G L<=l:=(by omega);have d1:((L++f::M).drop (G L)).take (l+1 - G L)=f::M.take (l - G L):=(by rw [List.drop_left,show l+1 - G L=(l - G L)+1 by omega,yn]);have d2:(L++f::M).drop (l+1)=M.drop (l - G L):=(by rw [List.drop_append,nY (by omega),ko,show l+1 - G L=(l - G L)+1 by omega,List.drop_succ_cons]);rw [d1,d2,List.take_left] at h;have z:∀ m,m∈M.drop (l - G L)->NM f m:=λm q=>by
    obtain ⟨i,V,rfl⟩:=e9 q;rw [List.getElem_drop];exact p _ (by simp at V;omega) (by omega)
   simp only [dB] at h;have E:dW f f []=A [f]:=by simp [dW]
   rw [E] at h;simp only at h;cases n:aC f.2.nm f.2.p with
   | true=>rw [n] at h;simp at h
   | false=>
    rw [n] at h;simp only [sY,k8,ko] at h;generalize hk:l - G L=k at *;cases F:dB f (M.take k) [] [f] [[f]] with
    | dZ ch=>rw [F] at h;cases h
    | ok st mv=>
     rw [F] at h;cases h;have D:(M.take k).Pairwise NM:=H.sublist (List.take_sublist _ _);obtain ⟨sq,mq,N,r2,y,u,Q5,T,hg⟩:=zt f (M.take k) [] [f] [[f]] st mv (λg K=>S g (by simp [lS K])) D (by simp [Hd]) F;simp only [ko] at N;subst N r2;have w:∀ x,x∈M.take k->x∈M:=λx r=>lS r;have P:∀ x,x∈M.drop k->x∈M:=λx r=>lD r;have QV:(M.take k++M.drop k).Pairwise NM:=by rw [wa];exact H
     obtain ⟨_,C,o⟩:=ve.1 QV;refine ⟨?_,λg K=>?_⟩
     .simp only [b9,iq];refine ve.2 ⟨Z,ve.2 ⟨D.sublist y,ve.2 ⟨?_,C,?_⟩,?_⟩,?_⟩
      .simp only [vL];exact td.2 ⟨Q5,D.sublist u⟩
      .intro a d b c;simp at d;rcases d with rfl|d
       .exact z b c
       .exact o a (u.subset d) b c
      .intro a d b c;rcases cG.1 c with c|c
       .simp at c;rcases c with rfl|c
        .exact T a d b (by simp)
        .exact hg a d b c
       .exact o a (y.subset d) b c
      .intro a d b c;simp at c;rcases c with c|rfl|c|c
       .exact j a d b (w b (y.subset c))
       .exact t a d
       .exact j a d b (w b (u.subset c))
       .exact j a d b (P b c)
     .simp [b9] at K;rcases K with K|K|rfl|K|K
      .exact hs g (by simp [K])
      .exact hs g (by simp [w g (y.subset K)])
      .exact n
      .exact hs g (by simp [w g (u.subset K)])
      .exact hs g (by simp [P g K])
def U9 (f:Nat × Fd):List (Nat × Fd)->Prop
 | []=>False
 | [x]=>x=f
 | x::y::r=>aC y.2.nm x.2.p=true/\U9 f (y::r)
def Qw {g f:Nat × Fd} {i:List (List (Nat × Fd))} {mv a:List (Nat × Fd)} (d:g.1≠f.1) (n:∀ l,l∈i->U9 f l/\(∀ x,x∈l->x∈mv)/\(l.map Prod.fst).Nodup) (o:∀ m,m∈mv->g.1≠m.1) (h:dW g f i=A a):U9 f a/\(∀ x,x∈a->x=g\/x∈mv)/\(a.map Prod.fst).Nodup/\∃ r,a=g::r:=by
 unfold dW at h;rw [aA d] at h;obtain ⟨c,e,rfl⟩:=oF.1 h;have k:=vK e;obtain ⟨c1,c2,c3⟩:=n c k;have q:yZ g c=true:=wA e;refine ⟨?_,λx b=>?_,?_,c,rfl⟩
 .cases c with
  | nil=>exact c1.elim
  | cons y r=>exact ⟨by simpa [yZ] using q,c1⟩
 .rcases bQ.1 b with rfl|b
  .exact zR rfl
  .exact zZ (c2 x b)
 .rw [fL,jB];refine ⟨λp=>?_,c3⟩;obtain ⟨x,b,j⟩:=bU.1 p;exact o x (c2 x b) j.symm
def zu (f:Nat × Fd):∀ (d st mv:List (Nat × Fd)) (o:List (List (Nat × Fd))) (k:List (Nat × Fd)),(∀ g,g∈d->g.1≠f.1)->(d.map Prod.fst).Nodup->(∀ g,g∈d->∀ m,m∈mv->g.1≠m.1)->(∀ l,l∈o->U9 f l/\(∀ x,x∈l->x∈mv)/\(l.map Prod.fst).Nodup)->dB f d st mv o=.dZ k ->
  U9 f k/\(k.map Prod.fst).Nodup/\∃ g r,k=g::r/\aC g.2.nm f.2.p=true
 | [],st,mv,o,k,_,_,_,_,h=>by
  simp only [dB] at h;cases h
 | g::r,st,mv,o,k,j,a,i,p,h=>by
  rw [fL,jB] at a;simp only [dB] at h;cases q:dW g f o with
  | none=>
   rw [q] at h;exact zu f r _ _ _ _ (λx C=>j x (by simp [C])) a.2 (λx C=>i x (by simp [C])) p h
  | some c=>
   obtain ⟨s,u,t,v,w⟩:=Qw (j g (by simp)) p (i g (by simp)) q;rw [q] at h;simp only at h;split at h
   .rename_i n;cases h;exact ⟨s,t,g,v,w,n⟩
   .refine zu f r _ _ _ _ (λx C=>j x (by simp [C])) a.2 (λx C m n=>?_) (λl b=>?_) h
    .simp at n;rcases n with n|rfl
     .exact i x (by simp [C]) m n
     .exact λe=>a.1 (bU.2 ⟨x,C,e⟩)
    .simp at b;rcases b with b|rfl
     .obtain ⟨z,y,D⟩:=p l b;exact ⟨z,λx C=>by simp [y x C],D⟩
     .refine ⟨s,λx C=>?_,t⟩;rcases u x C with rfl|C
      .simp
      .simp [C]
def Tv (Q0 Q4 i:List (Nat × Fd)) (f:Nat × Fd) (q:((Q0++f::Q4).map Prod.fst).Nodup) (h:dL (Q0++f::Q4) (G Q0) f=.dZ i):U9 f i/\(i.map Prod.fst).Nodup/\∃ g r,i=g::r/\aC g.2.nm f.2.p=true:=by
 obtain ⟨L,M,e1,s,w,_⟩:=om Q0 Q4 f;have b:((L++M).map Prod.fst).Nodup/\∀ g,g∈L++M->g.1≠f.1:=by
  rw [w];rw [fK,fL] at q;have u:(Q0.map Prod.fst++f.1::Q4.map Prod.fst).Perm (f.1::(Q0.map Prod.fst++Q4.map Prod.fst)):=sZ;have:=u.nodup_iff.1 q;rw [jB] at this;refine ⟨by rw [fK];exact this.2,λg C e=>this.1 ?_⟩;rw [<- fK,<- e];exact iJ C
 unfold dL at h;rw [e1,s] at h;unfold jW at h;cases n:kT f.2.p (L++f::M) with
 | none=>rw [n] at h;cases h
 | some l=>
  rw [n] at h;simp only at h;split at h
  .cases h
  .rename_i v;have d1:((L++f::M).drop (G L)).take (l+1 - G L)=f::M.take (l - G L):=(by rw [List.drop_left,show l+1 - G L=(l - G L)+1 by omega,yn]);rw [d1] at h;simp only [dB] at h;have k:dW f f []=A [f]:=by simp [dW]
   rw [k] at h;simp only at h;cases a:aC f.2.nm f.2.p with
   | true=>
    rw [a] at h;simp at h;subst h;exact ⟨rfl,(by simp),f,[],rfl,a⟩
   | false=>
    rw [a] at h;simp only [sY,k8,ko] at h;cases j:dB f (M.take (l - G L)) [] [f] [[f]] with
    | ok E D=>rw [j] at h;cases h
    | dZ c=>
     rw [j] at h;cases h;have d:∀ g,g∈M.take (l - G L)->g.1≠f.1:=λg C=>b.2 g (by simp [lS C]);refine zu f _ _ _ _ _ d ?_ (λg C m o=>?_) (λl p=>?_) j
     .have t:(M.map Prod.fst).Nodup:=by
       have:=b.1;rw [fK] at this;exact (List.nodup_append.1 this).2.1
      exact t.sublist ((List.take_sublist _ _).map _)
     .simp at o;rw [o];exact d g C
     .simp at p;subst p;exact ⟨rfl,λx y=>y,by simp⟩
section
def gR (x:By) (D e:By->Vl) (h:∀ z,z≠x->D z=e z):∀ p,az p->aC x p=false->cD D p=cD e p
 | .atom k E n,C,d=>by
  rcases C with rfl|rfl|rfl|rfl<;>simp [cD,aC] at d ⊢;exact h E d
 | .un k a,C,d=>by
  simp [aC] at d;simp only [cD,gR x D e h a C.2 d.2]
 | .bin k a b,C,d=>by
  simp [aC] at d;simp only [cD,gR x D e h a C.2.1 d.2.1,gR x D e h b C.2.2 d.2.2]
 | .ifs a b c,C,d=>by
  simp [aC] at d;simp only [cD,gR x D e h a C.1 d.1,gR x D e h b C.2.1 d.2.1,gR x D e h c C.2.2 d.2.2]
def QC (gs:List (Nat × Fd)) (x:By):(ah gs x).map Prod.snd=(gs.map Prod.snd).find? (λf=>f.nm == x):=by
 rw [oI];rfl
def Uz (gs:List (Nat × Fd)) (x:By):mW gs x=eN (gs.map Prod.snd) x:=by
 rw [mW,eN,<- QC];cases ah gs x<;>rfl
structure Vh (Z w:zW) (e:Nat) (gs:List (Nat × Fd)) (S:Nat->Prop) (a:Option zD) (c:Nat) (U:zV) (M n:Nat) (F:Nat->Prop):Prop where
 low:zB Z w
 he:Z.heap.size<=e
 sh:Sh w S a gs
 row:w.heap[e]?=A (zM #[B a (G gs) c,J M,U,zN,zF false,zN] 108 (0,0))
 hf:∀ f,f∈gs->f.1≠e/\Z.heap.size<=f.1
 hS:¬ S e
 ha:a=none->c=0
 own:∃ bs,w.ownsRow Z.heap.size 151 1 U n bs
 sl:∃ ad ld cd,U=B ad ld cd
 dn:∀ q,U.ownBlock=A q->q≠e/\¬ S q/\∀ f,f∈gs->f.1≠q
 free:∀ q,F q->Z.heap.size<=q/\q≠e/\¬ S q/\(∀ f,f∈gs->f.1≠q)/\U.ownBlock≠A q
variable {Z w w':zW} {e:Nat} {gs:List (Nat × Fd)} {S F:Nat->Prop} {a:Option zD} {c:Nat} {U:zV} {M n:Nat}
def Vh.lt (h:Vh Z w e gs S a c U M n F):e<w.heap.size:=(cz.1 h.row).1
def Vh.next (h:Vh Z w e gs S a c U M n F) (b:zB w w'):Vh Z w' e gs S a c U M n F:=
 ⟨h.low.t (b.m h.low.size),h.he,h.sh.next b,(b.block e h.lt).t h.row,h.hf,h.hS,h.ha,(by obtain ⟨d,f⟩:=h.own;exact ⟨d,aZ f b⟩),h.sl,h.dn,h.free⟩
def Ed (Z:zW) (M n:Nat) (w:zW) (e:Nat) (fs:List Fd):Prop:=Env Z/\jZ Z/\∃ gs S a c U,fs=gs.map Prod.snd/\Vh Z w e gs S a c U M n (λ_=>False)/\G gs<=10
end
def eR (gs:List (Nat × Fd)) (V:Nat->Vl):List (Nat × Fd):=gs.map λg=>(g.1,⟨g.2.nm,g.2.p,V g.1⟩)
def pc (gs:List (Nat × Fd)) (V:Nat->Vl) (y:By):Vl:=match ah gs y with|some f=>V f.1|none=>(3,3)
def uC (V:Nat->Vl) (b:Nat) (v:Vl) (q:Nat):Vl:=if q=b then v else V q
def pg (gs:List (Nat × Fd)):(Nat->Vl)->List (Nat × Fd)->(Nat->Vl)
 | V,[]=>V
 | V,g::r=>pg gs (uC V g.1 (cD (pc gs V) g.2.p)) r
def j8 (gs:List (Nat × Fd)) (D:(gs.map Prod.fst).Nodup):∃ V,eR gs V=gs/\∀ g,g∈gs->V g.1=g.2.v:=by
 refine ⟨λq=>((gs.find? λg=>g.1 == q).map λg=>g.2.v).getD (0,0),?_,?_⟩
 .have h:∀ g,g∈gs->((gs.find? λh=>h.1 == g.1).map λg=>g.2.v).getD (0,0)=g.2.v:=λg C=>by
   rw [nh gs D g C];rfl
  unfold eR
  conv=>rhs;rw [<- List.map_id gs]
  refine sB λg C=>?_;show (g.1,(⟨g.2.nm,g.2.p,((gs.find? λh=>h.1 == g.1).map λg=>g.2.v).getD (0,0)⟩:Fd))=g;rw [h g C]
 .intro g C;simp only;rw [nh gs D g C];rfl
 where
 nh (gs:List (Nat × Fd)) (D:(gs.map Prod.fst).Nodup) (g:Nat × Fd) (C:g∈gs):(gs.find? λh=>h.1 == g.1)=A g:=by
  induction gs with
  | nil=>simp at C
  | cons x r F=>
   rw [fL,jB] at D;rcases bQ.1 C with rfl|C
   .simp
   .have E:x.1≠g.1:=λe=>D.1 (e▸iJ C);rw [List.find?_cons_of_neg (by simpa using E)];exact F D.2 C
def IQ (gs:List (Nat × Fd)) (V:Nat->Vl) (y:By):ah (eR gs V) y=(ah gs y).map λg=>(g.1,⟨g.2.nm,g.2.p,V g.1⟩):=by
 unfold ah eR;rw [oI];rfl
def pd (gs:List (Nat × Fd)) (V:Nat->Vl):mW (eR gs V)=pc gs V:=by
 funext y;unfold mW pc;rw [IQ];cases ah gs y<;>rfl
def Lq (gs:List (Nat × Fd)) (V:Nat->Vl) (b:Nat) (v:Vl):qH (eR gs V) b v=eR gs (uC V b v):=by
 unfold qH eR;rw [fM];refine sB λg a=>?_;simp only [Function.comp,uC];split<;>rfl
def Es (gs:List (Nat × Fd)) (a:(gs.map Prod.fst).Nodup) (V:Nat->Vl) (g:Nat × Fd) (b:g∈gs):oh (eR gs V) g.1=g.2.p:=by
 unfold oh eR;rw [oI];have:((λf:Nat × Fd=>f.1 == g.1) ∘ λg=>(g.1,(⟨g.2.nm,g.2.p,V g.1⟩:Fd)))=λh:Nat × Fd=>h.1 == g.1:=rfl;rw [this,j8.nh gs a g b];rfl
def rX (gs:List (Nat × Fd)) (a:(gs.map Prod.fst).Nodup):∀ (hs:List (Nat × Fd)) (V:Nat->Vl),(∀ g,g∈hs->g∈gs)->iR (eR gs V) (hs.map λg=>g.1)=eR gs (pg gs V hs)
 | [],V,_=>rfl
 | g::r,V,h=>by
  simp only [fL,iR,pg];rw [Es gs a V g (h g (by simp)),pd,Lq];exact rX gs a r _ λx C=>h x (by simp [C])
def FB (gs:List (Nat × Fd)) (c:(gs.map Prod.fst).Nodup) (V:Nat->Vl) (g:Nat × Fd) (i:g∈gs) (v:Vl) (z:By) (d:z≠g.2.nm):pc gs (uC V g.1 v) z=pc gs V z:=by
 unfold pc;cases l:ah gs z with
 | none=>rfl
 | some f=>
  obtain ⟨h,k⟩:=fE l;simp only [uC];have a:f.1≠g.1:=by
   intro e;have j:=j8.nh gs c g i;have b:=j8.nh gs c f h;rw [e,j] at b;cases b;exact d k.symm
  rw [aA a]
def iz (gs:List (Nat × Fd)) (V:Nat->Vl) (g:Nat × Fd):Prop:=V g.1=cD (pc gs V) g.2.p
def iz.keep {gs:List (Nat × Fd)} {V:Nat->Vl} {g h:Nat × Fd} {v:Vl} (d:(gs.map Prod.fst).Nodup) (e:iz gs V g) (i:g∈gs) (c:h∈gs) (a:g.1≠h.1) (f:NM g h) (hs:az g.2.p):iz gs (uC V h.1 v) g:=by
 unfold iz at *;rw [gR h.2.nm (pc gs (uC V h.1 v)) (pc gs V) (λz b=>FB gs d V h c v z b) g.2.p hs f,<- e];simp [uC,a]
def iz.made {gs:List (Nat × Fd)} {V:Nat->Vl} {g:Nat × Fd} (c:(gs.map Prod.fst).Nodup) (b:g∈gs) (d:NM g g) (hs:az g.2.p):iz gs (uC V g.1 (cD (pc gs V) g.2.p)) g:=by
 unfold iz;rw [gR g.2.nm (pc gs (uC V g.1 (cD (pc gs V) g.2.p))) (pc gs V) (λz a=>FB gs c V g b _ z a) g.2.p hs d];simp [uC]
def pY (gs:List (Nat × Fd)) (f:(gs.map Prod.fst).Nodup) (n:Db gs) (c:∀ g,g∈gs->az g.2.p):∀ (r a:List (Nat × Fd)) (V:Nat->Vl) (on:List By),gs=a++r->(∀ g,g∈a->iz gs V g)->(∀ g,g∈r->aF on g.2.p=false->iz gs V g)->∀ g,g∈gs->iz gs (pg gs V (aO on r)) g
 | [],a,V,on,e,d,_,g,m=>by
  rw [iq] at e;simp only [aO,pg];exact d g (e▸m)
 | h::r,a,V,on,e,d,s,g,m=>by
  have k:h∈gs:=(by rw [e];simp);have j:∀ x,x∈a++r->x.1≠h.1:=by
   have:((a++h::r).map Prod.fst).Nodup:=e▸f;rw [fK,fL] at this;have d:(a.map Prod.fst++h.1::r.map Prod.fst).Perm (h.1::(a.map Prod.fst++r.map Prod.fst)):=sZ;have u:=d.nodup_iff.1 this;rw [jB] at u;intro x C w;refine u.1 ?_;rw [<- fK,<- w];exact iJ C
  by_cases D:aF on h.2.p=true
  .have t:aO on (h::r)=h::aO (on++[h.2.nm]) r:=by simp [aO,D]
   rw [t];simp only [pg];have o:=n.2 h k;refine pY gs f n c r (a++[h]) _ _ (by rw [e];simp) (λx C=>?_) (λx C q=>?_) g m
   .rcases cG.1 C with C|C
    .have b:x∈gs:=by rw [e];simp [C]
     have i:=n.1;rw [e] at i;exact (d x C).keep f b k (j x (by simp [C])) ((Bw.1 i).2.2 x C h (by simp)) (c x b)
    .obtain rfl:x=h:=(by simpa using C);exact iz.made f k o (c _ k)
   .have b:x∈gs:=by rw [e];simp [C]
    have v:=Va.1 q;exact (s x (by simp [C]) v.1).keep f b k (j x (by simp [C])) v.2 (c x b)
  .have l:aF on h.2.p=false:=(by simpa using D);have t:aO on (h::r)=aO on r:=by simp [aO,l]
   rw [t];refine pY gs f n c r (a++[h]) V on (by rw [e];simp) (λx C=>?_) (λx C=>s x (by simp [C])) g m;rcases cG.1 C with C|C
   .exact d x C
   .obtain rfl:x=h:=(by simpa using C);exact s x (by simp) l
 where
 Va {on:List By} {y:By} {p:Pt}:aF (on++[y]) p=false↔aF on p=false/\aC y p=false:=by
  simp [aF]
def Lr (gs:List (Nat × Fd)) (f:Nat × Fd) (b:(gs.map Prod.fst).Nodup) (k:Db gs) (c:∀ g,g∈gs->az g.2.p) (d:f∈gs) (q:∀ g,g∈gs->g.1≠f.1->aC f.2.nm g.2.p=false->g.2.v=cD (mW gs) g.2.p) :
  ∃ V,iR gs ((f::aO [f.2.nm] gs).map λx=>x.1)=eR gs V/\∀ g,g∈gs->iz gs V g:=by
 obtain ⟨V,j,h⟩:=j8 gs b;have m:mW gs=pc gs V:=by
  conv=>lhs;rw [<- j]
  exact pd gs V
 refine ⟨pg gs V (f::aO [f.2.nm] gs),?_,?_⟩
 .have:=rX gs b (f::aO [f.2.nm] gs) V (λg a=>by
   rcases bQ.1 a with rfl|a
   .exact d
   .exact mX _ _ g a)
  rw [j] at this;exact this
 .simp only [pg];refine pY gs b k c gs [] _ _ rfl (λg a=>by simp at a) λg a p=>?_;by_cases e:g.1=f.1
  .have n:=j8.nh gs b f d;have l:=j8.nh gs b g a;rw [e,n] at l;cases l;exact iz.made b d (k.2 f d) (c f d)
  .have i:aC f.2.nm g.2.p=false:=by simpa [aF] using p
   have o:iz gs V g:=by
    unfold iz;rw [h g a,<- m];exact q g a e i
   exact o.keep b a d e i (c g a)
def xt (f:Nat × Fd):∀ (gs st mv:List (Nat × Fd)) (c:List (List (Nat × Fd))) (a b:List (Nat × Fd)),dB f gs st mv c=.ok a b->(a++b).Perm (st++mv++gs)
 | [],st,mv,c,a,b,h=>by
  simp only [dB] at h;cases h;simp
 | g::r,st,mv,c,a,b,h=>by
  have d:∀ C Y:List (Nat × Fd),(C++[g]++Y).Perm (C++g::Y):=λC Y=>(by simp);simp only [dB] at h;split at h
  .refine (xt f r _ _ _ _ _ h).t ?_;have:(st++[g]++mv++r).Perm (st++(mv++g::r)):=by
    rw [kI,kI];refine List.Perm.append_left st ?_;rw [vL];exact sZ.symm
   simpa using this
  .split at h
   .cases h
   .refine (xt f r _ _ _ _ _ h).t ?_;simp
def wS (Q0 Q4 gs:List (Nat × Fd)) (f:Nat × Fd) (h:dL (Q0++f::Q4) (G Q0) f=.ok gs):gs.Perm (Q0++f::Q4):=by
 obtain ⟨L,M,e1,e,C,_⟩:=om Q0 Q4 f;have b:(L++f::M).Perm (Q0++f::Q4):=(by refine sZ.t (List.Perm.t ?_ sZ.symm);rw [C]);unfold dL at h;rw [e1,e] at h;unfold jW at h;cases c:kT f.2.p (L++f::M) with
 | none=>
  rw [c] at h;cases h;exact b
 | some l=>
  rw [c] at h;simp only at h;split at h
  .cases h;exact b
  .rename_i g;have d1:((L++f::M).drop (G L)).take (l+1 - G L)=f::M.take (l - G L):=(by rw [List.drop_left,show l+1 - G L=(l - G L)+1 by omega,yn]);have d2:(L++f::M).drop (l+1)=M.drop (l - G L):=(by rw [List.drop_append,nY (by omega),ko,show l+1 - G L=(l - G L)+1 by omega,List.drop_succ_cons]);rw [d1,d2,List.take_left] at h;cases a:dB f (f::M.take (l - G L)) [] [] [] with
   | dZ i=>rw [a] at h;cases h
   | ok E D=>
    rw [a] at h;cases h;refine List.Perm.t ?_ b;have d:=xt _ _ _ _ _ _ _ a;simp only [ko] at d;simp only [b9,iq];refine List.Perm.append_left L ?_;rw [<- kI];have:(f::M)=(f::M.take (l - G L))++M.drop (l - G L):=(by simp);rw [this];exact d.append_right _
structure GS (fs:List (Nat × Fd)):Prop where
 nb:(fs.map Prod.fst).Nodup
 nn:(fs.map λg=>g.2.nm).Nodup
 vT:Db fs
 shp:∀ g,g∈fs->az g.2.p
 val:∀ g,g∈fs->g.2.v=cD (mW fs) g.2.p
def uO {fs:List (Nat × Fd)} (D:(fs.map λg=>g.2.nm).Nodup) {g:Nat × Fd} (C:g∈fs):ah fs g.2.nm=A g:=by
 induction fs with
 | nil=>simp at C
 | cons x r F=>
  rw [fL,jB] at D;unfold ah;rcases bQ.1 C with rfl|C
  .simp
  .have E:x.2.nm≠g.2.nm:=λe=>D.1 (e▸iJ C);rw [List.find?_cons_of_neg (by simpa using E)];exact F D.2 C
def Ls {fs gs:List (Nat × Fd)} (e:(fs.map λg=>g.2.nm).Nodup) (d:gs.Perm fs) (y:By):ah gs y=ah fs y:=by
 have b:(gs.map λg=>g.2.nm).Nodup:=(d.map _).nodup_iff.2 e;cases h:ah fs y with
 | some g=>
  obtain ⟨a,c⟩:=fE h;rw [<- c];exact uO b (d.mem_iff.2 a)
 | none=>
  cases f:ah gs y with
  | none=>rfl
  | some g=>
   obtain ⟨a,c⟩:=fE f;rw [<- c,uO e (d.mem_iff.1 a)] at h;cases h
def Vb {fs gs:List (Nat × Fd)} (b:(fs.map λg=>g.2.nm).Nodup) (a:gs.Perm fs):mW gs=mW fs:=by
 funext y;unfold mW;rw [Ls b a y]
def KW (Q0 Q4 gs:List (Nat × Fd)) (f:Nat × Fd) (p:((Q0++f::Q4).map Prod.fst).Nodup) (nn:((Q0++f::Q4).map λg=>g.2.nm).Nodup) (s:(Q0++Q4).Pairwise NM) (hs:∀ g,g∈Q0++Q4->NM g g) (i:∀ g,g∈Q0++f::Q4->az g.2.p)
  (u:∀ g,g∈Q0++Q4->aC f.2.nm g.2.p=false->g.2.v=cD (mW (Q0++f::Q4)) g.2.p) (h:dL (Q0++f::Q4) (G Q0) f=.ok gs) :
  ∃ V,iR gs ((f::aO [f.2.nm] gs).map λx=>x.1)=eR gs V/\GS (eR gs V)/\gs.Perm (Q0++f::Q4):=by
 have b:=wS Q0 Q4 gs f h;have o:∀ g,g∈Q0++Q4->g.1≠f.1:=by
  rw [fK,fL] at p;have q:=(sZ (a:=f.1) (l₁:=Q0.map Prod.fst) (l₂:=Q4.map Prod.fst)).nodup_iff.1 p;rw [jB] at q;intro g c e;refine q.1 ?_;rw [<- fK,<- e];exact iJ c
 have l:=Qv Q0 Q4 gs f s hs o h;have d:(gs.map Prod.fst).Nodup:=(b.map _).nodup_iff.2 p;have m:(gs.map λg=>g.2.nm).Nodup:=(b.map _).nodup_iff.2 nn;have k:f∈gs:=b.mem_iff.2 (by simp);have C:∀ g,g∈gs->g=f\/g∈Q0++Q4:=λg c=>by
  have:=b.mem_iff.1 c;simp at this ⊢;rcases this with h|h|h
  .exact zZ (zR h)
  .exact zR h
  .exact zZ (zZ h)
 obtain ⟨V,r,v⟩:=Lr gs f d l (λg c=>i g (b.mem_iff.1 c)) k (λg c n t=>by
  rw [Vb nn b];rcases C g c with rfl|c
  .exact absurd rfl n
  .exact u g c t)
 refine ⟨V,r,⟨?_,?_,⟨?_,?_⟩,?_,?_⟩,b⟩
 .have:(eR gs V).map Prod.fst=gs.map Prod.fst:=(by simp [eR]);rw [this];exact d
 .have:(eR gs V).map (λg=>g.2.nm)=gs.map λg=>g.2.nm:=(by simp [eR]);rw [this];exact m
 .unfold eR;exact jz.2 (l.1.imp λh=>h)
 .intro g c;obtain ⟨x,j,rfl⟩:=bU.1 c;exact l.2 x j
 .intro g c;obtain ⟨x,j,rfl⟩:=bU.1 c;exact i x (b.mem_iff.1 j)
 .intro g c;obtain ⟨x,j,rfl⟩:=bU.1 c;rw [pd];exact v x j
end Go.Proofs.YtihgojcfpnhelaaGreatDoor
