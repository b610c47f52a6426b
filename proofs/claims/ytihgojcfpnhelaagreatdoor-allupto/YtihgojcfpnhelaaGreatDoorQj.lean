import Derived.Test.YtihgojcfpnhelaaGreatDoorJt
import Derived.Test.YtihgojcfpnhelaaGreatDoorHn
import Derived.Test.YtihgojcfpnhelaaGreatDoorIj
set_option maxRecDepth 100000
set_option maxHeartbeats 4000000
set_option linter.all false
namespace Go.Proofs.YtihgojcfpnhelaaGreatDoor
open Go renaming World->zW,Value->zV,Calls->zC,Addr->zD
open Go.RowKit Go.Proofs.Tryz
open List renaming length→G
def jh (x:By) {S:Nat->Prop} (p:Pt) (a:Option zD) (l c:Nat) (w:zW) (f:dR w S p a l c) (d:∀ q,S q->q<w.heap.size) :
  zC prog 195 #[.agg #[zI p.k,zG p.nm,zI p.n,.slice a l c],zG x] w λe w'=>e=.returned (.bool (aC x p))/\zB w w':=by
 have H:=I (λw1 (h:zB w w1)=>Iu x f w1 (λq g=>⟨bG (d q g) h.size,h.block q (d q g)⟩));clear f d;go_in;go_wp2_with (go_at_call 218;refine (H.o _ (bZ _)).m ?_;rintro e w1 ⟨rfl,b⟩);go_ret;exact ⟨rfl,(bZ _).t (b.m aq)⟩
def OL (r:zV) (ρ:By->Vl) {S:Nat->Prop} (p:Pt) (a:Option zD) (l c:Nat) (w:zW) (h:dR w S p a l c) (g:∀ q,S q->q<w.heap.size) (d:Shape p) (i:∀ x W,zB w W->zC prog 198 #[r,.string ⟨(x:By).toArray⟩] W (dx (ρ x) W)) :
  zC prog 197 #[.agg #[zI p.k,zG p.nm,zI p.n,.slice a l c],bH r] w (dx (cD ρ p) w):=by
 have H:=I (λw1 (f:zB w w1)=>UJ r ρ h w1 d (λq k=>⟨bG (g q k) f.size,f.block q (g q k)⟩) (λx W t=>i x W (f.t (t.m f.size))));clear h g i d;go_in;go_wp2_with (go_at_call 220;refine mo (H.o _ (aY _ _ _)) ?_;rintro e w1 ⟨rfl,b⟩);have m:=(b.block (w.heap.size+1) aq).t (bc w _ _ _);obtain ⟨⟨n,o⟩,⟨f0,f1⟩,s⟩:=cq m;have u:=I (show zB w w1 from (aY w _ _).t (b.m aN));clear b m H;generalize cD ρ p=j at *;apply I;go_wp2;refine aK (v:=.agg #[zI j.1,zI j.2]) (by simp [results,results197,go_sem,n,o]) rfl ?_;exact ⟨rfl,dJ u.o _ ae _ _⟩
def R8 (x y:By) (p:Pt) (w:zW) (e:Ending) (w':zW):Prop:=
 zB w w'/\((100<(txt (aR x y p)).length/\e=.returned (.tuple #[.agg #[zI 0,zG [],zI 0,zN],zI 7]))\/(¬ 100<(txt (aR x y p)).length/\∃ (a:Option zD) (l c:Nat),e=.returned (.tuple #[.agg #[zI ((aR x y p).k:Int),.string ⟨((aR x y p).nm).toArray⟩,zI ((aR x y p).n:Int),.slice a l c],zI 0])/\dR w' (λq=>w.heap.size<=q/\q<w'.heap.size) (aR x y p) a l c))
def Hj (x y:By) {S:Nat->Prop} (p:Pt) (a:Option zD) (l c:Nat) (w:zW) (B:dR w S p a l c) (t:∀ q,S q->q<w.heap.size) (o:Shape p) (G:Env w) (J:Good (aR x y p)) (C:(txt (aR x y p)).length<=1000000) :
  zC prog 200 #[.agg #[zI p.k,zG p.nm,zI p.n,.slice a l c],zG x,zG y] w (R8 x y p w):=by
 have H:=I (λw1 (n:zB w w1)=>Lb x y B w1 o (λq hq=>⟨bG (t q hq) n.size,n.block q (t q hq)⟩));have i:=I (show ∀ (a:Option zD) (l c:Nat) (w1 w2:zW),zB w w1->dR w2 (λq=>w1.heap.size<=q/\q<w2.heap.size) (aR x y p) a l c->zB w1 w2->zC prog 62 #[.agg #[zI ((aR x y p).k:Int),.string ⟨((aR x y p).nm).toArray⟩,zI ((aR x y p).n:Int),.slice a l c]] w2 (R8 x y p w1) from λa l c w1 w2 n E g=>by
  have b:=n.t (g.m n.size);refine (Dq (aR x y p) a l c w2 E (λq hq=>hq.2) (G.next b) J C).m ?_;rintro e w' ⟨j,h⟩;refine ⟨g.t (j.m g.size),?_⟩;rcases h with ⟨d,u⟩|⟨d,u⟩
  ·exact Or.inl ⟨d,u⟩
  ·exact Or.inr ⟨d,a,l,c,u,(E.next λq hq=>j.block q hq.2).wide λq hq=>⟨hq.1,bG hq.2 j.size⟩⟩)
 clear B t o G J C;go_in;go_wp2_with (first|(go_at_call 222;refine (H.o _ (aY _ _ _)).m ?_;rintro e w1 ⟨L,K,M,rfl,k,f⟩)|(go_at_call 62;refine (i.o _ _ _ _ _ (aY _ _ _) k f).m ?_;rintro e w3 ⟨b,⟨d,rfl⟩|⟨d,F,D,c2,rfl,m⟩⟩<;>apply Hid.o))
 ·obtain ⟨⟨k0,k1,k2,k3⟩,⟨f0,f1,f2,f3⟩,r⟩:=aX ((b.block (w.heap.size+1) aq).t (bc w _ _ _));have z:=I b;have A:=I d;clear b d f k H i;apply I;go_wp2;refine aK (v:=.tuple #[.agg #[zI 0,zG [],zI 0,zN],zI 7]) ZP rfl ?_;refine ⟨?_,Or.inl ⟨A.o,rfl⟩⟩;exact ((((((aY w _ _).t (z.o.m aN)).setCell (p:=⟨w.heap.size+1,0,none⟩) vC _).setCell (p:=⟨w.heap.size+1,1,none⟩) vC _).setCell (p:=⟨w.heap.size+1,2,none⟩) vC _).setCell (p:=⟨w.heap.size+1,3,none⟩) vC _)
 ·obtain ⟨⟨k0,k1,k2,k3⟩,⟨f0,f1,f2,f3⟩,r⟩:=aX ((b.block (w.heap.size+1) aq).t (bc w _ _ _));have z:=I b;have A:=I d;have s:=I m;clear b d f k H i m;apply I;go_wp2;refine aK (v:=.tuple #[.agg #[zI ((aR x y p).k:Int),.string ⟨((aR x y p).nm).toArray⟩,zI ((aR x y p).n:Int),.slice F D c2],zI 0]) ZP rfl ?_;refine ⟨?_,Or.inr ⟨A.o,F,D,c2,rfl,(s.o.next λq hq=>lx w3 (w.heap.size+1) _ _ _ _ aaN).wide λq hq=>⟨aaN,by simpa using hq.2⟩⟩⟩;exact ((((((aY w _ _).t (z.o.m aN)).setCell (p:=⟨w.heap.size+1,0,none⟩) vC _).setCell (p:=⟨w.heap.size+1,1,none⟩) vC _).setCell (p:=⟨w.heap.size+1,2,none⟩) vC _).setCell (p:=⟨w.heap.size+1,3,none⟩) vC _)
def acZ:∀ args w,(callFunc 237 args).run prog w=.ok (.enter 237 args) w:=oK func237 aD rfl
def ac0 {S:Nat->Prop} (B b q:Nat) (f g:Fd) (w:zW) (i:∀ q,S q->q<w.heap.size) (o:fB w S b f) (m:fB w S q g) (r:w.cell? ⟨B,0,none⟩=some (zJ b)) :
  zC prog 237 #[zJ q,zJ B] w λe w'=>e=.returned (.bool (aC f.nm g.p))/\zB w w':=by
 obtain ⟨_,_,_,_,y,x,c1,d,_⟩:=o;obtain ⟨_,_,_,_,l,k,c2,h,c⟩:=m;obtain ⟨⟨p,_⟩,_,_⟩:=fP d;obtain ⟨⟨_,s,v,t,u,_⟩,_,_⟩:=fP h;have j:=I (jh f.nm g.p l k c2 w.drew (c.next λ_ _=>rfl) i);clear d h c;go_in;go_wp2_with fail
 go_region_with (first|(go_at_call 195;refine j.o.m ?_;rintro e w1 ⟨rfl,a⟩;have n:=I a;clear a))
 all_goals go_wp2
 all_goals go_ret
 all_goals exact ⟨rfl,(aM _ _).drew.t n.o⟩
def FE (a:Option zD) (n c:Nat) (lb:zV) (w:zW) (q:Nat->Nat) (f:Nat->Bool) (E:n<=1000)
  (t:∀ j,j<n->∃ g o,a=some ⟨g,o,none⟩/\g<w.heap.size/\w.cell? ⟨g,o+j,none⟩=some (.pointer (some ⟨q j,0,none⟩)))
  (u:∀ j,j<n->∀ W,zB w W->zC prog 237 #[.pointer (some ⟨q j,0,none⟩),lb] W λe w'=>e=.returned (.bool (f j))/\zB W w') :
  zC prog 236 #[.slice a n c,.func (.func 237) #[] #[lb]] w λe w'=>∃ z:Int,e=.returned (zI z)/\((z = -1/\∀ j,j<n->f j=false)\/∃ j:Nat,j<n/\z=(j:Int)/\f j=true/\∀ i,i<j->f i=false)/\zB w w':=by
 have A:=I t;have y:=I u;have C:=acZ;clear t u;go_in;go_wp2_with fail;go_loopg [5,8] n (λgk _ B wr=>∃ j:Nat,j<=n/\n<=j+gk/\B=zI j/\Hid (zB w wr)/\Hid (∀ i,i<j->f i=false))
 case atStart=>exact YJ
 case round=>
  obtain ⟨j,D,v,rfl,k,s⟩:=hrel;by_cases d:j<n
  ·obtain ⟨g,o,rfl,x,c0⟩:=A.o j d;have d0:=(k.o.cell (p:=⟨g,o+j,none⟩) x).t c0;have h:=I (y.o j d wr k.o);have m:=I k.o.size;have l:(j:Int)<(n:Int):=ae;clear c0;cases r:f j with
   | true=>
    rw [r] at h;go_wp2_with (first|(go_at_fn 237;refine h.o.m ?_;rintro e w1 ⟨rfl,b⟩)|(go_at_call 237;refine h.o.m ?_;rintro e w1 ⟨rfl,b⟩));go_ret;exact ⟨_,rfl,Or.inr ⟨j,d,rfl,r,s.o⟩,k.o.t (b.m m.o)⟩
   | false=>
    rw [r] at h;go_wp2_with (first|(go_at_fn 237;refine h.o.m ?_;rintro e w1 ⟨rfl,b⟩)|(go_at_call 237;refine h.o.m ?_;rintro e w1 ⟨rfl,b⟩));go_roundg (n - (j+1))
    case measure=>omega
    case rel=>
     refine ⟨j+1,ae,ae,ez,k.o.t (b.m m.o),(show Hid _ from λi hi=>?_)⟩;by_cases e:i=j
     ·subst e;exact r
     ·exact s.o i ae
  ·have l:¬ (j:Int)<(n:Int):=ae;go_wp2;go_ret;exact ⟨_,rfl,Or.inl ⟨rfl,λi hi=>s.o i ae⟩,k.o⟩
def FH {S:Nat->Prop} (a:Option zD) (c b:Nat) (f:Fd) (fs:List (Nat × Fd)) (w:zW) (hs:Sh w S a fs) (hl:(G fs)<=1000) (Q:fB w S b f) :
  zC prog 233 #[.slice a (G fs) c,zJ b] w λe w'=>∃ z:Int,e=.returned (zI z)/\((z = -1/\∀ j (h:j<G fs),aC (fs[j]).2.nm f.p=false)\/∃ j:Nat,∃ h:j<G fs,z=(j:Int)/\aC (fs[j]).2.nm f.p=true/\∀ i (d:i<G fs),j<i->aC (fs[i]).2.nm f.p=false)/\zB w w':=by
 have F:=I hs;obtain ⟨_,_,_,_,X,V,c1,H,M⟩:=Q;have D:b<w.heap.size:=(cz.1 H).1;have B:=I H;have T:=I (λx W (K:zB w W)=>jh x f.p X V c1 W (M.next λq r=>K.block q (hs.still q r)) (λq r=>bG (hs.still q r) K.size));clear hs H M;go_in;go_wp2_with fail;go_loopg [5] (G fs+1) (λgk O wr=>∃ j:Nat,j<=G fs/\j<gk/\O=zI ((j:Int) - 1)/\Hid (zB w wr)/\Hid (∀ i (d:i<G fs),j<=i->aC (fs[i]).2.nm f.p=false))
 case atStart=>exact ⟨G fs,aG _,ae,rfl,aM _ _,λi d h=>ae⟩
 case round=>
  obtain ⟨j,hj,R,rfl,m,v⟩:=hrel;cases j with
  | zero=>
   have P:¬ (0:Int)<=((0:Nat):Int) - 1:=ae;go_wp2;go_ret;exact ⟨_,rfl,Or.inl ⟨rfl,λi d=>v.o i d ae⟩,m.o⟩
  | succ j=>
   have E:(((j+1:Nat):Int) - 1)=(j:Int):=ae;rw [E];have P:(0:Int)<=(j:Int):=ae;have N:(j:Int)<((G fs):Int):=ae;obtain ⟨g,o,rfl,U,L⟩:=F.o.ptr j ae;have Y:=(m.o.cell (p:=⟨g,o+j,none⟩) (F.o.still g U)).t L;have r:=F.o.bX fs[j] (bt ae);have C:=r.lt;obtain ⟨_,_,_,_,a2,l2,c2,t,_⟩:=r;obtain ⟨⟨k0,_⟩,_,_⟩:=fP ((m.o.block _ C).t t);obtain ⟨⟨_,j1,j2,j3,j4,_⟩,_,_⟩:=fP ((m.o.block b D).t B.o);have y:=I (T.o (fs[j]).2.nm wr.drew m.o.drew);have s:=m.o.size;have l:∀ i (d:i<G fs),j+1<=i->aC (fs[i]).2.nm f.p=false:=v.o;clear t L;cases n:aC (fs[j]).2.nm f.p with
   | true=>
    have u:=I (show ((-1:Int) = -1/\False)\/∃ i:Nat,∃ h:i<G fs,(j:Int)=(i:Int)/\aC (fs[i]).2.nm f.p=true/\∀ i' (d:i'<G fs),i<i'->aC (fs[i']).2.nm f.p=false from Or.inr ⟨j,ae,rfl,n,λi d h=>l i d ae⟩);rw [n] at y;clear n l v;generalize fs[j]=Z at *;go_wp2_with fail
    go_region_with (first|(go_at_call 195;refine y.o.m ?_;rintro e w1 ⟨rfl,k⟩;have J:=I k;clear k))
    all_goals go_wp2
    all_goals go_ret
    all_goals exact ⟨_,rfl,Or.inr (u.o.elim (λh=>h.2.elim) id),m.o.drew.t (J.o.m s)⟩
   | false=>
    have A:=I (show ∀ i (d:i<G fs),j<=i->aC (fs[i]).2.nm f.p=false from λi d h=>by
     by_cases e:i=j
     ·subst e;exact n
     ·exact l i d ae)
    rw [n] at y;clear n l v;generalize fs[j]=Z at *;go_wp2_with fail
    go_region_with (first|(go_at_call 195;refine y.o.m ?_;rintro e w1 ⟨rfl,k⟩;have J:=I k;clear k))
    all_goals go_wp2
    all_goals go_roundg (gk - 1)
    all_goals try (case measure=>omega)
    all_goals exact ⟨j,ae,ae,ez,m.o.drew.t (J.o.m s),A⟩
def anyM (on:List By) (p:Pt):Bool:=on.any λx=>aC x p
def Qy (p:Pt) (a:Option zD) (l c:Nat):zV:=.agg #[zI p.k,zG p.nm,zI p.n,.slice a l c]
def Lu:∀ args w,(callFunc 195 args).run prog w=.ok (.enter 195 args) w:=oK func195 aD rfl
def acX {S:Nat->Prop} (p:Pt) (a:Option zD) (l c:Nat) (on:List By) (C:Option zD) (J:Nat) (w:zW) (v:dR w S p a l c) (s:∀ q,S q->q<w.heap.size)
  (k:∀ j (h:j<G on),∃ g,C=some ⟨g,0,none⟩/\g<w.heap.size/\w.cell? ⟨g,j,none⟩=some (.string ⟨(on[j]).toArray⟩)) (L:(G on)<=1000) :
  zC prog 217 #[.slice C (G on) J,.func (.func 195) #[Qy p a l c] #[]] w λe w'=>∃ z:Int,e=.returned (zI z)/\(0<=z↔anyM on p=true)/\zB w w':=by
 have E:=I (λx W (B:zB w W)=>jh x p a l c W (v.next λq u=>B.block q (s q u)) (λq u=>bG (s q u) B.size));have M:=Lu;have t:=I k;clear v s k;go_in;go_wp2_with fail;go_loopg [5,8] (G on) (λgk _ K wr=>∃ j:Nat,j<=G on/\(G on)<=j+gk/\K=zI j/\Hid (zB w wr)/\Hid (∀ i (hi:i<G on),i<j->aC on[i] p=false))
 case atStart=>exact YF
 case round=>
  obtain ⟨j,N,D,rfl,f,y⟩:=hrel;by_cases m:j<G on
  ·obtain ⟨g,rfl,F,c0⟩:=t.o j m;have d0:=(f.o.cell (p:=⟨g,j,none⟩) F).t c0;have d:=I (E.o (on[j]) wr f.o);have o:=I f.o.size;have n:(j:Int)<((G on):Int):=ae;clear c0;cases r:aC on[j] p with
   | true=>
    rw [r] at d;unfold Qy;go_wp2_with (first|(go_at_fn 195;refine d.o.m ?_;rintro e w1 ⟨rfl,b⟩)|(go_at_call 195;refine d.o.m ?_;rintro e w1 ⟨rfl,b⟩));go_ret;exact ⟨_,rfl,⟨λ_=>rD.2 ⟨on[j],bt m,r⟩,λ_=>ae⟩,f.o.t (b.m o.o)⟩
   | false=>
    rw [r] at d;go_wp2_with (first|(go_at_fn 195;refine d.o.m ?_;rintro e w1 ⟨rfl,b⟩)|(go_at_call 195;refine d.o.m ?_;rintro e w1 ⟨rfl,b⟩));go_roundg (G on - (j+1))
    case measure=>omega
    case rel=>
     refine ⟨j+1,ae,ae,ez,f.o.t (b.m o.o),(show Hid _ from λi hi h=>?_)⟩;by_cases e:i=j
     ·subst e;exact r
     ·exact y.o i hi ae
  ·have n:¬ (j:Int)<((G on):Int):=ae;go_wp2;go_ret;refine ⟨_,rfl,⟨λh=>ae,λh=>?_⟩,f.o⟩;obtain ⟨x,H,A⟩:=rD.1 h;obtain ⟨i,hi,rfl⟩:=e9 H;rw [y.o i hi ae] at A;cases A
def Lx {S:Nat->Prop} (p:Pt) (a:Option zD) (l c:Nat) (on:List By) (i:Option zD) (o:Nat) (w:zW) (k:dR w S p a l c) (m:∀ q,S q->q<w.heap.size)
  (b:∀ j (h:j<G on),∃ g,i=some ⟨g,0,none⟩/\g<w.heap.size/\w.cell? ⟨g,j,none⟩=some (.string ⟨(on[j]).toArray⟩)) (r:(G on)<=1000) :
  zC prog 194 #[.slice i (G on) o,.func (.func 195) #[Qy p a l c] #[]] w λe w'=>e=.returned (.bool (anyM on p))/\zB w w':=by
 have H:=I (acX p a l c on i o w k m b r);clear k m b;go_in;go_wp2_with (go_at_call 217;refine H.o.m ?_;rintro e w1 ⟨z,rfl,n,d⟩);cases f:anyM on p with
 | true=>
  have:0<=z:=n.2 f;have s:decide (0<=z)=true:=by simp [this]
  go_ret;exact ⟨by simp [this,f],d⟩
 | false=>
  have:¬ 0<=z:=λh=>by rw [n.1 h] at f;cases f
  go_ret;exact ⟨by simp [this,f],d⟩
def aO (on:List By):List (Nat × Fd)->List (Nat × Fd)
 | []=>[]
 | f::r=>if anyM on f.2.p=true then f::aO (on++[f.2.nm]) r else aO on r
def cA (fs:List (Nat × Fd)):List zV:=fs.map λf=>.pointer (some ⟨f.1,0,none⟩)
def oX:(prog.info? 220).map (λi=>(i.zero,i.size,i.bytes))=some (some (.pointer none),1,8):=aD
def Sm {w:zW} {B j z q n o:Nat} {e f:TypeId} {v v':zV} {xs b:List zV} (h:w.ownsRow B e z v n xs) (k:w.ownsRow j f q v' o b) (c:e≠f):v.ownBlock=none\/v.ownBlock≠v'.ownBlock:=by
 rcases h.2 with ⟨rfl,_⟩|⟨g,m,p,rfl,_,l,_⟩
 ·exact Or.inl rfl
 ·right;rcases k.2 with ⟨rfl,_⟩|⟨r,i,d,rfl,_,a,_⟩
  ·simp [Value.ownBlock]
  ·simp only [Value.ownBlock,ne_eq,rB];rintro rfl;rw [l] at a;simp at a;exact c a.2
def zX (x:By) {S:Nat->Prop} (e c:Nat) (a:Option zD) (fs:List (Nat × Fd)) (w:zW) (hs:Sh w S a fs) (hc:w.cell? ⟨e,0,none⟩=some (.slice a (G fs) c)) (he:e<w.heap.size) (hl:(G fs)<=900) :
  zC prog 166 #[zJ e,zG x] w λr w'=>∃ v,r=.returned v/\w'.ownsRow w.heap.size 220 1 v (aO [x] fs).length (cA (aO [x] fs))/\zB w w':=by
 have H:=I hs;clear hs;obtain ⟨i0,hi,R,T,hz2⟩:=fe yU;obtain ⟨i1,gi,qh,qi,pD⟩:=fe oX;go_in;go_wp2_with fail;go_loopg [5,6,8,16] (G fs) (λgk s5 s6 _ s16 wr=>∃ (j:Nat) (k:List (Nat × Fd)) (o:List By),j<=G fs/\(G fs)<=j+gk/\(G k)<=j/\(G o)<=j+1/\s16=zI j/\Hid (aO [x] fs=k++aO o (fs.drop j))/\Hid (wr.ownsRow w.heap.size 220 1 s5 (G k) (cA k))/\Hid (wr.ownsRow w.heap.size 9 1 s6 (G o) (strs o))/\Hid (zB w wr))
 case atStart=>exact ⟨0,[],[x],bE _,ae,aq,aq,rfl,by rw [List.drop_zero];rfl,eW _ _ _ _,nz w [x] aq,(aM _ _).alloc (aG _) _⟩
 case round=>
  obtain ⟨j,k,o,hj,xA,hk,ho,rfl,HH,Q,J,s⟩:=hrel;obtain ⟨ak,lk,ck,rfl⟩:=b7 Q.o;by_cases E:j<G fs
  ·obtain ⟨g,of,rfl,hg,hp⟩:=H.o.ptr j E;have hp':=(s.o.cell (p:=⟨g,of+j,none⟩) (H.o.still g hg)).t hp;have f:=H.o.bX fs[j] (bt E);have B:=f.lt;obtain ⟨_,_,_,_,a1,l1,c1,t,hP⟩:=f;obtain ⟨⟨k0,k1,k2,k3,k4,k5,k6⟩,_,hsz⟩:=fP ((s.o.block _ B).t t);have O:(j:Int)<((G fs):Int):=ae;obtain ⟨U,lo,co,rfl⟩:=b7 J.o;have hlo:lo=(G o):=by
    rcases J.o.2 with ⟨D,h2⟩|⟨_,_,_,D,_⟩
    ·simp at D;omega
    ·simp at D;omega
   subst hlo;have P:=I (λW (t:zB wr W)=>Lx (fs[j]).2.p a1 l1 c1 o U co W ((hP.next λq f=>s.o.block q (H.o.still q f)).next λq f=>t.block q (bG (H.o.still q f) s.o.size)) (λq f=>bG (bG (H.o.still q f) s.o.size) t.size) (λi hi=>by
    rcases J.o.2 with ⟨D,h2⟩|⟨g0,arY,arZ,D,h2,h3,_⟩
    ·omega
    ·have e1:U=some ⟨g0,0,none⟩:=by simp at D;exact D.1
     subst e1;have L:=(cz.1 h3).1;refine ⟨g0,rfl,bG L t.size,?_⟩;rw [t.cell (p:=⟨g0,i,none⟩) L,J.o.cellAt i ae];simp [strs,hi]) ae)
   have ahR:=jL E;have HP0:=I hP;have N:=I t;clear hP t hp;cases hm:anyM o (fs[j]).2.p with
   | false=>
    have z:=I (show aO [x] fs=k++aO o (fs.drop (j+1)) from aaL);rw [hm] at P;clear hm;generalize fs[j]=n at *;go_wp2_with (go_at_call 194;refine (P.o _ (aM _ _)).m ?_;rintro e w1 ⟨rfl,d⟩);go_roundg (G fs - (j+1))
    case measure=>omega
    case rel=>exact ⟨j+1,k,o,ae,ae,ae,ae,ez,z,aZ Q.o d,aZ J.o d,s.o.t (d.m s.o.size)⟩
   | true=>
    have z:=I (show aO [x] fs=(k++[fs[j]])++aO (o++[(fs[j]).2.nm]) (fs.drop (j+1)) from aaL);rw [hm] at P;clear hm;generalize fs[j]=n at *;go_wp2_with (go_at_call 194;refine mo (P.o _ (aM _ _)) ?_;rintro e w1 ⟨rfl,d⟩);have A:=I (aZ Q.o d);have K:=I (aZ J.o d);have C:=I (s.o.t (d.m s.o.size));have V:=C.o.size;obtain ⟨⟨m0,_⟩,_,hsm⟩:=fP ((C.o.block _ B).t N.o);clear d;apply I;go_wp2_with (at_builtin;refine km _ rfl (.tmp 27) (.tmp 29) 101 rfl w.heap.size 220 i1 (.pointer none) 1 8 underlying101 gi qh qi pD rfl ai (.slice ak lk ck) (G k) (cA k) rfl (A.o.alloc _) ⟨w1.heap.size,0,none⟩ 1 1 [.pointer (some ⟨n.1,0,none⟩)] rfl rfl (λq u f=>bC w1 [.pointer (some ⟨n.1,0,none⟩)] 220 q u f) (λu hu=>nw) jM ae aN ?_;intro v' w2 m h _;apply Hid.o);have y:=I ((C.o.alloc V (.cells #[.pointer (some ⟨n.1,0,none⟩)] 220)).grown h aN (λq f=>(A.o.lt q f).1));have Z:=y.o.size;obtain ⟨⟨n0,_⟩,_,hsn⟩:=fP ((y.o.block _ B).t N.o);have F:=I ((K.o.alloc (.cells #[.pointer (some ⟨n.1,0,none⟩)] 220)).kept h (Sm K.o A.o ai));have M:=I m;clear h m;apply I;go_wp2_with (at_builtin;refine km _ rfl (.tmp 31) (.tmp 36) 24 rfl w.heap.size 9 i0 (zG []) 1 16 underlying24 hi R T hz2 rfl ai (.slice U (G o) co) (G o) (strs o) rfl (F.o.alloc _) ⟨w2.heap.size,0,none⟩ 1 1 [.string ⟨n.2.nm.toArray⟩] rfl rfl (λq u f=>bC w2 [.string ⟨n.2.nm.toArray⟩] 9 q u f) (λu hu=>nw) jM ae aN ?_;intro v3 w3 l b _;apply Hid.o);have Y:=I ((y.o.alloc Z (.cells #[.string ⟨n.2.nm.toArray⟩] 9)).grown b aN (λq f=>(F.o.lt q f).1));have Tt:=I ((M.o.alloc (.cells #[.string ⟨n.2.nm.toArray⟩] 9)).kept b (Sm M.o F.o ai));have X:=I l;clear b l;apply I;go_wp2;go_roundg (G fs - (j+1))
    case measure=>omega
    case rel=>exact ⟨j+1,k++[n],o++[n.2.nm],ae,ae,aN,aN,ez,z,I (by rw [b6];simpa [cA] using Tt.o),I (by rw [b6];simpa [strs] using X.o),Y⟩
  ·have O:¬ (j:Int)<((G fs):Int):=ae;go_wp2;go_ret;have e1:aO [x] fs=k:=by
    rw [HH.o,nY ae];simp [aO]
   rw [e1];exact ⟨_,rfl,Q.o,s.o⟩
def Sn:(prog.info? 223).map (λi=>i.size)=some 7:=aD
def FD (b:Nat) (w:zW):(binOp .eql 220 (zJ b) (zJ b)).run prog w=.ok (.bool true) w:=by
 obtain ⟨i,a,_⟩:=oF.1 Sn;exact run_eql_ptr_same w _ underlying220 a
def Dz {S:Nat->Prop} {b g:Nat} {f m:Fd} (w:zW) (h:fB w S b f) (k:fB w S g m) (j:b≠g):(binOp .eql 220 (zJ b) (zJ g)).run prog w=.ok (.bool false) w:=by
 obtain ⟨i,o,hs⟩:=oF.1 Sn;obtain ⟨_,_,_,_,a,l,c,n,_⟩:=h;obtain ⟨_,_,_,_,r,q,p,d,_⟩:=k;exact run_eql_ptr_other w underlying220 o ae (λe=>j (eL Addr.block e)) n d
def qI {S:Nat->Prop} (a:Option zD) (c b d:Nat) (fs:List (Nat × Fd)) (w:zW) (hs:Sh w S a fs) (z:(G fs)<=1000) (l:d<G fs) (s:(fs[d]).1=b) (p:∀ i (h:i<G fs),i<d->(fs[i]).1≠b) :
  zC prog 165 #[.slice a (G fs) c,zJ b] w λe w'=>e=.returned (zI d)/\w=w':=by
 have m:=I hs;have u:=I p;have r:=I s;clear hs p s;go_in;go_wp2_with fail;go_loopg [5,8] (G fs) (λgk _ y wr=>wr=w/\∃ j:Nat,j<=d/\(G fs)<=j+gk/\y=zI j)
 case atStart=>exact ⟨rfl,0,bE _,ae,rfl⟩
 case round=>
  obtain ⟨rfl,j,B,v,rfl⟩:=hrel;obtain ⟨g,o,rfl,A,x⟩:=m.o.ptr j ae;have q:(j:Int)<((G fs):Int):=ae;by_cases t:j=d
  ·subst t;rw [r.o] at x;have k:=FD b wr;go_wp2;go_ret;exact ⟨rfl,rfl⟩
  ·have n:=u.o j ae ae;have f:=Dz wr (r.o▸m.o.bX fs[d] (bt l)) (m.o.bX fs[j] (bt ae)) (λh=>n h.symm);go_wp2;go_roundg (G fs - (j+1))
   case measure=>omega
   case rel=>exact ⟨rfl,j+1,ae,ae,ez⟩
def acY (n:Nat) (w:zW) (p:n<=1000) :
  zC prog 193 #[zN,zI n] w λe w'=>∃ v,e=.returned v/\w'.ownsRow w.heap.size 220 1 v 0 []/\zB w w':=by
 have j:¬ (n:Int)<0:=ae;obtain ⟨k,l,b,h,d⟩:=fe oX;by_cases o:n=0
 ·subst o;go_in;go_wp2;go_ret;exact ⟨_,rfl,eW _ _ _ _,aM _ _⟩
 ·have m:(0:Int)<(n:Int):=ae;go_in;have a:=Lib.run_append_nil_zeros (P:=prog) w 101 3 101 220 k (.pointer none) .i64 .i64 underlying101 underlying3 l b n ae ae ae (by rw [d];omega);have i:=I a;have g:=grownCap_ge w n 0 220;have c:=grownCap_le_maxLen w n 0 220 jM;generalize grownCap w n 0 220=f at *;clear a;go_wp2_with (at_builtin;refine Lib.wpList_append_run _ rfl _ _ _ _ rfl _ _ rfl rfl _ _ i.o ?_);go_ret;exact ⟨_,rfl,⟨aq,Or.inr ⟨w.heap.size,f,_,rfl,aG _,bL w _,bE _,c,by simp [size_zeroCells];omega,aq⟩⟩,(bZ _).drew⟩
def addr_add (g o j:Nat):(⟨g,o,none⟩:zD).add j=⟨g,o+j,none⟩:=by
 unfold Addr.add;split<;>simp_all
def lI (w:zW) (v:zV) (fs:List (Nat × Fd)):Prop:=∃ (a:Option zD) (c:Nat),v=.slice a (G fs) c/\(a=none->c=0)/\∀ j (h:j<G fs),∃ g o,a=some ⟨g,o,none⟩/\g<w.heap.size/\w.cell? ⟨g,o+j,none⟩=some (.pointer (some ⟨(fs[j]).1,0,none⟩))
def lI.next {w w':zW} {v:zV} {fs:List (Nat × Fd)} (h:lI w v fs) (d:zB w w'):lI w' v fs:=by
 obtain ⟨a,c,e,k,h⟩:=h;refine ⟨a,c,e,k,λj i=>?_⟩;obtain ⟨g,o,f,b,l⟩:=h j i;exact ⟨g,o,f,bG b d.size,(d.cell (p:=⟨g,o+j,none⟩) b).t l⟩
def b9:List (List (Nat × Fd))->List (Nat × Fd)
 | []=>[]
 | x::r=>x++b9 r
def yb (a b:List (List (Nat × Fd))):b9 (a++b)=b9 a++b9 b:=by
 induction a with
 | nil=>rfl
 | cons x a c=>simp [b9,c]
def DA (a:List (List (Nat × Fd))) (i:Nat) (h:i<G a):b9 (a.take (i+1))=b9 (a.take i)++a[i]:=by
 rw [show a.take (i+1)=a.take i++[a[i]] by rw [List.take_add_one,cU h];rfl,yb];simp [b9]
def DB (a:List (List (Nat × Fd))) (i:Nat):(b9 (a.take i)).length<=(b9 a).length:=by
 have:=eL (λx=>(b9 x).length) (wa i a);simp only [yb,b6] at this;omega
def rK (c:List (List (Nat × Fd))) (S:List zV) (E cc:Nat) (w:zW) (hvl:(G S)=G c) (X:E<w.heap.size) (hc:∀ i (h:i<G c),w.cell? ⟨E,i,none⟩=some (S[i]'ae)/\lI w (S[i]'ae) c[i]) (hl:(b9 c).length<=500) (hpl:(G c)<=10) :
  zC prog 164 #[zS E (G c) cc] w λe w'=>∃ v,e=.returned v/\w'.ownsRow w.heap.size 220 1 v (b9 c).length (cA (b9 c))/\zB w w':=by
 obtain ⟨i1,gi,Q,T,O⟩:=fe oX;have HC:=I hc;clear hc;go_in;go_wp2_with fail;go_loopg [3,5,11] (G c) (λgk s3 _ V wr=>wr=w/\∃ i:Nat,i<=G c/\(G c)<=i+gk/\V=zI i/\s3=zI ((b9 (c.take i)).length:Int))
 case atStart=>exact ⟨rfl,0,bE _,ae,rfl,rfl⟩
 case round=>
  obtain ⟨hw,i,hi,U,rfl,rfl⟩:=hrel;obtain rfl:=hw.symm;by_cases t:i<G c
  ·obtain ⟨f,l,c0⟩:∃ f l,w.cell? ⟨E,i,none⟩=some (.slice f (c[i]).length l):=by
    obtain ⟨c0,f,l,R,_⟩:=HC.o i t;exact ⟨f,l,by rw [c0,R]⟩
   have K:(i:Int)<((G c):Int):=ae;have h1:=DB c i;have h2:=DB c (i+1);have e1:(b9 (c.take (i+1))).length=(b9 (c.take i)).length+(c[i]).length:=by rw [DA c i t,b6]
   generalize (c[i]).length=n at *;generalize (b9 (c.take i)).length=m at *;go_wp2;go_roundg (G c - (i+1))
   case measure=>omega
   case rel=>exact ⟨rfl,i+1,ae,ae,ez,by rw [e1];go_num⟩
  ·have K:¬ (i:Int)<((G c):Int):=ae;obtain rfl:i=(G c):=ae;rw [tq];have HG:=I (acY (b9 c).length w ae);have F:=I (show ∀ i,(b9 (c.take i)).length<=500 from λi=>bf (DB c i) hl);generalize M:(b9 c).length=nn at HG;have Gh:=I M;clear M;go_wp2_with (go_at_call 193;refine mo HG.o ?_;rintro e w1 ⟨v,rfl,z,J⟩);have HO:=I z;have HB:=I J;clear z J HG;apply I;go_wp2_with fail;go_loopg [6,8,27] (G c) (λgk s6 _ Z wr=>∃ i:Nat,i<=G c/\(G c)<=i+gk/\Z=zI i/\Hid (wr.ownsRow w.heap.size 220 1 s6 (b9 (c.take i)).length (cA (b9 (c.take i))))/\Hid (zB w wr))
   case atStart=>exact ⟨0,bE _,ae,rfl,HO,HB⟩
   case round=>
    obtain ⟨i,hi,U,rfl,y,d⟩:=hrel;have L:=d.o.size;by_cases t:i<G c
    ·have C:(i:Int)<((G c):Int):=ae;obtain ⟨f,l,c0,B,HP⟩:∃ f l,w.cell? ⟨E,i,none⟩=some (.slice f (c[i]).length l)/\(f=none->l=0)/\Hid (∀ j (h:j<(c[i]).length),∃ g o,f=some ⟨g,o,none⟩/\g<w.heap.size/\w.cell? ⟨g,o+j,none⟩=some (.pointer (some ⟨((c[i])[j]).1,0,none⟩))):=by
      obtain ⟨c0,f,l,R,hn,hp⟩:=HC.o i t;exact ⟨f,l,by rw [c0,R],hn,hp⟩
     have d0:=(d.o.cell (p:=⟨E,i,none⟩) X).t c0;have N:=I (DA c i t);have hm1:=F.o i;have D7:=F.o (i+1);have e1:(b9 (c.take (i+1))).length=(b9 (c.take i)).length+(c[i]).length:=by rw [N.o,b6]
     generalize c[i]=A at *;clear c0;cases f with
     | none=>
      have h0:A=[]:=by
       rcases A with _|⟨x,r⟩
       ·rfl
       ·obtain ⟨g,o,h1,_⟩:=HP.o 0 aq;cases h1
      subst h0;obtain rfl:=B rfl;have D:=I (show wr.ownsRow w.heap.size 220 1 u6 (b9 (c.take (i+1))).length (cA (b9 (c.take (i+1)))) by rw [N.o,iq];exact y.o);go_wp2_with (at_builtin;refine Bv rfl (.tmp 31) (.tmp 32) 101 rfl w.heap.size 220 i1 1 underlying101 gi u6 (b9 (c.take i)).length (cA (b9 (c.take i))) rfl y.o rfl ?_);go_roundg (G c - (i+1))
      case measure=>omega
      case rel=>exact ⟨i+1,ae,ae,ez,D,d⟩
     | some P=>
      have HN:=I (show ∀ j u,(cA A)[j]?=some u->wr.cell? (P.add j)=some u from λj u W=>by
       have H:j<(G A):=by
        have:=(fI.1 W).1;simpa [cA] using this
       obtain ⟨g,o,h1,h2,h3⟩:=HP.o j H;obtain rfl:P=⟨g,o,none⟩:=vP;rw [addr_add,d.o.cell (p:=⟨g,o+j,none⟩) h2,h3];simp [cA,H] at W;rw [<- W])
      go_wp2_with (at_builtin;refine km _ rfl (.tmp 31) (.tmp 32) 101 rfl w.heap.size 220 i1 (.pointer none) 1 8 underlying101 gi Q T O rfl ai u6 (b9 (c.take i)).length (cA (b9 (c.take i))) rfl y.o P (G A) l (cA A) rfl yL HN.o (λu hu=>ZX) jM ae L ?_;intro v' w2 k s _;apply Hid.o);have D:=I (show w2.ownsRow w.heap.size 220 1 v' (b9 (c.take (i+1))).length (cA (b9 (c.take (i+1)))) by
       rw [N.o,b6,show cA (b9 (c.take i)++A)=cA (b9 (c.take i))++cA A from yL];exact k)
      have Y:=I (d.o.grown s L (λq hq=>(y.o.lt q hq).1));clear s k;apply I;go_wp2;go_roundg (G c - (i+1))
      case measure=>omega
      case rel=>exact ⟨i+1,ae,ae,ez,D,Y⟩
    ·have C:¬ (i:Int)<((G c):Int):=ae;obtain rfl:i=(G c):=ae;go_wp2;go_ret;have:=y.o;rw [tq] at this;exact ⟨_,rfl,this,d.o⟩
section
attribute [local go_sem] addr_add
def Sh.part {w:zW} {S:Nat->Prop} {g o:Nat} {fs:List (Nat × Fd)} (h:Sh w S (some ⟨g,o,none⟩) fs) (i n c:Nat) (m:i+n<=G fs):lI w (.slice (some ⟨g,o+i,none⟩) n c) ((fs.drop i).take n):=by
 have b:((fs.drop i).take n).length=n:=aN;refine ⟨_,c,by rw [b],λh=>ir,λj e=>?_⟩;rw [b] at e;obtain ⟨k,l,a,d,f⟩:=h.ptr (i+j) ae;simp at a;obtain ⟨rfl,rfl⟩:=a;refine ⟨g,o+i,rfl,h.still g d,?_⟩;rw [oJ,f];simp
def lI.empty (w:zW) (a:zD) (c:Nat):lI w (.slice (some a) 0 c) []:=⟨some a,c,rfl,λh=>ir,λj hj=>G9⟩
def eK (fs:List (Nat × Fd)) (at_ j:Nat):List (Nat × Fd):=b9 [fs.take j,(fs.drop at_).take 1,(fs.drop j).take (at_ - j),fs.drop (at_+1)]
def Qs {S:Nat->Prop} (a:Option zD) (c at_ b:Nat) (fs:List (Nat × Fd)) (w:zW) (hs:Sh w S a fs) (hl:(G fs)<=100) (D:at_<G fs) (R:b<at_) (T:∀ i (h:i<G fs),i<at_->(fs[i]).1≠(fs[at_]).1) (O:aC (fs[at_]).2.nm (fs[b]).2.p=true) (U:∀ i (h:i<G fs),i<b->aC (fs[at_]).2.nm (fs[i]).2.p=false) (V:(G fs)<=c) :
  zC prog 216 #[.slice a (G fs) c,.pointer (some ⟨(fs[at_]).1,0,none⟩)] w λe w'=>∃ v,e=.returned v/\w'.ownsRow w.heap.size 220 1 v (eK fs at_ b).length (cA (eK fs at_ b))/\zB w w':=by
 have HI:=I (λW (L:zB w W)=>qI a c (fs[at_]).1 at_ fs W (hs.next L) ae D rfl T);have Z:=I (λW (L:zB w W) (hB:W.cell? ⟨w.heap.size,0,none⟩=some (.pointer (some ⟨(fs[at_]).1,0,none⟩))) (P:w.heap.size<W.heap.size)=>(FE a at_ c (zJ w.heap.size) W (λj=>((fs[j]?).map λx=>x.1).getD 0) (λj=>((fs[j]?).map λx=>aC (fs[at_]).2.nm x.2.p).getD false) ae (λj hj=>by
  obtain ⟨g,o,h1,E,N⟩:=(hs.next L).ptr j ae;refine ⟨g,o,h1,bG (hs.still g E) L.size,?_⟩;rw [N];simp [show j<(G fs) from ae]) (λj hj W' l=>by
  have J:j<(G fs):=ae;have C:=(hs.next L).next l;have:=ac0 (S:=S) w.heap.size (fs[at_]).1 (fs[j]).1 (fs[at_]).2 (fs[j]).2 W' C.still (C.bX _ (bt D)) (C.bX _ (bt J)) ((l.cell (p:=⟨w.heap.size,0,none⟩) P).t hB);simpa [J] using this)).m (R':=λr w'=>r=.returned (zI b)/\zB W w') (by
   rintro r w' ⟨z,rfl,hz,l⟩;refine ⟨?_,l⟩;rcases hz with ⟨_,E⟩|⟨j,hj,rfl,E,N⟩
   ·have:=E b R;simp [show b<(G fs) from ae,O] at this
   ·have e:j=b:=by
     rcases Nat.lt_trichotomy j b with h|h|h
     ·simp [show j<(G fs) from ae,U j ae h] at E
     ·exact h
     ·have:=N b h;simp [show b<(G fs) from ae,O] at this
    rw [e]))
 obtain ⟨d,f,rfl,_,_⟩:=hs.ptr at_ D;have X:(at_:Int)<=((G fs):Int):=ae;have hcz:(at_:Int)<=(c:Int):=ae;have z1:¬ (b:Int)<0:=ae;have z2:(b:Int)<=(c:Int):=ae;have z3:(at_:Int)<=(at_:Int)+1:=ae;have z4:(at_:Int)+1<=(c:Int):=ae;have z5:(b:Int)<=(at_:Int):=ae;have z6:(at_:Int)+1<=((G fs):Int):=ae;have z7:((G fs):Int)<=(c:Int):=ae;have y1:¬ c=at_:=ae;have y2:¬ c=b:=ae;have y4:¬ at_=0:=ae;have hwr:IntKind.i64.wrap ((at_:Int)+1)=(at_:Int)+1:=GD;have z8:(at_:Int)<100:=ae;have z9:at_+1<=c:=ae;have z10:at_<c:=ae;have z11:at_<=c:=ae;have z12:b<=c:=ae;have z13:b<=at_:=ae;have z14:at_+1<=(G fs):=ae;have Y:=I hs;clear hs T O U;generalize (fs[at_]).1=q at *;go_in;go_wp2_with (first|(go_at_call 165;refine (HI.o _ (bZ _)).m ?_;rintro e w1 ⟨rfl,rfl⟩;clear HI)|(go_at_call 236;refine mo (Z.o _ (bZ _) aq aq) ?_;rintro e w1 ⟨rfl,K⟩));have F:=I (((aM w.heap.size w).alloc (aG _) (.cells #[zJ q] 220)).t (K.m aq));clear K Z;apply I;have k:=I (show ∀ (c4:Nat) (u:zD),lI w1 (.slice (some u) (G fs - (at_+1)) c4) (fs.drop (at_+1))->zC prog 164 #[zS w1.heap.size 4 4] (w1.alloc (.cells #[.slice (some ⟨d,f,none⟩) b c,.slice (some ⟨d,f+at_,none⟩) 1 (c - at_),.slice (some ⟨d,f+b,none⟩) (at_ - b) (c - b),.slice (some u) (G fs - (at_+1)) c4] 101)).drew λe w'=>∃ A ln cn,e=.returned (.slice A ln cn)/\w'.ownsRow w.heap.size 220 1 (.slice A ln cn) (eK fs at_ b).length (cA (eK fs at_ b))/\zB w w' from λc4 u h4=>by
  have m:=Y.o.next F.o;have n:zB w1 (w1.alloc (.cells #[.slice (some ⟨d,f,none⟩) b c,.slice (some ⟨d,f+at_,none⟩) 1 (c - at_),.slice (some ⟨d,f+b,none⟩) (at_ - b) (c - b),.slice (some u) (G fs - (at_+1)) c4] 101)).drew:=(bZ _).drew;have H:(w1.alloc (.cells #[.slice (some ⟨d,f,none⟩) b c,.slice (some ⟨d,f+at_,none⟩) 1 (c - at_),.slice (some ⟨d,f+b,none⟩) (at_ - b) (c - b),.slice (some u) (G fs - (at_+1)) c4] 101)).drew.heap[w1.heap.size]?=some (.cells #[.slice (some ⟨d,f,none⟩) b c,.slice (some ⟨d,f+at_,none⟩) 1 (c - at_),.slice (some ⟨d,f+b,none⟩) (at_ - b) (c - b),.slice (some u) (G fs - (at_+1)) c4] 101 (0,0)):=bL w1 _;have JY:(w1.alloc (.cells #[.slice (some ⟨d,f,none⟩) b c,.slice (some ⟨d,f+at_,none⟩) 1 (c - at_),.slice (some ⟨d,f+b,none⟩) (at_ - b) (c - b),.slice (some u) (G fs - (at_+1)) c4] 101)).drew.heap.size=w1.heap.size+1:=aq;generalize (w1.alloc (.cells #[.slice (some ⟨d,f,none⟩) b c,.slice (some ⟨d,f+at_,none⟩) 1 (c - at_),.slice (some ⟨d,f+b,none⟩) (at_ - b) (c - b),.slice (some u) (G fs - (at_+1)) c4] 101)).drew=W at *;have B:=m.next n;obtain ⟨⟨r0,r1,r2,r3⟩,_,_⟩:=aX H;have p0:lI W (.slice (some ⟨d,f,none⟩) b c) (fs.take b):=by
   have:=B.part 0 b c ae;simpa using this
  have p1:=B.part at_ 1 (c - at_) ae;have p2:=B.part b (at_ - b) (c - b) ae;have p3:=h4.next n;refine (rK [fs.take b,(fs.drop at_).take 1,(fs.drop b).take (at_ - b),fs.drop (at_+1)] [.slice (some ⟨d,f,none⟩) b c,.slice (some ⟨d,f+at_,none⟩) 1 (c - at_),.slice (some ⟨d,f+b,none⟩) (at_ - b) (c - b),.slice (some u) (G fs - (at_+1)) c4] w1.heap.size 4 W rfl ae (λi hi=>?_) ?_ aq).m ?_
  ·exact Xi
  ·simp [b9];omega
  ·rintro r w' ⟨v,rfl,y,l⟩;obtain ⟨A,ln,cn,rfl⟩:=b7 y;exact ⟨A,ln,cn,rfl,dS y (bf F.o.size n.size),F.o.t ((n.t (l.m n.size)).m F.o.size)⟩)
 have m:=Y.o.next F.o;by_cases y3:c=at_+1
 ·have t:=I (k.o 0 ⟨d,f,none⟩ (by
   have e1:(G fs) - (at_+1)=0:=ae;rw [e1,nY ae];exact lI.empty _ _ _))
  subst y3;rw [show (G fs) - (at_+1)=0 from ae,show at_+1 - at_=1 from ae] at t;clear k m;go_wp2_with fail
  go_region_with (first|(go_at_call 164;refine t.o.m ?_;rintro r w3 ⟨A,ln,cn,rfl,y,s⟩;have M:=I y;have Q:=I s;clear y s))
  all_goals go_wp2
  all_goals refine aK (v:=.slice A ln cn) aau gN ?_
  all_goals exact ⟨_,rfl,M.o,Q.o⟩
 ·have t:=I (k.o (c - (at_+1)) ⟨d,f+(at_+1),none⟩ (by
   have:=m.part (at_+1) (G fs - (at_+1)) (c - (at_+1)) ae;rw [qy aq] at this;exact this))
  clear k m;go_wp2_with fail
  go_region_with (first|(go_at_call 164;refine t.o.m ?_;rintro r w3 ⟨A,ln,cn,rfl,y,s⟩;have M:=I y;have Q:=I s;clear y s))
  all_goals go_wp2
  all_goals refine aK (v:=.slice A ln cn) aau gN ?_
  all_goals exact ⟨_,rfl,M.o,Q.o⟩
end
inductive eZ (w:zW) (P:Nat->Prop):Nat->List (Nat × Fd)->Prop
 | last (b:Nat) (f:Nat × Fd):P b->w.heap[b]?=some (.cells #[.pointer (some ⟨f.1,0,none⟩),.pointer none] 344 (0,0))->eZ w P b [f]
 | more (b b':Nat) (f g:Nat × Fd) (r:List (Nat × Fd)):P b->w.heap[b]?=some (.cells #[.pointer (some ⟨f.1,0,none⟩),zJ b'] 344 (0,0))->eZ w P b' (g::r)->eZ w P b (f::g::r)
def eZ.keep {w w':zW} {P P':Nat->Prop} {b:Nat} {e:List (Nat × Fd)} (h:eZ w P b e) (i:∀ q,P q->q<w.heap.size->w'.heap[q]?=w.heap[q]?/\P' q):eZ w' P' b e:=by
 induction h with
 | last b f d h=>
  obtain ⟨a,c⟩:=i b d (cz.1 h).1;exact .last b f c (a.t h)
 | more b k f g r d h _ j=>
  obtain ⟨a,c⟩:=i b d (cz.1 h).1;exact .more b k f g r c (a.t h) j
def eZ.next {w w':zW} {P:Nat->Prop} {b:Nat} {a:List (Nat × Fd)} (h:eZ w P b a) (d:zB w w'):eZ w' P b a:=h.keep λq e c=>⟨d.block q c,e⟩
def eZ.head {w:zW} {P:Nat->Prop} {b:Nat} {d:List (Nat × Fd)} (h:eZ w P b d):∃ f r c,d=f::r/\w.heap[b]?=some (.cells #[.pointer (some ⟨f.1,0,none⟩),.pointer c] 344 (0,0))/\((r=[]/\c=none)\/∃ a,c=some ⟨a,0,none⟩/\eZ w P a r):=by
 cases h with
 | last b f _ h=>exact ⟨f,[],none,rfl,h,Or.inl ⟨rfl,rfl⟩⟩
 | more b a f g r _ h e=>exact ⟨f,g::r,some ⟨a,0,none⟩,rfl,h,Or.inr ⟨a,rfl,e⟩⟩
def Qz {P:Nat->Prop} (b:Nat) (i:List (Nat × Fd)) (w:zW) (h:eZ w P b i) (F:(G i)<=500) :
  zC prog 235 #[zJ b] w λr w'=>∃ v,r=.returned v/\w'.ownsRow w.heap.size 220 1 v (G i) (cA i)/\zB w w':=by
 obtain ⟨N,O,z,s,t⟩:=fe oX;have L:=I h;clear h;go_in;go_wp2_with fail;go_loopg [0,3] (G i+1) (λgk H s3 wr=>∃ (e rs:List (Nat × Fd)),i=e++rs/\(G rs)<gk/\((rs=[]/\H=.pointer none)\/∃ m,H=zJ m/\Hid (eZ w P m rs))/\Hid (wr.ownsRow w.heap.size 220 1 s3 (G e) (cA e))/\Hid (zB w wr))
 case atStart=>exact ⟨[],i,rfl,ae,Or.inr ⟨b,rfl,L⟩,eW _ _ _ _,aM _ _⟩
 case round=>
  obtain ⟨e,rs,g,E,B,y,o⟩:=hrel;have p:=o.o.size;rcases B with ⟨rfl,rfl⟩|⟨m,rfl,x⟩
  ·go_wp2;go_ret;rw [iq] at g;rw [g];exact ⟨_,rfl,y.o,o.o⟩
  ·obtain ⟨f,r,T,rfl,a,l⟩:=x.o.head;have n:=(cz.1 a).1;obtain ⟨⟨Q,R⟩,_,_⟩:=cq ((o.o.block m n).t a);have A:=I l;have j:=I a;have K:(G e)+1+G r<=500:=by rw [g] at F;simp at F;omega
   clear a l;go_wp2_with (at_builtin;refine km _ rfl (.tmp 10) (.tmp 15) 101 rfl w.heap.size 220 N (.pointer none) 1 8 underlying101 O z s t rfl ai u3 (G e) (cA e) rfl (y.o.alloc _) ⟨wr.heap.size,0,none⟩ 1 1 [.pointer (some ⟨f.1,0,none⟩)] rfl rfl (λq u D=>bC wr [.pointer (some ⟨f.1,0,none⟩)] 220 q u D) (λu hu=>nw) jM ae aN ?_;intro v' w2 c d _;apply Hid.o);have k:=I ((o.o.alloc p (.cells #[.pointer (some ⟨f.1,0,none⟩)] 220)).grown d aN (λq D=>(y.o.lt q D).1));have C:=I (show w2.ownsRow w.heap.size 220 1 v' (e++[f]).length (cA (e++[f])) by rw [b6];simpa [cA] using c);obtain ⟨⟨S,U⟩,_,_⟩:=cq ((k.o.block m n).t j.o);clear d c;apply I;go_wp2;go_roundg (G r+1)
   case measure=>simp at E;omega
   case rel=>
    refine ⟨e++[f],r,by rw [g];simp,ae,?_,C,k⟩;rcases A.o with ⟨rfl,rfl⟩|⟨J,rfl,M⟩
    ·exact Or.inl ⟨rfl,rfl⟩
    ·exact Or.inr ⟨J,rfl,M⟩
def DC (g:Nat × Fd) (l:Nat × List (Nat × Fd)):Bool:=match l.2 with|[]=>false|h::_=>aC h.2.nm g.2.p
def Vg {g h:Nat × Fd} {l:Nat × List (Nat × Fd)} {r:List (Nat × Fd)} (e:l.2=h::r):DC g l=aC h.2.nm g.2.p:=by simp [DC,e]
def qZ (g f:Nat × Fd) (a:List (Nat × List (Nat × Fd))):Option (List (Nat × Fd)):=
 if g.1=f.1 then some [f] else (a.find? (DC g)).map λl=>g::l.2
def ac1 {α:Type} (p:α->Bool) (l:List α) (k:Nat) (h:k<G l) (b:∀ j (hj:j<G l),j<k->p l[j]=false) (a:p l[k]=true):l.find? p=some l[k]:=by
 induction l generalizing k with
 | nil=>simp at h
 | cons x l e=>
  cases k with
  | zero=>simp at a;simp [a]
  | succ k=>
   have c:p x=false:=b 0 aq ae;rw [List.find?_cons_of_neg (by simp [c])];exact e k jP (λj hj d=>b (j+1) oT ae) a
def ac2 {α:Type} (p:α->Bool) (l:List α) (b:∀ j (a:j<G l),p l[j]=false):l.find? p=none:=by
 rw [rp];intro x c;obtain ⟨j,a,rfl⟩:=e9 c;simp [b j a]
def sj (P:Nat->Prop) (g f:Nat × Fd) (a:List (Nat × List (Nat × Fd))) (w:zW) (r:Ending) (w':zW):Prop:=
 zB w w'/\match qZ g f a with|none=>r=.returned (.pointer none)|some ch=>∃ b,r=.returned (zJ b)/\w.heap.size<=b/\eZ w' (λq=>P q\/w.heap.size<=q) b ch
def QB {S P:Nat->Prop} (g f:Nat × Fd) (a:List (Nat × List (Nat × Fd))) (al:Option zD) (cl:Nat) (w:zW) (hS:∀ q,S q->q<w.heap.size) (hg:fB w S g.1 g.2) (hf:fB w S f.1 f.2) (hl:(G a)<=500)
  (y:∀ j (h:j<G a),eZ w P (a[j]).1 (a[j]).2/\(∀ x,x∈(a[j]).2->fB w S x.1 x.2)/\∃ O,al=some ⟨O,0,none⟩/\O<w.heap.size/\w.cell? ⟨O,j,none⟩=some (.pointer (some ⟨(a[j]).1,0,none⟩))) :
  zC prog 234 #[.pointer (some ⟨g.1,0,none⟩),.pointer (some ⟨f.1,0,none⟩),.slice al (G a) cl] w (sj P g f a w):=by
 by_cases V:g.1=f.1
 ·have aqe:=FD f.1 w;have U:=I V;have n:=I (show ∀ w1 b,zB w w1->w.heap.size<=b->eZ w1 (λq=>P q\/w.heap.size<=q) b [f]->sj P g f a w (.returned (zJ b)) w1 from λw1 b L F h3=>by
   unfold sj qZ;rw [aB U.o];exact ⟨L,b,rfl,F,h3⟩)
  rw [V];clear y;go_in;go_wp2;go_ret;exact n.o _ _ (bZ _) (aG _) (.last _ f (Or.inr (aG _)) (bL w _))
 ·have R:=Dz w hg hf V;have HLS:=I y;have U:=I V;have t:=I (show ∀ w1 l b,zB w w1->a.find? (DC g)=some l->w.heap.size<=b->eZ w1 (λq=>P q\/w.heap.size<=q) b (g::l.2)->sj P g f a w (.returned (zJ b)) w1 from λw1 l b L F h3 h4=>by
   unfold sj qZ;rw [aA U.o,F];exact ⟨L,b,rfl,h3,h4⟩)
  have u:=I (show ∀ w1,zB w w1->a.find? (DC g)=none->sj P g f a w (.returned (.pointer none)) w1 from λw1 L F=>by
   unfold sj qZ;rw [aA U.o,F];exact ⟨L,rfl⟩)
  obtain ⟨_,_,_,_,a1,l1,c1,A,hP⟩:=hg;have X:=(cz.1 A).1;have HG:=I A;have HM:=I (λx W (hW:zB w W)=>jh x g.2.p a1 l1 c1 W (hP.next λq Q=>hW.block q (hS q Q)) (λq Q=>bG (hS q Q) hW.size));clear y A hP hf;go_in;go_wp2_with fail;go_loopg [8,17] (G a) (λgk _ Z wr=>∃ j:Nat,j<=G a/\(G a)<=j+gk/\Z=zI j/\Hid (zB w wr)/\Hid (∀ i (hi:i<G a),i<j->DC g a[i]=false))
  case atStart=>exact YF
  case round=>
   obtain ⟨j,hj,xA,rfl,o,D⟩:=hrel;by_cases M:j<G a
   ·have N:(j:Int)<((G a):Int):=ae;obtain ⟨r,B,O,rfl,H,hp⟩:=HLS.o j M;have hp':=(o.o.cell (p:=⟨O,j,none⟩) H).t hp;obtain ⟨h,rr,nx,m,d,_⟩:=r.head;have hlb:=(cz.1 d).1;obtain ⟨⟨k0,_⟩,_,_⟩:=cq ((o.o.block _ hlb).t d);have K:=B h (by rw [m];exact il);have hhl:=K.lt;obtain ⟨_,_,_,_,a2,l2,c2,E,_⟩:=K;obtain ⟨⟨n0,_⟩,_,_⟩:=fP ((o.o.block _ hhl).t E);obtain ⟨⟨_,j1,j2,j3,j4,_⟩,_,_⟩:=fP ((o.o.block g.1 X).t HG.o);have T:=I (HM.o h.2.nm wr.drew o.o.drew);have c:=o.o.size;have HLA:=I (r.next o.o);have s:DC g a[j]=aC h.2.nm g.2.p:=Vg m;clear hp d E;cases C:aC h.2.nm g.2.p with
    | true=>
     have n:=I (ac1 (DC g) a j M (λi hi h=>D.o i hi h) (by rw [s,C]));have HCH:=I m;rw [C] at T;clear C s D m r B;generalize a[j]=lj at *;go_wp2_with fail
     go_region_with (first|(go_at_call 195;refine T.o.m ?_;rintro e w1 ⟨rfl,k⟩;have z:=I k;clear k))
     all_goals go_wp2
     all_goals refine aK (v:=zJ w1.heap.size) (by simp [results,results234,go_sem]) gN ?_
     all_goals refine t.o _ _ _ ((o.o.drew.t (z.o.m c)).alloc (bf c z.o.size) _) n.o (bf c z.o.size) ?_
     all_goals have J:=((HLA.o.next ((aM _ _).drew.t z.o)).next (bZ (.cells #[.pointer (some ⟨g.1,0,none⟩),.pointer (some ⟨lj.1,0,none⟩)] 344))).keep (P':=λq=>P q\/w.heap.size<=q) λq Q _=>⟨rfl,Or.inl Q⟩
     all_goals rw [HCH.o] at J ⊢
     all_goals exact .more _ lj.1 g h rr (Or.inr (bf c z.o.size)) (bL w1 _) J
    | false=>
     have Y:=I (show ∀ i (hi:i<G a),i<j+1->DC g a[i]=false from λi hi h=>by
      by_cases e:i=j
      ·subst e;rw [s,C]
      ·exact D.o i hi ae)
     rw [C] at T;clear C s D m r B;generalize a[j]=lj at *;go_wp2_with fail
     go_region_with (first|(go_at_call 195;refine T.o.m ?_;rintro e w1 ⟨rfl,k⟩;have z:=I k;clear k))
     all_goals go_wp2
     all_goals go_roundg (G a - (j+1))
     all_goals try (case measure=>omega)
     all_goals exact ⟨j+1,ae,ae,ez,o.o.drew.t (z.o.m c),Y⟩
   ·have N:¬ (j:Int)<((G a):Int):=ae;go_wp2;go_ret;exact u.o _ o.o (ac2 _ _ λi hi=>D.o i hi ae)
section
attribute [local go_sem] addr_add
def yZ (g:Nat × Fd) (a:List (Nat × Fd)):Bool:=match a with|[]=>false|h::_=>aC h.2.nm g.2.p
def dW (g f:Nat × Fd) (b:List (List (Nat × Fd))):Option (List (Nat × Fd)):=if g.1=f.1 then some [f] else (b.find? (yZ g)).map λa=>g::a
def Ax (g f:Nat × Fd) (a:List (Nat × List (Nat × Fd))):qZ g f a=dW g f (a.map Prod.snd):=by
 unfold qZ dW;split
 ·rfl
 ·rw [oI];have:(yZ g ∘ Prod.snd)=DC g:=by
   funext l;rfl
  rw [this];cases a.find? (DC g)<;>rfl
def DD {g f:Nat × Fd} {e:List (Nat × List (Nat × Fd))} {i:List (Nat × Fd)} {k:Nat} (h:dW g f (e.map Prod.snd)=some i) (j:∀ l,l∈e->G l.2<=k):(G i)<=k+1:=by
 unfold dW at h;split at h
 ·cases h;simp
 ·obtain ⟨m,a,d⟩:=oF.1 h;obtain ⟨l,c,b⟩:=bU.1 (vK a);have:=j l c;rw [b] at this;rw [<- d];simp;exact this
inductive Uo where
 | ok (st mv:List (Nat × Fd))
 | dZ (ch:List (Nat × Fd))
def dB (f:Nat × Fd):List (Nat × Fd)->List (Nat × Fd)->List (Nat × Fd)->List (List (Nat × Fd))->Uo
 | [],st,mv,_=>.ok st mv
 | g::r,st,mv,a=>match dW g f a with
  | none=>dB f r (st++[g]) mv a
  | some b=>if aC g.2.nm f.2.p then .dZ b else dB f r st (mv++[g]) (a++[b])
def xu (a:List (Nat × List (Nat × Fd))):List zV:=a.map λl=>.pointer (some ⟨l.1,0,none⟩)
def DF (a c b:zV) (q:Nat):Prop:=a.ownBlock≠some q/\c.ownBlock≠some q/\b.ownBlock≠some q
def uD {w w':zW} {base z n:Nat} {e:TypeId} {v:zV} {xs:List zV} (h:w.ownsRow base e z v n xs) (k:∀ q,v.ownBlock=some q->w'.heap[q]?=w.heap[q]?):w'.ownsRow base e z v n xs:=by
 obtain ⟨c,d⟩:=h;refine ⟨c,d.imp id ?_⟩;rintro ⟨g,a,b,rfl,f,j,i⟩;exact ⟨g,a,b,rfl,f,(k g rfl).t j,i⟩
structure QD (S:Nat->Prop) (w wr:zW) (f:Nat × Fd) (gs:List (Nat × Fd)) (s6 s7 s8:zV) (k:Nat) (st mv:List (Nat × Fd)) (ls:List (Nat × List (Nat × Fd))):Prop where
 eq:dB f gs [] [] []=dB f (gs.drop k) st mv (ls.map Prod.snd)
 o6:wr.ownsRow w.heap.size 220 1 s6 (G st) (cA st)
 o7:wr.ownsRow w.heap.size 220 1 s7 (G mv) (cA mv)
 o8:wr.ownsRow w.heap.size 323 1 s8 (G ls) (xu ls)
 d67:∀ q,s6.ownBlock=some q->s7.ownBlock≠some q
 d68:∀ q,s6.ownBlock=some q->s8.ownBlock≠some q
 d78:∀ q,s7.ownBlock=some q->s8.ownBlock≠some q
 lk:∀ l,l∈ls->eZ wr (DF s6 s7 s8) l.1 l.2/\∀ x,x∈l.2->fB w S x.1 x.2
 cnt:(G st)+G mv=k/\(G ls)=G mv
 len:∀ l,l∈ls->G l.2<=k
 sub:∀ x,x∈st++mv->x∈gs
 bS:zB w wr
def IV (fs:List (Nat × Fd)) (at_ last:Nat) (r:Uo) (w:zW) (e:Ending) (w':zW):Prop:=
 zB w w'/\match r with
 | .ok st mv=>∃ v,e=.returned (.tuple #[v,zN])/\w'.ownsRow w.heap.size 220 1 v (b9 [fs.take at_,st,mv,fs.drop (last+1)]).length (cA (b9 [fs.take at_,st,mv,fs.drop (last+1)]))
 | .dZ a=>∃ v,e=.returned (.tuple #[zN,v])/\w'.ownsRow w.heap.size 220 1 v (G a) (cA a)
def QD.stay {S:Nat->Prop} {w wr w1 w2:zW} {f g:Nat × Fd} {gs:List (Nat × Fd)} {c j r v':zV} {k:Nat} {st mv:List (Nat × Fd)} {p:List (Nat × List (Nat × Fd))} (h:QD S w wr f gs c j r k st mv p) (hk:k<G gs) (hg:gs[k]=g) (hq:dW g f (p.map Prod.snd)=none)
  (b:zB wr w1) (a:w1.grownBy w2 c.ownBlock) (d:w2.ownsRow w.heap.size 220 1 v' (G st+1) (cA st++[.pointer (some ⟨g.1,0,none⟩)])) (o:v'.ownBlock=c.ownBlock\/∃ q,v'.ownBlock=some q/\wr.heap.size<=q):QD S w w2 f gs v' j r (k+1) (st++[g]) mv p:=by
 have v:=h.bS.size;have B:=b.size;have z:∀ q,c.ownBlock=some q->w.heap.size<=q/\q<wr.heap.size:=h.o6.lt;have s:∀ q,j.ownBlock=some q->w.heap.size<=q/\q<wr.heap.size:=h.o7.lt;have t:∀ q,r.ownBlock=some q->w.heap.size<=q/\q<wr.heap.size:=h.o8.lt;have blk:∀ q,q<wr.heap.size->c.ownBlock≠some q->w2.heap[q]?=wr.heap[q]?:=λq hq y=>(a.block q ae (λe=>y e.symm)).t (b.block q hq);have n:∀ q,v'.ownBlock=some q->c.ownBlock=some q\/wr.heap.size<=q:=λq hq=>by
  rcases o with h1|⟨C,h1,h2⟩
  ·exact Or.inl (h1▸hq)
  ·exact Np
 have A:gs.drop k=g::gs.drop (k+1):=aai;refine ⟨?_,?_,?_,?_,?_,?_,h.d78,?_,?_,λl i=>Nat.le_succ_of_le (h.len l i),?_,?_⟩
 ·rw [h.eq,A];simp only [dB,hq]
 ·rw [b6,show cA (st++[g])=cA st++[.pointer (some ⟨g.1,0,none⟩)] from yL];exact d
 ·exact uD h.o7 λq hq=>blk q (s q hq).2 (λe=>h.d67 q e hq)
 ·exact uD h.o8 λq hq=>blk q (t q hq).2 (λe=>h.d68 q e hq)
 ·intro q hq e;rcases n q hq with h1|h1
  ·exact h.d67 q h1 e
  ·have:=(s q e).2;omega
 ·intro q hq e;rcases n q hq with h1|h1
  ·exact h.d68 q h1 e
  ·have:=(t q e).2;omega
 ·intro l i;obtain ⟨h1,h2⟩:=h.lk l i;refine ⟨h1.keep λq hq m=>⟨blk q m hq.1,?_,hq.2.1,hq.2.2⟩,h2⟩;intro e;rcases n q e with u|u
  ·exact hq.1 u
  ·omega
 ·have:=h.cnt;simp;omega
 ·intro x hx;simp at hx;rcases hx with hx|rfl|hx
  ·exact h.sub x iE
  ·rw [<- hg];exact bt hk
  ·exact h.sub x iE
 ·exact ⟨a.os.t (b.os.t h.bS.os),a.tape.t (b.tape.t h.bS.tape),a.output.t (b.output.t h.bS.output),by have:=a.size;omega,λq hq=>(blk q ae (λe=>by have:=(z q e).1;omega)).t (h.bS.block q hq)⟩
def QD.move {S:Nat->Prop} {w wr w1 w2 w3 w4:zW} {f g:Nat × Fd} {gs:List (Nat × Fd)} {v o p v7 v8:zV} {k b:Nat} {st mv H:List (Nat × Fd)} {A:List (Nat × List (Nat × Fd))} (h:QD S w wr f gs v o p k st mv A) (hk:k<G gs) (hg:gs[k]=g) (hq:dW g f (A.map Prod.snd)=some H) (X:aC g.2.nm f.2.p=false)
  (M:∀ x,x∈gs->fB w S x.1 x.2) (hf:fB w S f.1 f.2)
  (m:zB wr w1) (T:eZ w1 (λq=>DF v o p q\/wr.heap.size<=q) b H)
  (d:w1.grownBy w2 o.ownBlock) (j:w2.ownsRow w.heap.size 220 1 v7 (G mv+1) (cA mv++[.pointer (some ⟨g.1,0,none⟩)])) (C:v7.ownBlock=o.ownBlock\/∃ q,v7.ownBlock=some q/\w1.heap.size<=q)
  (i:zB w2 w3) (a:w3.grownBy w4 p.ownBlock) (B:w4.ownsRow w.heap.size 323 1 v8 (G A+1) (xu A++[zJ b])) (D:v8.ownBlock=p.ownBlock\/∃ q,v8.ownBlock=some q/\w2.heap.size<=q) :
  QD S w w4 f gs v v7 v8 (k+1) st (mv++[g]) (A++[(b,H)]):=by
 have W:=h.bS.size;have hs1:=m.size;have hs2:=d.size;have Y:=i.size;have J:∀ q,v.ownBlock=some q->w.heap.size<=q/\q<wr.heap.size:=h.o6.lt;have U:∀ q,o.ownBlock=some q->w.heap.size<=q/\q<wr.heap.size:=h.o7.lt;have F:∀ q,p.ownBlock=some q->w.heap.size<=q/\q<wr.heap.size:=h.o8.lt;have P:∀ q,v7.ownBlock=some q->w.heap.size<=q/\q<w2.heap.size:=j.lt;have u:∀ q,q<w1.heap.size->o.ownBlock≠some q->p.ownBlock≠some q->w4.heap[q]?=w1.heap[q]?:=λq hq L N=>(a.block q ae (λe=>N e.symm)).t ((i.block q ae).t (d.block q hq (λe=>L e.symm)));have blk:∀ q,q<wr.heap.size->o.ownBlock≠some q->p.ownBlock≠some q->w4.heap[q]?=wr.heap[q]?:=λq hq L N=>(u q ae L N).t (m.block q hq);have t:∀ q,v7.ownBlock=some q->o.ownBlock=some q\/w1.heap.size<=q:=λq hq=>by
  rcases C with h1|⟨q',h1,h2⟩
  ·exact Or.inl (h1▸hq)
  ·exact Np
 have y:∀ q,v8.ownBlock=some q->p.ownBlock=some q\/w2.heap.size<=q:=λq hq=>by
  rcases D with h1|⟨q',h1,h2⟩
  ·exact Or.inl (h1▸hq)
  ·exact Np
 have Z:gs.drop k=g::gs.drop (k+1):=aai;have E:∀ q,q<w1.heap.size->DF v o p q->DF v v7 v8 q:=λq hq z=>by
  refine ⟨z.1,λe=>?_,λe=>?_⟩
  ·rcases t q e with c|c
   ·exact z.2.1 c
   ·omega
  ·rcases y q e with c|c
   ·exact z.2.2 c
   ·omega
 refine ⟨?_,?_,?_,?_,?_,?_,?_,?_,?_,?_,?_,?_⟩
 ·rw [h.eq,Z];simp only [dB,hq,X];simp
 ·exact uD h.o6 λq hq=>blk q (J q hq).2 (λe=>h.d67 q hq e) (λe=>h.d68 q hq e)
 ·rw [b6,show cA (mv++[g])=cA mv++[.pointer (some ⟨g.1,0,none⟩)] from yL];refine uD j λq hq=>(a.block q (by have:=(P q hq).2;omega) (λe=>?_)).t (i.block q (P q hq).2);rcases t q hq with c|c
  ·exact h.d78 q c e.symm
  ·have:=(F q e.symm).2;omega
 ·rw [b6,show xu (A++[(b,H)])=xu A++[zJ b] by simp [xu]];exact B
 ·intro q hq e;rcases t q e with c|c
  ·exact h.d67 q hq c
  ·have:=(J q hq).2;omega
 ·intro q hq e;rcases y q e with c|c
  ·exact h.d68 q hq c
  ·have:=(J q hq).2;omega
 ·intro q hq e;rcases y q e with c|c
  ·rcases t q hq with V|V
   ·exact h.d78 q V c
   ·have:=(F q c).2;omega
  ·have:=(P q hq).2;omega
 ·intro l r;simp at r;rcases r with r|rfl
  ·obtain ⟨h1,h2⟩:=h.lk l r;exact ⟨h1.keep λq n s=>⟨blk q s n.2.1 n.2.2,E q ae n⟩,h2⟩
  ·refine ⟨T.keep λq n s=>?_,?_⟩
   ·have z:DF v o p q:=by
     rcases n with h1|h1
     ·exact h1
     ·exact ⟨λe=>by have:=(J q e).2;omega,λe=>by have:=(U q e).2;omega,λe=>by have:=(F q e).2;omega⟩
    exact ⟨u q s z.2.1 z.2.2,E q s z⟩
   ·intro x hx;unfold dW at hq;split at hq
    ·cases hq;simp at hx;rw [hx];exact hf
    ·obtain ⟨c',O,Q⟩:=oF.1 hq;subst Q;simp at hx;rcases hx with rfl|hx
     ·exact M _ (by rw [<- hg];exact bt hk)
     ·obtain ⟨l,R,K⟩:=bU.1 (vK O);exact (h.lk l R).2 x (by rw [K];exact hx)
 ·have:=h.cnt;simp;omega
 ·intro l r;simp at r;rcases r with r|rfl
  ·exact Nat.le_succ_of_le (h.len l r)
  ·exact DD hq h.len
 ·intro x hx;simp at hx;rcases hx with hx|hx|rfl
  ·exact h.sub x iE
  ·exact h.sub x iE
  ·rw [<- hg];exact bt hk
 ·exact ⟨a.os.t (i.os.t (d.os.t (m.os.t h.bS.os))),a.tape.t (i.tape.t (d.tape.t (m.tape.t h.bS.tape))),a.output.t (i.output.t (d.output.t (m.output.t h.bS.output))),by have:=a.size;omega,λq hq=>(blk q ae (λe=>by have:=(U q e).1;omega) (λe=>by have:=(F q e).1;omega)).t (h.bS.block q hq)⟩
end
def mX (on:List By) (fs:List (Nat × Fd)):∀ x,x∈aO on fs->x∈fs:=by
 induction fs generalizing on with
 | nil=>intro x a;simp [aO] at a
 | cons f r b=>
  intro x a;unfold aO at a;split at a
  ·rcases bQ.1 a with rfl|h
   ·exact il
   ·exact ki _ (b _ x h)
  ·exact ki _ (b _ x a)
def Cy (on:List By) (fs:List (Nat × Fd)):(aO on fs).length<=(G fs):=by
 induction fs generalizing on with
 | nil=>simp [aO]
 | cons f r a=>
  unfold aO;split
  ·have:=a (on++[f.2.nm]);simp;omega
  ·have:=a on;simp;omega
def Sh.OS {w:zW} {S:Nat->Prop} {a i:Option zD} {fs k:List (Nat × Fd)} {B z:Nat} (h:Sh w S a fs) (c:∀ x,x∈k->x∈fs) (ho:w.ownsRow B 220 1 (.slice i (G k) z) (G k) (cA k)) (r:∀ f,f∈fs->f.1<B):Sh w (λq=>S q\/∃ o,i=some ⟨q,o,none⟩) i k:=by
 have d:∀ q o,i=some ⟨q,o,none⟩->B<=q/\q<w.heap.size/\o=0:=λq o b=>by
  subst b;rcases ho.2 with ⟨e,_⟩|⟨g,cap,p,e,l,m,_⟩
  ·simp at e
  ·simp at e;obtain ⟨⟨rfl,rfl⟩,_⟩:=e;exact ⟨l,(cz.1 m).1,rfl⟩
 refine ⟨λq b=>?_,λj hj=>?_,λx n=>?_⟩
 ·rcases b with b|⟨o,b⟩
  ·exact h.still q b
  ·exact (d q o b).2.1
 ·exact Xb
 ·obtain ⟨e,l,m,v,u,t,c1,y,s⟩:=h.bX x (c x n);refine ⟨?_,l,m,v,u,t,c1,y,s.wide λq b=>Or.inl b⟩;rintro (b|⟨o,b⟩)
  ·exact e b
  ·have:=(d _ o b).1;have:=r x (c x n);omega
def Sh.ks {P:Nat->Prop} {w w':zW} {S:Nat->Prop} {a:Option zD} {fs:List (Nat × Fd)} (h:Sh w S a fs) (c:Ks P w w') (i:∀ q,S q->¬ P q) (m:∀ f,f∈fs->¬ P f.1):Sh w' S a fs:=by
 refine ⟨λq b=>bG (h.still q b) c.size,λj l=>?_,λx e=>(h.bX x e).stays (c.block _ (h.bX x e).lt (m x e)) λq b=>c.block q (h.still q b) (i q b)⟩;obtain ⟨g,o,k,d,n⟩:=h.ptr j l;exact ⟨g,o,k,d,(nu (a:=⟨g,o+j,none⟩) (c.block g (h.still g d) (i g d))).t n⟩
def Sh.afC {w:zW} {S:Nat->Prop} {d:Option zD} {k:List (Nat × Fd)} {B y:Nat} (n:∀ q,S q->q<w.heap.size) (h:∀ x,x∈k->fB w S x.1 x.2) (ho:w.ownsRow B 220 1 (.slice d (G k) y) (G k) (cA k)) (p:∀ f,f∈k->f.1<B):Sh w (λq=>S q\/∃ o,d=some ⟨q,o,none⟩) d k:=by
 have b:∀ q o,d=some ⟨q,o,none⟩->B<=q/\q<w.heap.size:=λq o a=>by
  subst a;rcases ho.2 with ⟨c,_⟩|⟨g,cap,m,c,e,i,_⟩
  ·simp at c
  ·simp at c;obtain ⟨⟨rfl,rfl⟩,_⟩:=c;exact ⟨e,(cz.1 i).1⟩
 refine ⟨λq a=>?_,λj hj=>?_,λx l=>?_⟩
 ·rcases a with a|⟨o,a⟩
  ·exact n q a
  ·exact (b q o a).2
 ·exact Xb
 ·obtain ⟨c,e,i,u,t,s,c1,v,r⟩:=h x l;refine ⟨?_,e,i,u,t,s,c1,v,r.wide λq a=>Or.inl a⟩;rintro (a|⟨o,a⟩)
  ·exact c a
  ·have:=(b _ o a).1;have:=p x l;omega
def lJ (x:By):List (Nat × Fd)->Option Nat
 | []=>none
 | g::r=>if aC x g.2.p then some 0 else (lJ x r).map (·+1)
def xp {x:By}:∀ {fs:List (Nat × Fd)},lJ x fs=none->∀ i (h:i<G fs),aC x (fs[i]).2.p=false
 | [],_,i,h=>oV
 | g::r,a,i,h=>by
  unfold lJ at a;split at a
  ·cases a
  ·rename_i b;cases i with
   | zero=>simpa using b
   | succ i=>
    have:lJ x r=none:=by
     cases c:lJ x r with
     | none=>rfl
     | some k=>rw [c] at a;cases a
    exact xp this i jP
def ng {x:By}:∀ {fs:List (Nat × Fd)} {j:Nat},lJ x fs=some j->∃ h:j<G fs,aC x (fs[j]).2.p=true/\∀ i (hi:i<G fs),i<j->aC x (fs[i]).2.p=false
 | [],j,h=>ir
 | g::r,j,h=>by
  unfold lJ at h;split at h
  ·rename_i hg;cases h;exact ⟨aq,tH,λi hi h=>ae⟩
  ·rename_i hg;obtain ⟨k,a,rfl⟩:=oF.1 h;obtain ⟨h1,h2,c⟩:=ng a;refine ⟨vP,tI,λi hi b=>?_⟩;cases i with
   | zero=>simpa using hg
   | succ i=>exact c i tG ae
def kT (p:Pt):List (Nat × Fd)->Option Nat
 | []=>none
 | g::r=>match kT p r with
  | some k=>some (k+1)
  | none=>if aC g.2.nm p then some 0 else none
def sg {p:Pt}:∀ {fs:List (Nat × Fd)},kT p fs=none->∀ i (h:i<G fs),aC (fs[i]).2.nm p=false
 | [],_,i,h=>oV
 | g::r,a,i,h=>by
  unfold kT at a;cases b:kT p r with
  | some k=>rw [b] at a;cases a
  | none=>
   rw [b] at a;simp only at a;split at a
   ·cases a
   ·rename_i c;cases i with
    | zero=>simpa using c
    | succ i=>exact sg b i jP
def si {p:Pt}:∀ {fs:List (Nat × Fd)} {j:Nat},kT p fs=some j->∃ h:j<G fs,aC (fs[j]).2.nm p=true/\∀ i (hi:i<G fs),j<i->aC (fs[i]).2.nm p=false
 | [],j,h=>ir
 | g::r,j,h=>by
  unfold kT at h;cases a:kT p r with
  | some k=>
   rw [a] at h;simp only at h;cases h;obtain ⟨h1,h2,c⟩:=si a;refine ⟨vP,tI,λi hi b=>?_⟩;cases i with
   | zero=>omega
   | succ i=>exact c i tG ae
  | none=>
   rw [a] at h;simp only at h;split at h
   ·rename_i hg;cases h;refine ⟨aq,tH,λi hi b=>?_⟩;cases i with
    | zero=>omega
    | succ i=>exact sg a i tG
   ·cases h
inductive Ek where
 | ok (gs:List (Nat × Fd))
 | dZ (ch:List (Nat × Fd))
def bY (fs:List (Nat × Fd)) (at_:Nat) (f:Nat × Fd):List (Nat × Fd) × Nat:=match lJ f.2.nm (fs.take at_) with|none=>(fs,at_)|some j=>(eK fs at_ j,j)
def jW (fs:List (Nat × Fd)) (at_:Nat) (f:Nat × Fd):Ek:=match kT f.2.p fs with
 | none=>.ok fs
 | some l=>if l<at_ then .ok fs else match dB f ((fs.drop at_).take (l+1 - at_)) [] [] [] with
  | .ok st mv=>.ok (b9 [fs.take at_,st,mv,fs.drop (l+1)])
  | .dZ a=>.dZ a
def dL (fs:List (Nat × Fd)) (at_:Nat) (f:Nat × Fd):Ek:=jW (bY fs at_ f).1 (bY fs at_ f).2 f
def qT (f:Nat × Fd):∀ (gs st mv:List (Nat × Fd)) (d:List (List (Nat × Fd))) (b a:List (Nat × Fd)),dB f gs st mv d=.ok b a->∀ x,x∈b++a->x∈st++mv++gs
 | [],st,mv,d,b,a,h,x,c=>by
  simp only [dB] at h;cases h;simpa using c
 | g::r,st,mv,d,b,a,h,x,c=>by
  simp only [dB] at h;split at h
  ·have:=qT f r _ _ _ _ _ h x c;simp at this ⊢;rcases this with h1|h1|h1|h1
   ·exact Or.inl h1
   ·exact Ca
   ·exact Or.inr (Or.inl h1)
   ·exact Or.inr (Or.inr (Or.inr h1))
  ·split at h
   ·cases h
   ·have:=qT f r _ _ _ _ _ h x c;simp at this ⊢;rcases this with h1|h1|h1|h1
    ·exact Or.inl h1
    ·exact Or.inr (Or.inl h1)
    ·exact Ca
    ·exact Or.inr (Or.inr (Or.inr h1))
def yF (f:Nat × Fd):∀ (gs st mv:List (Nat × Fd)) (c:List (List (Nat × Fd))) (a b:List (Nat × Fd)),dB f gs st mv c=.ok a b->G a+G b=G st+G mv+G gs
 | [],st,mv,c,a,b,h=>by
  simp only [dB] at h;cases h;simp
 | g::r,st,mv,c,a,b,h=>by
  simp only [dB] at h;split at h
  ·exact Y7
  ·split at h
   ·cases h
   ·exact Y7
def Qr {S:Nat->Prop} (a:Option zD) (c at_:Nat) (fs:List (Nat × Fd)) (w:zW) (hs:Sh w S a fs) (D:(G fs)<=1000) (d:at_<G fs) (t:∀ i (h:i<G fs),i<at_->(fs[i]).1≠(fs[at_]).1) (s:∀ i (h:i<G fs),i<at_->aC (fs[at_]).2.nm (fs[i]).2.p=false) (v:(G fs)<=c) :
  zC prog 216 #[.slice a (G fs) c,.pointer (some ⟨(fs[at_]).1,0,none⟩)] w λe w'=>e=.returned (.slice a (G fs) c)/\zB w w':=by
 have H:=I (λW (m:zB w W)=>qI a c (fs[at_]).1 at_ fs W (hs.next m) D d rfl t);have C:=I (λW (m:zB w W) (A:W.cell? ⟨w.heap.size,0,none⟩=some (.pointer (some ⟨(fs[at_]).1,0,none⟩))) (r:w.heap.size<W.heap.size)=>FE a at_ c (zJ w.heap.size) W (λj=>((fs[j]?).map λx=>x.1).getD 0) (λ_=>false) ae (λj u=>by
  obtain ⟨g,o,E,F,M⟩:=(hs.next m).ptr j ae;refine ⟨g,o,E,bG (hs.still g F) m.size,?_⟩;rw [M];simp [show j<(G fs) from ae]) (λj u J k=>by
  have f:j<(G fs):=ae;have b:=(hs.next m).next k;have:=ac0 (S:=S) w.heap.size (fs[at_]).1 (fs[j]).1 (fs[at_]).2 (fs[j]).2 J b.still (b.bX _ (bt d)) (b.bX _ (bt f)) ((k.cell (p:=⟨w.heap.size,0,none⟩) r).t A);rw [s j f u] at this;simpa [f] using this))
 have y:(at_:Int)<=((G fs):Int):=ae;have B:(at_:Int)<=(c:Int):=ae;obtain ⟨O,N,rfl,_,_⟩:=hs.ptr at_ d;clear hs t s;generalize (fs[at_]).1=q at *;go_in;go_wp2_with (first|(go_at_call 165;refine (H.o _ (bZ _)).m ?_;rintro e w1 ⟨rfl,rfl⟩)|(go_at_call 236;refine mo (C.o _ (bZ _) aq aq) ?_;rintro e w1 ⟨z,rfl,K,l⟩));have n:z = -1:=by
  rcases K with ⟨h,_⟩|⟨_,_,_,h,_⟩
  ·exact h
  ·cases h
 subst n;have L:=I (((aM w.heap.size w).alloc (aG _) (.cells #[zJ q] 220)).t (l.m aq));clear l;apply I;go_wp2;go_ret;exact ⟨rfl,L.o⟩
def Aw {S:Nat->Prop} (a:Option zD) (c at_:Nat) (fs:List (Nat × Fd)) (w:zW) (hs:Sh w S a fs) (m:(G fs)<=1000) (d:at_<G fs) (n:∀ i (h:i<G fs),i<at_->(fs[i]).1≠(fs[at_]).1) (l:∀ i (h:i<G fs),at_<=i->aC (fs[i]).2.nm (fs[at_]).2.p=false) :
  zC prog 215 #[.slice a (G fs) c,.pointer (some ⟨(fs[at_]).1,0,none⟩)] w λe w'=>e=.returned (.tuple #[.slice a (G fs) c,zN])/\zB w w':=by
 have p:=I (λW (f:zB w W)=>qI a c (fs[at_]).1 at_ fs W (hs.next f) m d rfl n);have r:=I (λW (f:zB w W)=>(FH a c (fs[at_]).1 (fs[at_]).2 fs W (hs.next f) m ((hs.next f).bX _ (bt d))).m (R':=λe w'=>∃ z:Int,e=.returned (zI z)/\z<(at_:Int)/\zB W w') (by
  rintro e w' ⟨z,rfl,o,g⟩;refine ⟨z,rfl,?_,g⟩;rcases o with ⟨rfl,_⟩|⟨j,t,rfl,k,_⟩
  ·omega
  ·rcases cC j at_ with h|h
   ·omega
   ·rw [l j t h] at k;cases k))
 clear hs n l;generalize (fs[at_]).1=q at *;go_in;go_wp2_with (first|(go_at_call 165;refine (p.o _ (aM _ _)).m ?_;rintro e w1 ⟨rfl,rfl⟩)|(go_at_call 233;refine mo (r.o _ (aM _ _)) ?_;rintro e w1 ⟨z,rfl,o,b⟩));have s:=I b;clear b;apply I;go_wp2;go_ret2;exact ⟨rfl,s.o⟩
def NM (g h:Nat × Fd):Prop:=aC h.2.nm g.2.p=false
def Db (fs:List (Nat × Fd)):Prop:=fs.Pairwise NM/\∀ g,g∈fs->NM g g
def Hd (a:List (List (Nat × Fd))) (mv:List (Nat × Fd)):Prop:=a.map List.head?=mv.map some
def Hd.snoc {b:List (List (Nat × Fd))} {mv a:List (Nat × Fd)} {g:Nat × Fd} (h:Hd b mv) (c:a.head?=some g):Hd (b++[a]) (mv++[g]):=by
 unfold Hd at *;simp [h,c]
def Hd.not {b:List (List (Nat × Fd))} {mv:List (Nat × Fd)} {g f:Nat × Fd} (h:Hd b mv) (a:dW g f b=none):∀ m,m∈mv->NM g m:=by
 intro m j;unfold dW at a;split at a
 ·cases a
 ·have i:b.find? (yZ g)=none:=by
   cases e:b.find? (yZ g) with
   | none=>rfl
   | some x=>rw [e] at a;cases a
  have:some m∈b.map List.head?:=by
   rw [h];exact iJ j
  obtain ⟨l,k,c⟩:=bU.1 this;have d:=rp.1 i l k;cases l with
  | nil=>cases c
  | cons x r=>
   simp at c;subst c;simpa [yZ,NM] using d
def Lp {g f:Nat × Fd} {d:List (List (Nat × Fd))} {b:List (Nat × Fd)} (a:g.1≠f.1) (h:dW g f d=some b):b.head?=some g:=by
 unfold dW at h;rw [aA a] at h;obtain ⟨c,_,rfl⟩:=oF.1 h;rfl
def zt (f:Nat × Fd):∀ (b st mv:List (Nat × Fd)) (k:List (List (Nat × Fd))) (d c:List (Nat × Fd)),(∀ g,g∈b->g.1≠f.1)->b.Pairwise NM->Hd k mv->dB f b st mv k=.ok d c ->
  ∃ e mq,d=st++e/\c=mv++mq/\e.Sublist b/\mq.Sublist b/\(∀ g,g∈mq->NM f g)/\(∀ g,g∈e->∀ m,m∈mv->NM g m)/\(∀ g,g∈e->∀ m,m∈mq->NM g m)
 | [],st,mv,k,d,c,_,_,_,h=>by
  simp only [dB] at h;cases h;exact ⟨[],[],aq,aq,yr _,yr _,aq,aq,aq⟩
 | g::r,st,mv,k,d,c,j,w,u,h=>by
  have i:=td.1 w;have t:=j g aq;simp only [dB] at h;cases n:dW g f k with
  | none=>
   rw [n] at h;obtain ⟨e,mq,rfl,rfl,p,l,v,o,s⟩:=zt f r _ _ _ _ _ (λx hx=>j x iE) i.2 u h;refine ⟨g::e,mq,aq,rfl,p.cons_cons g,l.cons g,v,λx hx m a=>?_,λx hx m a=>?_⟩
   ·rcases bQ.1 hx with rfl|hx
    ·exact u.not n m a
    ·exact o x hx m a
   ·rcases bQ.1 hx with rfl|hx
    ·exact i.1 m (l.subset a)
    ·exact s x hx m a
  | some y=>
   rw [n] at h;simp only at h;split at h
   ·cases h
   ·rename_i q;obtain ⟨e,mq,rfl,rfl,p,l,v,o,s⟩:=zt f r _ _ _ _ _ (λx hx=>j x iE) i.2 (u.snoc (Lp t n)) h;refine ⟨e,g::mq,rfl,aq,p.cons g,l.cons_cons g,λx hx=>?_,λx hx m a=>o x hx m (by simp [a]),λx hx m a=>?_⟩
    ·rcases bQ.1 hx with rfl|hx
     ·simpa [NM] using q
     ·exact v x hx
    ·rcases bQ.1 a with rfl|a
     ·exact o x hx m aq
     ·exact s x hx m a
def om (A B:List (Nat × Fd)) (f:Nat × Fd):∃ L M,(bY (A++f::B) (G A) f).1=L++f::M/\(bY (A++f::B) (G A) f).2=G L/\L++M=A++B/\∀ g,g∈L->NM g f:=by
 have d:(A++f::B).take (G A)=A:=aq;unfold bY;rw [d];cases hF:lJ f.2.nm A with
 | none=>
  refine ⟨A,B,rfl,rfl,rfl,λg b=>?_⟩;obtain ⟨i,hi,rfl⟩:=e9 b;exact xp hF i hi
 | some j=>
  obtain ⟨l,_,k⟩:=ng hF;refine ⟨A.take j,A.drop j++B,?_,aN,by rw [<- kI,wa],λg b=>?_⟩
  ·have e1:(A++f::B).take j=A.take j:=by rw [F6 ae]
   have c:((A++f::B).drop (G A)).take 1=[f]:=aq;have e:((A++f::B).drop j).take (G A - j)=A.drop j:=by
    rw [List.drop_append_of_le_length ae,F6 aq];exact qy aq
   have h:(A++f::B).drop (G A+1)=B:=by
    rw [List.drop_append];simp
   simp only [eK,b9,e1,c,e,h];simp
  ·obtain ⟨i,hi,rfl⟩:=e9 b;have a:i<j:=zM;rw [List.getElem_take];exact k i ae a
def ve {c d:List (Nat × Fd)}:(c++d).Pairwise NM↔c.Pairwise NM/\d.Pairwise NM/\∀ a,a∈c->∀ b,b∈d->NM a b:=Bw
def Qv (A B gs:List (Nat × Fd)) (f:Nat × Fd) (K:(A++B).Pairwise NM) (hs:∀ g,g∈A++B->NM g g) (S:∀ g,g∈A++B->g.1≠f.1) (h:dL (A++f::B) (G A) f=.ok gs):Db gs:=by
 obtain ⟨L,M,e1,e2,Z,t⟩:=om A B f;unfold dL at h;rw [e1,e2] at h;rw [<- Z] at K hs S;obtain ⟨J,H,j⟩:=ve.1 K;have e:(∀ m,m∈M->NM f m)->NM f f->Db (L++f::M):=λR W=>by
  refine ⟨ve.2 ⟨J,td.2 ⟨R,H⟩,λa d b c=>?_⟩,λg hg=>?_⟩
  ·rcases bQ.1 c with rfl|c
   ·exact t a d
   ·exact j a d b c
  ·simp at hg;rcases hg with hg|rfl|hg
   ·exact hs g rI
   ·exact W
   ·exact hs g rI
 unfold jW at h;cases v:kT f.2.p (L++f::M) with
 | none=>
  rw [v] at h;cases h;have O:∀ x,x∈L++f::M->NM f x:=λx r=>by
   obtain ⟨i,hi,rfl⟩:=e9 r;exact sg v i hi
  exact e (λm q=>O m (by simp [q])) (O f aq)
 | some l=>
  obtain ⟨R,_,Q⟩:=si v;have p:∀ i (hi:i<G M),l<G L+1+i->NM f M[i]:=λi hi U=>by
   have:=Q (G L+1+i) aN U;rw [Bt ae] at this;simpa [NM,show (G L)+1+i - G L=i+1 from ae] using this
  rw [v] at h;simp only at h;split at h
  ·rename_i s;cases h;refine e (λm q=>?_) ?_
   ·obtain ⟨i,hi,rfl⟩:=e9 q;exact p i hi ae
   ·have:=Q (G L) aq s;rw [Bt (aG _)] at this;simpa [NM] using this
  ·rename_i s;have Tn:(G L)<=l:=ae;have d1:((L++f::M).drop (G L)).take (l+1 - G L)=f::M.take (l - G L):=ML;have d2:(L++f::M).drop (l+1)=M.drop (l - G L):=Xp;rw [d1,d2,List.take_left] at h;have X:∀ m,m∈M.drop (l - G L)->NM f m:=λm q=>by
    obtain ⟨i,hi,rfl⟩:=e9 q;rw [List.getElem_drop];exact p _ zM ae
   simp only [dB] at h;have E:dW f f []=some [f]:=by simp [dW]
   rw [E] at h;simp only at h;cases n:aC f.2.nm f.2.p with
   | true=>rw [n] at h;simp at h
   | false=>
    rw [n] at h;simp only [sY,k8,ko] at h;generalize hk:l - G L=k at *;cases F:dB f (M.take k) [] [f] [[f]] with
    | dZ ch=>rw [F] at h;cases h
    | ok st mv=>
     rw [F] at h;cases h;have D:(M.take k).Pairwise NM:=H.sublist (List.take_sublist _ _);obtain ⟨sq,mq,N,r2,y,u,Y,T,V⟩:=zt f (M.take k) [] [f] [[f]] st mv (λg hg=>S g aaI) D (by simp [Hd]) F;simp only [ko] at N;subst N r2;have w:∀ x,x∈M.take k->x∈M:=λx r=>lS r;have P:∀ x,x∈M.drop k->x∈M:=λx r=>lD r;have z:(M.take k++M.drop k).Pairwise NM:=by rw [wa];exact H
     obtain ⟨_,C,o⟩:=ve.1 z;refine ⟨?_,λg hg=>?_⟩
     ·simp only [b9,iq];refine ve.2 ⟨J,ve.2 ⟨D.sublist y,ve.2 ⟨?_,C,?_⟩,?_⟩,?_⟩
      ·simp only [vL];exact td.2 ⟨Y,D.sublist u⟩
      ·intro a d b c;simp at d;rcases d with rfl|d
       ·exact X b c
       ·exact o a (u.subset d) b c
      ·intro a d b c;rcases cG.1 c with c|c
       ·simp at c;rcases c with rfl|c
        ·exact T a d b aq
        ·exact V a d b c
       ·exact o a (y.subset d) b c
      ·intro a d b c;simp at c;rcases c with c|rfl|c|c
       ·exact j a d b (w b (y.subset c))
       ·exact t a d
       ·exact j a d b (w b (u.subset c))
       ·exact j a d b (P b c)
     ·simp [b9] at hg;rcases hg with hg|hg|rfl|hg|hg
      ·exact hs g rI
      ·exact hs g (by simp [w g (y.subset hg)])
      ·exact n
      ·exact hs g (by simp [w g (u.subset hg)])
      ·exact hs g (by simp [P g hg])
def U9 (f:Nat × Fd):List (Nat × Fd)->Prop
 | []=>False
 | [x]=>x=f
 | x::y::r=>aC y.2.nm x.2.p=true/\U9 f (y::r)
def Qw {g f:Nat × Fd} {i:List (List (Nat × Fd))} {mv a:List (Nat × Fd)} (d:g.1≠f.1) (n:∀ l,l∈i->U9 f l/\(∀ x,x∈l->x∈mv)/\(l.map Prod.fst).Nodup) (o:∀ m,m∈mv->g.1≠m.1) (h:dW g f i=some a):U9 f a/\(∀ x,x∈a->x=g\/x∈mv)/\(a.map Prod.fst).Nodup/\∃ r,a=g::r:=by
 unfold dW at h;rw [aA d] at h;obtain ⟨c,e,rfl⟩:=oF.1 h;have k:=vK e;obtain ⟨c1,c2,c3⟩:=n c k;have q:yZ g c=true:=wA e;refine ⟨?_,λx b=>?_,?_,c,rfl⟩
 ·cases c with
  | nil=>exact c1.elim
  | cons y r=>exact ⟨by simpa [yZ] using q,c1⟩
 ·rcases bQ.1 b with rfl|b
  ·exact Or.inl rfl
  ·exact Or.inr (c2 x b)
 ·rw [fL,jB];refine ⟨λp=>?_,c3⟩;obtain ⟨x,b,j⟩:=bU.1 p;exact o x (c2 x b) j.symm
def zu (f:Nat × Fd):∀ (d st mv:List (Nat × Fd)) (o:List (List (Nat × Fd))) (k:List (Nat × Fd)),(∀ g,g∈d->g.1≠f.1)->(d.map Prod.fst).Nodup->(∀ g,g∈d->∀ m,m∈mv->g.1≠m.1)->(∀ l,l∈o->U9 f l/\(∀ x,x∈l->x∈mv)/\(l.map Prod.fst).Nodup)->dB f d st mv o=.dZ k ->
  U9 f k/\(k.map Prod.fst).Nodup/\∃ g r,k=g::r/\aC g.2.nm f.2.p=true
 | [],st,mv,o,k,_,_,_,_,h=>by
  simp only [dB] at h;cases h
 | g::r,st,mv,o,k,j,a,i,p,h=>by
  rw [fL,jB] at a;simp only [dB] at h;cases q:dW g f o with
  | none=>
   rw [q] at h;exact zu f r _ _ _ _ (λx hx=>j x iE) a.2 (λx hx=>i x iE) p h
  | some c=>
   obtain ⟨s,u,t,v,w⟩:=Qw (j g aq) p (i g aq) q;rw [q] at h;simp only at h;split at h
   ·rename_i n;cases h;exact ⟨s,t,g,v,w,n⟩
   ·refine zu f r _ _ _ _ (λx hx=>j x iE) a.2 (λx hx m n=>?_) (λl b=>?_) h
    ·simp at n;rcases n with n|rfl
     ·exact i x iE m n
     ·exact λe=>a.1 (bU.2 ⟨x,hx,e⟩)
    ·simp at b;rcases b with b|rfl
     ·obtain ⟨z,y,A⟩:=p l b;exact ⟨z,λx hx=>by simp [y x hx],A⟩
     ·refine ⟨s,λx hx=>?_,t⟩;rcases u x hx with rfl|hx
      ·simp
      ·simp [hx]
def Tv (A B i:List (Nat × Fd)) (f:Nat × Fd) (q:((A++f::B).map Prod.fst).Nodup) (h:dL (A++f::B) (G A) f=.dZ i):U9 f i/\(i.map Prod.fst).Nodup/\∃ g r,i=g::r/\aC g.2.nm f.2.p=true:=by
 obtain ⟨L,M,e1,s,w,_⟩:=om A B f;have b:((L++M).map Prod.fst).Nodup/\∀ g,g∈L++M->g.1≠f.1:=by
  rw [w];rw [fK,fL] at q;have u:(A.map Prod.fst++f.1::B.map Prod.fst).Perm (f.1::(A.map Prod.fst++B.map Prod.fst)):=sZ;have:=u.nodup_iff.1 q;rw [jB] at this;refine ⟨by rw [fK];exact this.2,λg hg e=>this.1 ?_⟩;rw [<- fK,<- e];exact iJ hg
 unfold dL at h;rw [e1,s] at h;unfold jW at h;cases n:kT f.2.p (L++f::M) with
 | none=>rw [n] at h;cases h
 | some l=>
  rw [n] at h;simp only at h;split at h
  ·cases h
  ·rename_i v;have d1:((L++f::M).drop (G L)).take (l+1 - G L)=f::M.take (l - G L):=ML;rw [d1] at h;simp only [dB] at h;have k:dW f f []=some [f]:=by simp [dW]
   rw [k] at h;simp only at h;cases a:aC f.2.nm f.2.p with
   | true=>
    rw [a] at h;simp at h;subst h;exact ⟨rfl,aq,f,[],rfl,a⟩
   | false=>
    rw [a] at h;simp only [sY,k8,ko] at h;cases j:dB f (M.take (l - G L)) [] [f] [[f]] with
    | ok st mv=>rw [j] at h;cases h
    | dZ c=>
     rw [j] at h;cases h;have d:∀ g,g∈M.take (l - G L)->g.1≠f.1:=λg hg=>b.2 g aaI;refine zu f _ _ _ _ _ d ?_ (λg hg m o=>?_) (λl p=>?_) j
     ·have t:(M.map Prod.fst).Nodup:=by
       have:=b.1;rw [fK] at this;exact (List.nodup_append.1 this).2.1
      exact t.sublist ((List.take_sublist _ _).map _)
     ·simp at o;rw [o];exact d g hg
     ·simp at p;subst p;exact ⟨rfl,λx y=>y,aq⟩
section
def gR (x:By) (ρ e:By->Vl) (h:∀ z,z≠x->ρ z=e z):∀ p,Shape p->aC x p=false->cD ρ p=cD e p
 | .atom k nm n,hs,d=>by
  rcases hs with rfl|rfl|rfl|rfl<;>simp [cD,aC] at d ⊢;exact h nm d
 | .un k a,hs,d=>by
  simp [aC] at d;simp only [cD,gR x ρ e h a hs.2 d.2]
 | .bin k a b,hs,d=>by
  simp [aC] at d;simp only [cD,gR x ρ e h a hs.2.1 d.2.1,gR x ρ e h b hs.2.2 d.2.2]
 | .ifs a b c,hs,d=>by
  simp [aC] at d;simp only [cD,gR x ρ e h a hs.1 d.1,gR x ρ e h b hs.2.1 d.2.1,gR x ρ e h c hs.2.2 d.2.2]
def QC (gs:List (Nat × Fd)) (x:By):(findF gs x).map Prod.snd=(gs.map Prod.snd).find? (λf=>f.nm == x):=by
 rw [oI];rfl
def Uz (gs:List (Nat × Fd)) (x:By):mW gs x=eN (gs.map Prod.snd) x:=by
 rw [mW,eN,<- QC];cases findF gs x<;>rfl
structure Vh (Z w:zW) (e:Nat) (gs:List (Nat × Fd)) (S:Nat->Prop) (a:Option zD) (c:Nat) (U:zV) (M n:Nat) (F:Nat->Prop):Prop where
 low:zB Z w
 he:Z.heap.size<=e
 sh:Sh w S a gs
 row:w.heap[e]?=some (.cells #[.slice a (G gs) c,zI M,U,zN,.bool false,zN] 108 (0,0))
 hf:∀ f,f∈gs->f.1≠e/\Z.heap.size<=f.1
 hS:¬ S e
 ha:a=none->c=0
 own:∃ bs,w.ownsRow Z.heap.size 151 1 U n bs
 sl:∃ ad ld cd,U=.slice ad ld cd
 dn:∀ q,U.ownBlock=some q->q≠e/\¬ S q/\∀ f,f∈gs->f.1≠q
 free:∀ q,F q->Z.heap.size<=q/\q≠e/\¬ S q/\(∀ f,f∈gs->f.1≠q)/\U.ownBlock≠some q
variable {Z w w':zW} {e:Nat} {gs:List (Nat × Fd)} {S F:Nat->Prop} {a:Option zD} {c:Nat} {U:zV} {M n:Nat}
def Vh.lt (h:Vh Z w e gs S a c U M n F):e<w.heap.size:=(cz.1 h.row).1
def Vh.next (h:Vh Z w e gs S a c U M n F) (b:zB w w'):Vh Z w' e gs S a c U M n F:=
 ⟨h.low.t (b.m h.low.size),h.he,h.sh.next b,(b.block e h.lt).t h.row,h.hf,h.hS,h.ha,(by obtain ⟨d,f⟩:=h.own;exact ⟨d,aZ f b⟩),h.sl,h.dn,h.free⟩
def Ed (Z:zW) (M n:Nat) (w:zW) (e:Nat) (fs:List Fd):Prop:=Env Z/\jZ Z/\∃ gs S a c U,fs=gs.map Prod.snd/\Vh Z w e gs S a c U M n (λ_=>False)/\(G gs)<=10
end
def eR (gs:List (Nat × Fd)) (V:Nat->Vl):List (Nat × Fd):=gs.map λg=>(g.1,⟨g.2.nm,g.2.p,V g.1⟩)
def pc (gs:List (Nat × Fd)) (V:Nat->Vl) (y:By):Vl:=match findF gs y with|some f=>V f.1|none=>(3,3)
def uC (V:Nat->Vl) (b:Nat) (v:Vl) (q:Nat):Vl:=if q=b then v else V q
def pg (gs:List (Nat × Fd)):(Nat->Vl)->List (Nat × Fd)->(Nat->Vl)
 | V,[]=>V
 | V,g::r=>pg gs (uC V g.1 (cD (pc gs V) g.2.p)) r
def j8 (gs:List (Nat × Fd)) (hn:(gs.map Prod.fst).Nodup):∃ V,eR gs V=gs/\∀ g,g∈gs->V g.1=g.2.v:=by
 refine ⟨λq=>((gs.find? λg=>g.1 == q).map λg=>g.2.v).getD (0,0),?_,?_⟩
 ·have h:∀ g,g∈gs->((gs.find? λh=>h.1 == g.1).map λg=>g.2.v).getD (0,0)=g.2.v:=λg hg=>by
   rw [nh gs hn g hg];rfl
  unfold eR
  conv=>rhs;rw [<- List.map_id gs]
  refine sB λg hg=>?_;show (g.1,(⟨g.2.nm,g.2.p,((gs.find? λh=>h.1 == g.1).map λg=>g.2.v).getD (0,0)⟩:Fd))=g;rw [h g hg]
 ·intro g hg;simp only;rw [nh gs hn g hg];rfl
 where
 nh (gs:List (Nat × Fd)) (hn:(gs.map Prod.fst).Nodup) (g:Nat × Fd) (hg:g∈gs):(gs.find? λh=>h.1 == g.1)=some g:=by
  induction gs with
  | nil=>simp at hg
  | cons x r ih=>
   rw [fL,jB] at hn;rcases bQ.1 hg with rfl|hg
   ·simp
   ·have hne:x.1≠g.1:=λe=>hn.1 (e▸iJ hg);exact YA
def IQ (gs:List (Nat × Fd)) (V:Nat->Vl) (y:By):findF (eR gs V) y=(findF gs y).map λg=>(g.1,⟨g.2.nm,g.2.p,V g.1⟩):=by
 unfold findF eR;rw [oI];rfl
def pd (gs:List (Nat × Fd)) (V:Nat->Vl):mW (eR gs V)=pc gs V:=by
 funext y;unfold mW pc;rw [IQ];cases findF gs y<;>rfl
def Lq (gs:List (Nat × Fd)) (V:Nat->Vl) (b:Nat) (v:Vl):qH (eR gs V) b v=eR gs (uC V b v):=by
 unfold qH eR;rw [fM];refine sB λg a=>?_;simp only [Function.comp,uC];split<;>rfl
def Es (gs:List (Nat × Fd)) (a:(gs.map Prod.fst).Nodup) (V:Nat->Vl) (g:Nat × Fd) (b:g∈gs):oh (eR gs V) g.1=g.2.p:=by
 unfold oh eR;rw [oI];have:((λf:Nat × Fd=>f.1 == g.1) ∘ λg=>(g.1,(⟨g.2.nm,g.2.p,V g.1⟩:Fd)))=λh:Nat × Fd=>h.1 == g.1:=rfl;rw [this,j8.nh gs a g b];rfl
def rX (gs:List (Nat × Fd)) (a:(gs.map Prod.fst).Nodup):∀ (hs:List (Nat × Fd)) (V:Nat->Vl),(∀ g,g∈hs->g∈gs)->iR (eR gs V) (hs.map λg=>g.1)=eR gs (pg gs V hs)
 | [],V,_=>rfl
 | g::r,V,h=>by
  simp only [fL,iR,pg];rw [Es gs a V g (h g aq),pd,Lq];exact rX gs a r _ λx hx=>h x iE
def FB (gs:List (Nat × Fd)) (c:(gs.map Prod.fst).Nodup) (V:Nat->Vl) (g:Nat × Fd) (i:g∈gs) (v:Vl) (z:By) (d:z≠g.2.nm):pc gs (uC V g.1 v) z=pc gs V z:=by
 unfold pc;cases l:findF gs z with
 | none=>rfl
 | some f=>
  obtain ⟨h,k⟩:=fE l;simp only [uC];have a:f.1≠g.1:=by
   intro e;have j:=j8.nh gs c g i;have b:=j8.nh gs c f h;rw [e,j] at b;cases b;exact d k.symm
  rw [aA a]
def iz (gs:List (Nat × Fd)) (V:Nat->Vl) (g:Nat × Fd):Prop:=V g.1=cD (pc gs V) g.2.p
def iz.keep {gs:List (Nat × Fd)} {V:Nat->Vl} {g h:Nat × Fd} {v:Vl} (d:(gs.map Prod.fst).Nodup) (e:iz gs V g) (i:g∈gs) (c:h∈gs) (a:g.1≠h.1) (f:NM g h) (hs:Shape g.2.p):iz gs (uC V h.1 v) g:=by
 unfold iz at *;rw [gR h.2.nm (pc gs (uC V h.1 v)) (pc gs V) (λz b=>FB gs d V h c v z b) g.2.p hs f,<- e];simp [uC,a]
def iz.made {gs:List (Nat × Fd)} {V:Nat->Vl} {g:Nat × Fd} (c:(gs.map Prod.fst).Nodup) (b:g∈gs) (d:NM g g) (hs:Shape g.2.p):iz gs (uC V g.1 (cD (pc gs V) g.2.p)) g:=by
 unfold iz;rw [gR g.2.nm (pc gs (uC V g.1 (cD (pc gs V) g.2.p))) (pc gs V) (λz a=>FB gs c V g b _ z a) g.2.p hs d];simp [uC]
def pY (gs:List (Nat × Fd)) (f:(gs.map Prod.fst).Nodup) (n:Db gs) (c:∀ g,g∈gs->Shape g.2.p):∀ (r a:List (Nat × Fd)) (V:Nat->Vl) (on:List By),gs=a++r->(∀ g,g∈a->iz gs V g)->(∀ g,g∈r->anyM on g.2.p=false->iz gs V g)->∀ g,g∈gs->iz gs (pg gs V (aO on r)) g
 | [],a,V,on,e,d,_,g,m=>by
  rw [iq] at e;simp only [aO,pg];exact d g (e▸m)
 | h::r,a,V,on,e,d,s,g,m=>by
  have k:h∈gs:=pL;have j:∀ x,x∈a++r->x.1≠h.1:=by
   have:((a++h::r).map Prod.fst).Nodup:=e▸f;rw [fK,fL] at this;have d:(a.map Prod.fst++h.1::r.map Prod.fst).Perm (h.1::(a.map Prod.fst++r.map Prod.fst)):=sZ;have u:=d.nodup_iff.1 this;rw [jB] at u;intro x hx w;refine u.1 ?_;rw [<- fK,<- w];exact iJ hx
  by_cases ha:anyM on h.2.p=true
  ·have t:aO on (h::r)=h::aO (on++[h.2.nm]) r:=by simp [aO,ha]
   rw [t];simp only [pg];have o:=n.2 h k;refine pY gs f n c r (a++[h]) _ _ pL (λx hx=>?_) (λx hx q=>?_) g m
   ·rcases cG.1 hx with hx|hx
    ·have b:x∈gs:=by rw [e];simp [hx]
     have i:=n.1;rw [e] at i;exact (d x hx).keep f b k (j x iE) ((Bw.1 i).2.2 x hx h aq) (c x b)
    ·obtain rfl:x=h:=tJ;exact iz.made f k o (c _ k)
   ·have b:x∈gs:=by rw [e];simp [hx]
    have v:=Va.1 q;exact (s x iE v.1).keep f b k (j x iE) v.2 (c x b)
  ·have l:anyM on h.2.p=false:=Oz;have t:aO on (h::r)=aO on r:=by simp [aO,l]
   rw [t];refine pY gs f n c r (a++[h]) V on pL (λx hx=>?_) (λx hx=>s x iE) g m;rcases cG.1 hx with hx|hx
   ·exact d x hx
   ·obtain rfl:x=h:=tJ;exact s x aq l
 where
 Va {on:List By} {y:By} {p:Pt}:anyM (on++[y]) p=false↔anyM on p=false/\aC y p=false:=by
  simp [anyM]
def Lr (gs:List (Nat × Fd)) (f:Nat × Fd) (b:(gs.map Prod.fst).Nodup) (k:Db gs) (c:∀ g,g∈gs->Shape g.2.p) (d:f∈gs) (q:∀ g,g∈gs->g.1≠f.1->aC f.2.nm g.2.p=false->g.2.v=cD (mW gs) g.2.p) :
  ∃ V,iR gs ((f::aO [f.2.nm] gs).map λx=>x.1)=eR gs V/\∀ g,g∈gs->iz gs V g:=by
 obtain ⟨V,j,h⟩:=j8 gs b;have m:mW gs=pc gs V:=by
  conv=>lhs;rw [<- j]
  exact pd gs V
 refine ⟨pg gs V (f::aO [f.2.nm] gs),?_,?_⟩
 ·have:=rX gs b (f::aO [f.2.nm] gs) V (λg a=>by
   rcases bQ.1 a with rfl|a
   ·exact d
   ·exact mX _ _ g a)
  rw [j] at this;exact this
 ·simp only [pg];refine pY gs b k c gs [] _ _ rfl (λg a=>by simp at a) λg a p=>?_;by_cases e:g.1=f.1
  ·have n:=j8.nh gs b f d;have l:=j8.nh gs b g a;rw [e,n] at l;cases l;exact iz.made b d (k.2 f d) (c f d)
  ·have i:aC f.2.nm g.2.p=false:=by simpa [anyM] using p
   have o:iz gs V g:=by
    unfold iz;rw [h g a,<- m];exact q g a e i
   exact o.keep b a d e i (c g a)
def xt (f:Nat × Fd):∀ (gs st mv:List (Nat × Fd)) (c:List (List (Nat × Fd))) (a b:List (Nat × Fd)),dB f gs st mv c=.ok a b->(a++b).Perm (st++mv++gs)
 | [],st,mv,c,a,b,h=>by
  simp only [dB] at h;cases h;simp
 | g::r,st,mv,c,a,b,h=>by
  have d:∀ X Y:List (Nat × Fd),(X++[g]++Y).Perm (X++g::Y):=λX Y=>aq;simp only [dB] at h;split at h
  ·refine (xt f r _ _ _ _ _ h).t ?_;have:(st++[g]++mv++r).Perm (st++(mv++g::r)):=by
    rw [kI,kI];refine List.Perm.append_left st ?_;rw [vL];exact sZ.symm
   simpa using this
  ·split at h
   ·cases h
   ·refine (xt f r _ _ _ _ _ h).t ?_;simp
def wS (A B gs:List (Nat × Fd)) (f:Nat × Fd) (h:dL (A++f::B) (G A) f=.ok gs):gs.Perm (A++f::B):=by
 obtain ⟨L,M,e1,e,e3,_⟩:=om A B f;have b:(L++f::M).Perm (A++f::B):=Yi;unfold dL at h;rw [e1,e] at h;unfold jW at h;cases c:kT f.2.p (L++f::M) with
 | none=>
  rw [c] at h;cases h;exact b
 | some l=>
  rw [c] at h;simp only at h;split at h
  ·cases h;exact b
  ·rename_i g;have d1:((L++f::M).drop (G L)).take (l+1 - G L)=f::M.take (l - G L):=ML;have d2:(L++f::M).drop (l+1)=M.drop (l - G L):=Xp;rw [d1,d2,List.take_left] at h;cases a:dB f (f::M.take (l - G L)) [] [] [] with
   | dZ i=>rw [a] at h;cases h
   | ok st mv=>
    rw [a] at h;cases h;refine List.Perm.t ?_ b;have d:=xt _ _ _ _ _ _ _ a;simp only [ko] at d;simp only [b9,iq];refine List.Perm.append_left L ?_;rw [<- kI];have:(f::M)=(f::M.take (l - G L))++M.drop (l - G L):=aq;rw [this];exact d.append_right _
structure GS (fs:List (Nat × Fd)):Prop where
 nb:(fs.map Prod.fst).Nodup
 nn:(fs.map λg=>g.2.nm).Nodup
 vT:Db fs
 shp:∀ g,g∈fs->Shape g.2.p
 val:∀ g,g∈fs->g.2.v=cD (mW fs) g.2.p
def uO {fs:List (Nat × Fd)} (hn:(fs.map λg=>g.2.nm).Nodup) {g:Nat × Fd} (hg:g∈fs):findF fs g.2.nm=some g:=by
 induction fs with
 | nil=>simp at hg
 | cons x r ih=>
  rw [fL,jB] at hn;unfold findF;rcases bQ.1 hg with rfl|hg
  ·simp
  ·have hne:x.2.nm≠g.2.nm:=λe=>hn.1 (e▸iJ hg);exact YA
def Ls {fs gs:List (Nat × Fd)} (e:(fs.map λg=>g.2.nm).Nodup) (d:gs.Perm fs) (y:By):findF gs y=findF fs y:=by
 have b:(gs.map λg=>g.2.nm).Nodup:=(d.map _).nodup_iff.2 e;cases h:findF fs y with
 | some g=>
  obtain ⟨a,c⟩:=fE h;rw [<- c];exact uO b (d.mem_iff.2 a)
 | none=>
  cases f:findF gs y with
  | none=>rfl
  | some g=>
   obtain ⟨a,c⟩:=fE f;rw [<- c,uO e (d.mem_iff.1 a)] at h;cases h
def Vb {fs gs:List (Nat × Fd)} (b:(fs.map λg=>g.2.nm).Nodup) (a:gs.Perm fs):mW gs=mW fs:=by
 funext y;unfold mW;rw [Ls b a y]
def KW (A B gs:List (Nat × Fd)) (f:Nat × Fd) (p:((A++f::B).map Prod.fst).Nodup) (nn:((A++f::B).map λg=>g.2.nm).Nodup) (s:(A++B).Pairwise NM) (hs:∀ g,g∈A++B->NM g g) (i:∀ g,g∈A++f::B->Shape g.2.p)
  (u:∀ g,g∈A++B->aC f.2.nm g.2.p=false->g.2.v=cD (mW (A++f::B)) g.2.p) (h:dL (A++f::B) (G A) f=.ok gs) :
  ∃ V,iR gs ((f::aO [f.2.nm] gs).map λx=>x.1)=eR gs V/\GS (eR gs V)/\gs.Perm (A++f::B):=by
 have b:=wS A B gs f h;have o:∀ g,g∈A++B->g.1≠f.1:=by
  rw [fK,fL] at p;have q:=(sZ (a:=f.1) (l₁:=A.map Prod.fst) (l₂:=B.map Prod.fst)).nodup_iff.1 p;rw [jB] at q;intro g c e;refine q.1 ?_;rw [<- fK,<- e];exact iJ c
 have l:=Qv A B gs f s hs o h;have d:(gs.map Prod.fst).Nodup:=(b.map _).nodup_iff.2 p;have m:(gs.map λg=>g.2.nm).Nodup:=(b.map _).nodup_iff.2 nn;have k:f∈gs:=b.mem_iff.2 aq;have mem:∀ g,g∈gs->g=f\/g∈A++B:=λg c=>by
  have:=b.mem_iff.1 c;simp at this ⊢;rcases this with h|h|h
  ·exact Or.inr (Or.inl h)
  ·exact Or.inl h
  ·exact Or.inr (Or.inr h)
 obtain ⟨V,r,v⟩:=Lr gs f d l (λg c=>i g (b.mem_iff.1 c)) k (λg c n t=>by
  rw [Vb nn b];rcases mem g c with rfl|c
  ·exact absurd rfl n
  ·exact u g c t)
 refine ⟨V,r,⟨?_,?_,⟨?_,?_⟩,?_,?_⟩,b⟩
 ·have:(eR gs V).map Prod.fst=gs.map Prod.fst:=G7;rw [this];exact d
 ·have:(eR gs V).map (λg=>g.2.nm)=gs.map λg=>g.2.nm:=G7;rw [this];exact m
 ·unfold eR;exact jz.2 (l.1.imp λh=>h)
 ·intro g c;obtain ⟨x,j,rfl⟩:=bU.1 c;exact l.2 x j
 ·intro g c;obtain ⟨x,j,rfl⟩:=bU.1 c;exact i x (b.mem_iff.1 j)
 ·intro g c;obtain ⟨x,j,rfl⟩:=bU.1 c;rw [pd];exact v x j
end Go.Proofs.YtihgojcfpnhelaaGreatDoor
