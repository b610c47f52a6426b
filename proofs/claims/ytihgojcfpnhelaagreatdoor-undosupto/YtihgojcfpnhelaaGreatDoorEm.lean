import Derived.Test.YtihgojcfpnhelaaGreatDoorEj
set_option maxRecDepth 100000
set_option maxHeartbeats 4000000
set_option linter.all false
namespace Go.Proofs.YtihgojcfpnhelaaGreatDoor
open Go renaming World->zW,Value->zV,Calls->zC,Addr->zD
open Go.RowKit Go.Proofs.Tryz
open List renaming length→G
section
attribute [local go_sem] idx_eq app_eq
variable {w w' W:zW} {v u Z:zV} {y:Nat} {fs:List RF} {ts:List (By × Nat)}
def ea.next (h:ea w v ts) (c:zB w w'):ea w' v ts:=by
 obtain ⟨i,a,o,rfl,b,d⟩:=h;refine ⟨i,a,o,rfl,b,λj f=>?_⟩;obtain ⟨g,e,c0,c1⟩:=d j f;exact ⟨g,e,(c.cell (gI w _ c0)).t c0,(c.cell (gI w _ c1)).t c1⟩
def ea.drop {c:Option zD} {a k:Nat} (h:ea w (.slice c (G ts) a) ts) (n:k<=G ts) (i:k<G ts):ea w (.slice (c.map λx=>x.add (k*2)) (G ts - k) (a - k)) (ts.drop k):=by
 obtain ⟨f,b,o,e,l,d⟩:=h;cases e;refine ⟨_,a - k,o+k*2,by rw [mG],JG,λj m=>?_⟩;rw [mG] at m;obtain ⟨g,rfl,c0,c1⟩:=d (k+j) ae;refine ⟨g,by rw [oH,Addr.add_lit],?_,?_⟩
 ·rw [List.getElem_drop,show o+k*2+j*2=o+(k+j)*2 from ae];exact c0
 ·rw [List.getElem_drop,show o+k*2+j*2+1=o+(k+j)*2+1 from ae];exact c1
def ea.all (h:ea w v ts) (i:0<G ts):∃ a g o,v=.slice (some ⟨g,o,none⟩) (G ts) a/\(G ts)<=a/\∀ j,j<G ts->w.cell? ⟨g,o+j*2,none⟩=some (.string ⟨(aw ts j).toArray⟩):=by
 obtain ⟨l,a,o,rfl,b,d⟩:=h;obtain ⟨g,rfl,c0,_⟩:=d 0 i;refine ⟨a,g,o,rfl,b,λj f=>?_⟩;obtain ⟨k,e,c,_⟩:=d j f;cases e;rw [eY ts j f];exact c
def jT (w:zW) (a:List RF) (er:Nat) (nm:By) (r:Ending) (w':zW):Prop:=
 ∃ b,r=.returned (.tuple #[b,zI er,zG nm])/\dU w' b a/\(∀ q,b.ownBlock=some q->w.heap.size<=q/\q<w'.heap.size)/\zB w w'
def uR (rs:List RF) (f:RF):(iu rs f).length=G rs+1:=by
 unfold iu;rw [b6,gS];have:=eL List.length (List.takeWhile_append_dropWhile (p:=λg:RF=>Op.bytesLess g.nm f.nm) (l:=rs));rw [b6] at this;omega
def aen (hc:w.cell? ⟨y,0,none⟩=some Z) (l:dU w Z fs) (i:ea w v ts) (z:(G ts)<=1000) (m:∀ t p,(t,p)∈ts->t≠[]/\(G t)<=19) (J:aw ts 0=[115,101,116]) (L:4<=G ts) (a:bK fs (aw ts 1)<0->G fs<10) (r:(G fs)<=10) :
  zC prog 150 #[zJ y,v] w (jT w (iu (gv fs (aw ts 1)) ⟨aw ts 1,bV (ts.drop 3) (ts.drop 3).length,0,0⟩) 0 (aw ts 1)):=by
 obtain ⟨j,g,o,rfl,n,c⟩:=i.all ae;have C:¬ j=3:=ae;have t0:=c 0 ae;have t1:=c 1 ae;rw [J] at t0;simp only [jC,mQ,k7] at t0 t1;have E:=I (i.drop (k:=3) ae ae);have HF:=I l;have F:Hid (∀ t p,(t,p)∈ts.drop 3->t≠[]/\(G t)<=19):=I λt p h=>m t p (lD h);have A:Hid ((ts.drop 3).length<=1000):=I JG;obtain ⟨D,fa,fc,rfl,-⟩:=id l;have H:((G fs):Int)<=1000:=a6.2 D;have B:(4:Int)<=((G ts):Int):=a6.2 L;have hl3:(3:Int)<=((G ts):Int):=ae;have u:((G ts):Int)<=1000:=a6.2 z;have f:=I a;clear l i m a c;generalize aw ts 1=x at *;obtain ⟨tx,d⟩:∃ tx,Hid (bV (ts.drop 3) (ts.drop 3).length=tx):=⟨_,I rfl⟩;rw [d.o];go_in;go_wp2_with (go_at_call 122;refine mo (find_ok fs x HF.o) ?_;rintro e w1 ⟨rfl,rfl⟩);have hyl:y<w1.heap.size:=gI _ _ hc;have HTO:=I (Ho (ts.drop 3) _ _ (E.o.next (aM _ w1).drew) A.o F.o);rw [d.o] at HTO;have HIL:Hid ((iu (gv fs x) ⟨x,tx,0,0⟩).length<=1000):=I (by rw [uR];have:=uS fs x;omega);by_cases b:bK fs x<0
 ·have s:¬ (10:Int)<=((G fs):Int):=by have:=f.o b;omega
  exact Wv
 ·have K:¬ bK fs x<0:=b;exact Wv
variable {vl:zV} {aJ:List By} {H:List RF} {x:By}
def xT (er at_:Int) (bn:Option zD) (cn:Nat):zC prog 81 #[.agg #[zI er,zI at_,zG [],.slice bn 0 cn,zI 0,zI 0],zI er,zI at_] w λr w'=>r=.returned (.bool true)/\zB w w':=by
 have b:(er == er)=true:=aq;have a:(at_ == at_)=true:=aq;exact MI
def mi (fs:List RF):By:=fs.flatMap λf=>f.nm++[32,61,32]++f.rl++[10]
def DJ {fs:List RF} {j:Nat} (a:j<G fs):mi (fs.take (j+1))=mi (fs.take j)++fs[j].nm++[32,61,32]++fs[j].rl++[10]:=by
 unfold mi;rw [vJ a,yo,sD,List.flatMap_nil,iq];simp only [kI]
def RFb (fs:List RF):Prop:=G fs<=11/\∀ f,f∈fs->G f.nm<=10/\(G f.rl)<=1000
def FL {fs:List RF} (h:RFb fs):∀ j,j<=G fs->(mi (fs.take j)).length<=j*1014
 | 0,_=>by simp [mi]
 | j+1,b=>by
  have a:=FL h j ae;rw [DJ ae];have:=h.2 fs[j] (bt ae);simp;omega
def afP {fs:List RF} (h:RFb fs) {j:Nat} (a:j<=G fs):(mi (fs.take j)).length<=11154:=by
 have c:=FL h j a;have b:=h.1;have d:j*1014<=11*1014:=Nat.mul_le_mul_right _ ae;omega
def amZ {a b c:Nat} (d:a<=11154) (e:b<=10) (f:c<=1000):¬ 9223372036854775807<a+b/\¬ 9223372036854775807<a+b+3/\¬ 9223372036854775807<a+(b+3)+c/\¬ 9223372036854775807<a+(b+(c+3))+1:=ae
def abE (fs:List RF) (h:dU w v fs) (u:RFb fs):zC prog 120 #[v] w λr w'=>r=.returned (.string ⟨(mi fs).toArray⟩)/\zB w w':=by
 have A:=I h;obtain ⟨x,a,c,rfl,B⟩:=h;have D:((G fs):Int)<=1000:=a6.2 x;have y:=I u;clear B x u;go_in;go_wp2_with fail;go_loopg [3,4] (G fs) (λgk s i wr=>∃ j:Nat,j<=G fs/\(G fs)<=j+gk/\i=zI j/\s=.string ⟨(mi (fs.take j)).toArray⟩/\Hid (zB w wr))
 case atStart=>exact ⟨0,bE _,jD (cS _).symm,rfl,rfl,I (aM _ _)⟩
 case round=>
  obtain ⟨j,t,p,rfl,rfl,n⟩:=hrel;rcases cC j (G fs) with ee|ee
  ·have C:=eu ee;have e:=I (eJ ee p);obtain ⟨_,K,L,q,b⟩:=A.o.next n.o;cases q;rcases b with h0|⟨g,o,rfl,J,b⟩
   ·exact yD
   ·obtain ⟨c0,c1,c2,c3⟩:=b j fs[j] (cU ee);have l:=I (DJ ee);have k:=afP y.o t;have d:=y.o.2 fs[j] (bt ee);clear b;generalize fs[j]=f at *;obtain ⟨tx,m⟩:∃ tx,mi (fs.take j)=tx:=⟨_,rfl⟩;rw [m] at k l ⊢;clear m;obtain ⟨E,F,M,H⟩:=amZ k d.1 d.2;clear k d;go_wp2_with fail
    go_quiet (fail)
    go_wp2_with fail;go_roundg (G fs - (j+1))
    case measure=>exact e.o.2.1
    case rel=>exact ⟨j+1,e.o.2.2,e.o.1,aq,by rw [l.o];simp,I (n.o.t ((lG (aM _ _) _).m n.o.size))⟩
  ·have z:=eH ee;obtain rfl:j=(G fs):=lT t ee;go_wp2_with fail;go_ret;exact ⟨rfl,n.o⟩
def gJ (x y:By) (ts:List (By × Nat)):List (By × Nat):=ts.map λt=>(if t.1=x then y else t.1,t.2)
def qP (x y:By) (ts:List (By × Nat)):(gJ x y ts).length=(G ts):=by simp [gJ]
def mz (x y:By) (ts:List (By × Nat)) (j:Nat):List (By × Nat):=gJ x y (ts.take j)++ts.drop j
def FO {x y:By} {ts:List (By × Nat)} {j:Nat} (a:j<=G ts):(mz x y ts j).length=(G ts):=by simp [mz,gJ];omega
def DK {x y:By} {ts:List (By × Nat)} {j:Nat} (a:j<G ts):(mz x y ts j)[j]'(by rw [FO ae];exact a)=ts[j]:=by
 unfold mz;rw [Bt (by simp [gJ];omega)];simp [gJ,Nat.min_eq_left (lF a)]
def DL {x y:By} {ts:List (By × Nat)} {j:Nat} (a:j<G ts):mz x y ts (j+1)=(mz x y ts j).set j (if ts[j].1=x then y else ts[j].1,ts[j].2):=by
 have b:(gJ x y (ts.take j)).length=j:=by simp [gJ];omega
 have e1:gJ x y (ts.take j++[ts[j]])=gJ x y (ts.take j)++[(if ts[j].1=x then y else ts[j].1,ts[j].2)]:=by simp only [gJ,fK,fL,List.map_nil]
 show gJ x y (ts.take (j+1))++ts.drop (j+1)=(gJ x y (ts.take j)++ts.drop j).set j _;rw [vJ a,e1,jL a,yl _ _ ae,b,nK,List.set_cons_zero,kI];rfl
def LG {ts:List (By × Nat)} {j:Nat} (hj:j<G ts) (u:By):dt (ts.set j (u,ts[j].2))=(dt ts).set (j*2) (zG u):=by
 induction ts generalizing j with
 | nil=>simp at hj
 | cons t r a=>
  cases j with
  | zero=>simp [dt]
  | succ j=>
   have e:∀ (t:By × Nat) (r:List (By × Nat)),dt (t::r)=.string ⟨t.1.toArray⟩::zI (t.2:Int)::dt r:=λt r=>by simp [dt]
   have:=a (j:=j) oT;simp only [List.set_cons_succ,List.getElem_cons_succ];rw [e,e,show (j+1)*2=j*2+1+1 from ae,List.set_cons_succ,List.set_cons_succ,this]
def ac9 {B n g c k:Nat} {d:TypeId} {z:Nat} {xs:List zV} (h:w.ownsRow B d z (zS g n c) n xs) (_:k<n*z) (u:zV):(w.setCell ⟨g,k,none⟩ u).ownsRow B d z (zS g n c) n (xs.set k u):=by
 obtain ⟨l,e⟩:=h;refine ⟨by simpa using l,Or.inr ?_⟩;rcases e with ⟨b,_⟩|⟨r,q,a,b,f,p,j,o,m,i⟩
 ·cases b
 ·cases b;refine ⟨g,c,a.setIfInBounds k u,rfl,f,aj p k u,j,o,by simpa using m,?_⟩;rw [<- i];simp [Array.toList_setIfInBounds,List.take_set]
def afQ {B n g c:Nat} {d:TypeId} {z:Nat} {xs:List zV} (h:w.ownsRow B d z (zS g n c) n xs) (k:Nat):w.frozen? ⟨g,k,none⟩=false:=by
 rcases h.2 with ⟨a,_⟩|⟨i,f,b,a,_,e,_⟩
 ·cases a
 ·cases a;simp [World.frozen?,e]
def RA {t:By} (h:di t=true) (a:t≠[]):t≠[]/\(G t)<=19:=by
 refine ⟨a,?_⟩;unfold di at h;split at h
 ·simp at h;omega
 ·split at h
  ·simp at h;omega
  ·simp only [b5,iV,pF,bQ,jA,iK] at h;rcases h with rfl|rfl|rfl|rfl|rfl|rfl|rfl|rfl|rfl|rfl<;>simp
def J6 (s x y:By) (B:(G s)<=1000) (hs:(aI s).2=none) (Q:y≠[]/\(G y)<=19):zC prog 184 #[zG s,zG x,zG y] w λr w'=>r=.returned (.string ⟨(bV (gJ x y (aI s).1) (aI s).1.length).toArray⟩)/\zB w w':=by
 have HG:=I (λt p (h:(t,p)∈(aI s).1)=>lz _ _ _ t p h);have N:=I (λt p (h:(t,p)∈(aI s).1)=>RA (x9 _ _ _ t p h) (by obtain ⟨c,r,e,_⟩:=lz _ _ _ t p h;rw [e];simp));have o:(aI s).1.length<=(G s):=fT _ _ _;have H:=I (show aI s=((aI s).1,none) from Prod.ext rfl hs);generalize (aI s).1=ts at *;have Y:((G ts):Int)<=1000:=a6.2 (bf o B);have O:=I (bf o B);have X:=I Q;clear hs o Q;go_in;go_wp2_with (go_at_call 51;refine mo (iU s _ ts B H.o) ?_;rintro e w1 ⟨v,rfl,m,A⟩);apply I;have E:=I A;have T:=I m;clear m A;have k:Hid (∀ W v',W.ownsRow w.heap.size 118 2 v' (G ts) (dt (mz x y ts (G ts)))->zC prog 54 #[v'] W λe w'=>e=.returned (.string ⟨(bV (gJ x y ts) (G ts)).toArray⟩)/\zB W w'):=I λW v' P=>by
  have e:mz x y ts (G ts)=gJ x y ts:=by simp [mz]
  rw [e] at P;have:=Q8 (gJ x y ts) v' w.heap.size W (by rw [qP];exact P) (by rw [qP];exact O.o) λt p L=>by
   obtain ⟨q,hq,he⟩:=bU.1 L;simp only [mI] at he;rw [<- he.1];split
   ·exact X.o
   ·exact N.o q.1 q.2 hq
  rw [qP] at this;exact this
 rcases T.o.2 with ⟨D,h0⟩|⟨g,c,cur,D,S,u,F,h4,V,Z⟩
 ·subst D;have z:=oD h0;subst z;go_wp2_with fail;go_loopg [9] 0 (λgk i wr=>i=zI 0/\wr=w1)
  case atStart=>exact ⟨rfl,rfl⟩
  case round=>
   obtain ⟨rfl,rfl⟩:=hrel;have K:Hid (wr.ownsRow w.heap.size 118 2 (zN) ([]:List (By × Nat)).length (dt (mz x y [] ([]:List (By × Nat)).length))):=I (eW _ _ _ _);go_wp2_with (go_at_call 54;refine (k.o _ _ K.o).m ?_;rintro e w2 ⟨rfl,b⟩;have n:=I b;clear b);go_ret;exact ⟨rfl,E.o.t (n.o.m E.o.size)⟩
 ·subst D;have M:=I S;clear S u F h4 V Z;go_wp2_with fail;go_loopg [9] (G ts) (λgk i wr=>∃ j:Nat,j<=G ts/\(G ts)<=j+gk/\i=zI j/\Hid (wr.ownsRow w.heap.size 118 2 (zS g (G ts) c) (G ts) (dt (mz x y ts j))/\zB w wr))
  case atStart=>exact ⟨0,bE _,jD (cS _).symm,rfl,I ⟨by have h:=T.o;simpa [mz,gJ] using h,E.o⟩⟩
  case round=>
   obtain ⟨j,R,J,rfl,l⟩:=hrel;rcases cC j (G ts) with a|a
   ·have hlt:=eu a;have eQ:=I (eJ a J);have f:j<(mz x y ts j).length:=by rw [FO R];exact a
    have d:=rY (mz x y ts j) j f;rw [DK a] at d;have c0:wr.cell? ⟨g,j*2,none⟩=some (.string ⟨ts[j].1.toArray⟩):=by
     rw [l.o.1.cellAt (j*2) ae];exact d.1
    have OJ:wr.frozen? ⟨g,j*2,none⟩=false:=afQ l.o.1 (j*2);have U:g<wr.heap.size:=gI wr _ c0;by_cases he:ts[j].1=x
    ·have HN:Hid ((wr.setCell ⟨g,j*2,none⟩ (zG y)).ownsRow w.heap.size 118 2 (zS g (G ts) c) (G ts) (dt (mz x y ts (j+1)))/\zB w (wr.setCell ⟨g,j*2,none⟩ (zG y))):=I (by
      have u:=LG f y;rw [DK a] at u;rw [DL a,aB he,u];exact ⟨ac9 l.o.1 ae _,l.o.2.setCell (p:=⟨g,j*2,none⟩) M.o _⟩)
     have C:(ts[j].1 == x)=true:=G3;clear he d;go_wp2_with fail;go_roundg (G ts - (j+1))
     case measure=>exact eQ.o.2.1
     case rel=>exact wL
    ·have HN:Hid (wr.ownsRow w.heap.size 118 2 (zS g (G ts) c) (G ts) (dt (mz x y ts (j+1)))/\zB w wr):=I (by
      have u:(mz x y ts j).set j (ts[j].1,ts[j].2)=mz x y ts j:=by
       have F:=DK (x:=x) (y:=y) a;rw [show ((ts[j].1,ts[j].2):By × Nat)=(mz x y ts j)[j]'f from F.symm];exact List.set_getElem_self f
      rw [DL a,aA he,u];exact l.o)
     have C:(ts[j].1 == x)=false:=G3;clear he d;go_wp2_with fail;go_roundg (G ts - (j+1))
     case measure=>exact eQ.o.2.1
     case rel=>exact wL
   ·have tA:=eH a;obtain rfl:j=(G ts):=lT R a;go_wp2_with (go_at_call 54;refine (k.o _ _ l.o.1).m ?_;rintro e w2 ⟨rfl,b⟩;have n:=I b;clear b);go_ret;exact ⟨rfl,l.o.2.t (n.o.m l.o.2.size)⟩
variable {V Z:List Bool} {b i j k n:Nat}
def AO (fs:List RF):Prop:=∃ i f,fs[i]?=some f/\rO fs f.nm i
def I2 (w:zW) (fs:List RF) (r:Ending) (w':zW):Prop:=∃ a,r=.returned (.bool a)/\(a=true↔AO fs)/\zB w w'
def afS (a:j<G fs) (h:rO fs fs[j].nm j) (b:zB W w):I2 W fs (.returned (.bool true)) w:=⟨true,rfl,⟨λ_=>⟨j,fs[j],cU a,h⟩,λ_=>rfl⟩,b⟩
def ajx (h:∀ i,i<G fs->∀ f,fs[i]?=some f->¬ rO fs f.nm i) (a:zB W w):I2 W fs (.returned (.bool false)) w:=⟨false,rfl,⟨λe=>iM,λ⟨i,f,hf,hh⟩=>absurd hh (h i (fI.1 hf).1 f hf)⟩,a⟩
def O4 (fs:List RF) (h:dU w v fs) (q:pP fs):zC prog 151 #[v] w (I2 w fs):=by
 have Q:=I h;have t:=I q;obtain ⟨F,a,c,rfl,R⟩:=h;have N:((G fs):Int)<=1000:=a6.2 F;clear R F q;go_in;go_wp2_with fail;go_loopg [3] (G fs) (λgk i wr=>∃ j:Nat,j<=G fs/\(G fs)<=j+gk/\i=zI j/\Hid (zB w wr)/\Hid (∀ i,i<j->∀ f,fs[i]?=some f->¬ rO fs f.nm i))
 case atStart=>exact ⟨0,bE _,jD (cS _).symm,rfl,I (aM _ _),I λi x=>absurd x (pH i)⟩
 case round=>
  obtain ⟨j,W,A,rfl,u,H⟩:=hrel;rcases cC j (G fs) with ee|ee
  ·have S:=eu ee;have k:=I (eJ ee A);have n:=I (Q.o.next u.o);obtain ⟨g,o,rfl,U,c0,c1⟩:=fA n.o ee;have y:=I (t.o _ (bt ee));have D:=I (cU ee);go_wp2_with (go_at_call 152;refine mo (Kq _ _ n.o t.o y.o.2.2) ?_;rintro e w2 ⟨b,V,rfl,B,m,s,r,p⟩;have O:=I m;have H2:=I s;have L:=I r;have K:=I p;clear B m s r p);apply I;obtain ⟨M,X,Y⟩:=O.o.at (i:=j) GM;have C:Hid (V[j]'GM=true↔rO fs fs[j].nm j):=I (by rw [<- L.o j,cU GM];simp);generalize V[j]'GM=T at C M;have l:=I (u.o.t (K.o.m u.o.size));cases T with
   | true=>
    have d:=I (afS ee (C.o.1 rfl) l.o);go_wp2_with fail;go_ret;exact d.o
   | false=>
    have J:Hid (∀ i,i<j+1->∀ f,fs[i]?=some f->¬ rO fs f.nm i):=I λi x f z E=>by
     rcases cC i j with h|h
     ·exact H.o i h f z E
     ·obtain rfl:i=j:=ae;rw [D.o] at z;cases z;exact absurd (C.o.2 E) ai
    go_wp2_with fail;go_roundg (G fs - (j+1))
    case measure=>exact k.o.2.1
    case rel=>exact ⟨j+1,k.o.2.2,k.o.1,aq,l,J⟩
  ·have P:=eH ee;have d:=I (ajx (fs:=fs) (λi x=>H.o i (bG x ee)) u.o);go_wp2_with fail;go_ret;exact d.o
end
section
variable {κ ρ:By->Vl} {p:Pt} {v:Vl} {Z fin:List RF} {r:Nat->Nat} {i n:Nat} {no:Bool}
def ads (r:∀ x,(κ x).1≠0->κ x=ρ x):∀ (p:Pt) (v:Vl),fO κ p=some v->cD ρ p=v:=by
 intro p
 induction p with
 | atom k nm n=>
  intro v h;unfold fO at h;unfold cD;split at h
  ·rename_i f;rw [aB f];exact dp h
  ·rename_i f;rw [aA f];split at h
   ·rename_i g;rw [aB g];exact dp h
   ·rename_i g;rw [aA g];split at h
    ·rename_i j;rw [aB j];exact dp h
    ·rename_i j;rw [aA j];split at h
     ·cases h
     ·rename_i i;rw [<- r nm i];exact dp h
 | un k a q=>
  intro v h;unfold fO at h;unfold cD;split at h
  ·cases h
  ·rename_i v' e;rw [q v' e];exact dp h
 | bin k a b d ihb=>
  intro v h;unfold fO at h;unfold cD;split at h
  ·cases h
  ·rename_i v' e;rw [d v' e];by_cases i:k=4
   ·rw [aB (Or.inl i),aB i] at h;rw [aB i];unfold dH;by_cases l:aP 2 v'=(2,0)\/(aP 2 v').1=3
    ·rw [aB l] at h ⊢;exact dp h
    ·rw [aA l] at h ⊢;exact MU
   ·rw [aA i];by_cases o:k=5
    ·rw [aB (Or.inr o),aA i] at h;rw [aB o];unfold dH;by_cases l:aP 2 v'=(2,1)\/(aP 2 v').1=3
     ·rw [aB l] at h ⊢;exact dp h
     ·rw [aA l] at h ⊢;exact MU
    ·rw [aA ae] at h;rw [aA o];by_cases j:v'.1=3
     ·rw [aB j] at h;unfold fR;rw [aB j];exact dp h
     ·rw [aA j] at h;exact MU
 | ifs a b c d ihb m=>
  intro v h;unfold fO at h;unfold cD;split at h
  ·cases h
  ·rename_i v' e;rw [d v' e];unfold fQ;split at h
   ·rename_i f;rw [aB f];exact ihb v h
   ·rename_i f;rw [aA f];split at h
    ·rename_i g;rw [aB g];exact m v h
    ·rename_i g;rw [aA g];exact dp h
def QU:∀ (p:Pt),(∀ x,aC x p=true->(κ x).1≠0)->Shape p->fO κ p≠none:=by
 intro p
 induction p with
 | atom k nm n=>
  intro h hs;unfold fO;by_cases l:k=1
  ·rw [aB l];simp
  ·rw [aA l];by_cases m:k=7
   ·rw [aB m];simp
   ·rw [aA m];by_cases o:k=8
    ·rw [aB o];simp
    ·have q:k=2:=by rcases hs with h|h|h|h<;>omega
     rw [aA o,aA (h nm (by simp [aC,q]))];simp
 | un k a r=>
  intro h hs;have i:=r (λx hx=>h x yH) hs.2;unfold fO;split
  ·rename_i e;exact absurd e i
  ·simp
 | bin k a b f g=>
  intro h hs;have i:=f (λx hx=>h x yH) hs.2.1;have hb:=g (λx hx=>h x yH) hs.2.2;unfold fO;generalize (if k=4 then (0:Int) else 1)=d;split
  ·rename_i e;exact absurd e i
  ·split
   ·exact YR
   ·exact YR
 | ifs a b c f g j=>
  intro h hs;have i:=f (λx hx=>h x yH) hs.1;have hb:=g (λx hx=>h x yH) hs.2.1;have s:=j (λx hx=>h x yH) hs.2.2;unfold fO;split
  ·rename_i e;exact absurd e i
  ·split
   ·exact hb
   ·split
    ·exact s
    ·simp
def PK (Z fin:List RF):Prop:=G Z=G fin/\∀ (i:Nat) (c f:RF),Z[i]?=some c->fin[i]?=some f->c.nm=f.nm/\c.rl=f.rl/\((c.kd=f.kd/\c.n=f.n)\/c.kd=0)
def sR (r:Nat->Nat) (Z:List RF) (n i:Nat):Prop:=∀ (j:Nat) (c:RF),Z[j]?=some c->(r j<n\/(j<i/\r j<=n))->c.kd≠0
def SD (h:PK Z fin) (x:By):eO Z x=eO fin x\/(eO Z x).1=0:=by
 induction Z generalizing fin with
 | nil=>
  cases fin with
  | nil=>exact Or.inl rfl
  | cons f r=>exact absurd h.1 aq
 | cons c l j=>
  cases fin with
  | nil=>exact absurd h.1 aq
  | cons f r=>
   obtain ⟨d,k,a⟩:=h.2 0 c f rfl rfl;rw [eO,eO,<- d];by_cases b:c.nm=x
   ·rw [aB b,aB b];rcases a with ⟨a,e⟩|a
    ·rw [a,e];exact Or.inl rfl
    ·exact Or.inr a
   ·rw [aA b,aA b];exact j ⟨G2,λi c f g hf=>h.2 (i+1) c f (by simpa using g) Om⟩
structure FR (fin:List RF) (r:Nat->Nat) (i:Nat) (f:RF) (p:Pt) (ts:List (By × Nat)):Prop where
 tok:aI f.rl=(ts,none)
 ok:fV ts
 der:bh ts 1 0 (G ts) p
 shape:Shape p
 val:cD (eO fin) p=(f.kd,f.n)
 gd:l8 (f.kd,f.n)
 len:(G f.rl)<=1000
 rk:r i<G fin
 up:∀ (k:Nat) (g:RF),fin[k]?=some g->aC g.nm p=true->r k<r i
def Af (fin:List RF) (r:Nat->Nat):Prop:=G fin<=1000/\∀ (i:Nat) (f:RF),fin[i]?=some f->∃ p ts,FR fin r i f p ts
def ajO (h:l8 v):v.1≠0:=by rcases h with h|⟨h,_⟩|h<;>omega
def FT (l:List RF) (x:By):(∃ (k:Nat) (g:RF),l[k]?=some g/\g.nm=x/\eO l x=(g.kd,g.n))\/eO l x=(3,3):=by
 induction l with
 | nil=>exact Or.inr rfl
 | cons c l d=>
  rw [eO];by_cases a:c.nm=x
  ·rw [aB a];exact Or.inl ⟨0,c,rfl,a,rfl⟩
  ·rw [aA a];rcases d with ⟨k,g,h1,b,e⟩|h
   ·exact Or.inl ⟨k+1,g,vP,b,e⟩
   ·exact Or.inr h
def adt (b:Af fin r):LI (eO fin):=by
 intro x _;rcases FT fin x with ⟨k,g,a,d,c⟩|h
 ·obtain ⟨p,ts,h⟩:=b.2 k g a;rw [c];exact h.gd
 ·rw [h];exact Or.inr (Or.inr rfl)
def adu (b:Af fin r) (h:PK Z fin):LI (eO Z):=by
 intro x a;rcases SD h x with h|h
 ·rw [h] at a ⊢;exact adt b x a
 ·exact absurd h a
def PK.at (h:PK Z fin) {c:RF} (b:Z[i]?=some c):∃ f,fin[i]?=some f/\c.nm=f.nm/\c.rl=f.rl/\((c.kd=f.kd/\c.n=f.n)\/c.kd=0):=by
 have a:i<(G fin):=h.1▸(fI.1 b).1;exact ⟨fin[i],cU a,h.2 i c fin[i] b (cU a)⟩
def QW {f:RF} {ts:List (By × Nat)} (d:Af fin r) (h:PK Z fin) (b:FR fin r i f p ts) (a:nU (eO Z) p v false):v=(f.kd,f.n):=by
 rcases a with ⟨_,a⟩|⟨a,_⟩
 ·rw [<- b.val];exact (ads (λx c=>(SD h x).resolve_right c) p v a).symm
 ·cases a
def VD {f:RF} {ts:List (By × Nat)} (h:PK Z fin) (o:sR r Z n i) (e:FR fin r i f p ts) (a:nU (eO Z) p v true):n<r i:=by
 rcases cC n (r i) with d|d
 ·exact d
 ·exfalso;rcases a with ⟨a,_⟩|⟨_,a⟩
  ·cases a
  ·refine QU p (λx q=>?_) e.shape a;rcases FT Z x with ⟨k,g,c,j,s⟩|m
   ·rw [s];obtain ⟨l,b,e1,_,_⟩:=h.at c;refine o k g c (Or.inl ?_);have:=e.up k l b (by rw [<- e1,j];exact q);omega
   ·rw [m];decide
def sR.skip {c:RF} (h:sR r Z n i) (f:Z[i]?=some c) (b:c.kd≠0\/n<r i):sR r Z n (i+1):=by
 intro j d a g;by_cases e:j=i
 ·subst e;rw [f] at a;cases a;rcases b with b|b
  ·exact b
  ·omega
 ·exact h j d a ae
def sR.set {b:RF} (h:sR r Z n i) (g:b.kd≠0):sR r (Z.set i b) n (i+1):=by
 intro j c a k;by_cases e:i=j
 ·subst e;rw [List.getElem?_set_self' ] at a;cases f:Z[i]? with
  | none=>rw [f] at a;cases a
  | some d=>
   rw [f] at a;cases a;exact g
 ·rw [List.getElem?_set_ne e] at a;exact h j c a ae
def PK.set {c f:RF} (h:PK Z fin) (d:Z[i]?=some c) (g:fin[i]?=some f):PK (Z.set i { c with kd:=f.kd,n:=f.n }) fin:=by
 refine ⟨G2,λj l m a b=>?_⟩;by_cases e:i=j
 ·subst e;rw [List.getElem?_set_self',d] at a;cases a;rw [g] at b;cases b;obtain ⟨k,o,_⟩:=h.2 i c f d g;exact ⟨k,o,Or.inl ⟨rfl,rfl⟩⟩
 ·rw [List.getElem?_set_ne e] at a;exact h.2 j l m a b
def sR.round (h:sR r Z n (G Z)):sR r Z (n+1) 0:=by
 intro j c a b;have:=(fI.1 a).1;exact h j c a ae
def sR.done (j:Af fin r) (h:PK Z fin) (l:sR r Z n 0) (m:(G fin)<=n):Z=fin:=by
 refine List.ext_getElem? λi=>?_;cases b:Z[i]? with
 | none=>
  have:=List.getElem?_eq_none_iff.1 b;rw [h.1] at this;exact (List.getElem?_eq_none_iff.2 this).symm
 | some c=>
  obtain ⟨f,g,e1,d,a⟩:=h.at b;obtain ⟨p,ts,hF⟩:=j.2 i f g;have o:=hF.rk;have k:=l i c b (Or.inl ae);obtain ⟨a,e⟩:=a.resolve_right k;rw [g];obtain ⟨c1,c2,c3,c4⟩:=c;obtain ⟨f1,f2,f3,f4⟩:=f;simp only at e1 d a e;rw [e1,d,a,e]
def jv (l:List RF):List RF:=l.map λf=>{ f with kd:=0,n:=0 }
def adv:PK (jv fin) fin:=by
 refine ⟨by simp [jv],λi c f a b=>?_⟩;unfold jv at a;rw [kn,b] at a;cases a;exact ⟨rfl,rfl,Or.inr rfl⟩
def VE:sR r Z 0 0:=λj c _ a=>ae
variable {fs Z:List Fd} {H rs:List RF} {x:By}
def qF (f:Fd):RF:=⟨f.nm,txt f.p,0,0⟩
def pR (H:List RF):Prop:=H.Pairwise λa b=>a.nm<b.nm
def DR (fs:List Fd) (H:List RF):Prop:=pR H/\∀ d,d∈H↔∃ f,f∈fs/\d=qF f
def EW (a b:By):Op.bytesLess a b=true↔a<b:=by
 rw [bytesLess_eq];simp
def lt_or_gt {a b:By} (h:a≠b) (d:¬ a<b):b<a:=by
 by_cases c:b<a
 ·exact c
 ·exact absurd (List.le_antisymm (List.not_lt.1 c) (List.not_lt.1 d)) h
def yX (rs:List RF) (f d:RF):d∈iu rs f↔d=f\/d∈rs:=by
 unfold iu;have:=List.takeWhile_append_dropWhile (p:=λg:RF=>Op.bytesLess g.nm f.nm) (l:=rs);constructor
 ·intro h;rcases cG.1 h with h|h
  ·exact Or.inr (this▸cG.2 (Or.inl h))
  ·rcases bQ.1 h with h|h
   ·exact Or.inl h
   ·exact Or.inr (this▸cG.2 (Or.inr h))
 ·rintro (rfl|h)
  ·exact Zd
  ·rw [<- this] at h;rcases cG.1 h with h|h
   ·exact cG.2 (Or.inl h)
   ·exact cG.2 (Or.inr (ki _ h))
def EX {f:RF} (h:pR rs) (u:∀ d,d∈rs->d.nm≠f.nm):pR (iu rs f):=by
 unfold pR iu;have e:=List.takeWhile_append_dropWhile (p:=λg:RF=>Op.bytesLess g.nm f.nm) (l:=rs);have n:=h;unfold pR at n;rw [<- e,Bw] at n;obtain ⟨s,m,v⟩:=n;have t:∀ d,d∈rs.takeWhile (λg=>Op.bytesLess g.nm f.nm)->d.nm<f.nm:=λd i=>(EW _ _).1 (List.all_eq_true.1 (List.all_takeWhile (p:=λg:RF=>Op.bytesLess g.nm f.nm) (l:=rs)) d i);have i:∀ d,d∈rs.dropWhile (λg=>Op.bytesLess g.nm f.nm)->f.nm<d.nm:=by
  cases o:rs.dropWhile (λg=>Op.bytesLess g.nm f.nm) with
  | nil=>intro d i;cases i
  | cons a r=>
   have j:a∈rs:=by
    rw [<- e,o];exact Zd
   have k:¬ a.nm<f.nm:=λc=>by
    have:=List.head?_dropWhile_not (p:=λg:RF=>Op.bytesLess g.nm f.nm) rs;rw [o] at this;simp only [List.head?_cons] at this;rw [(EW _ _).2 c] at this;cases this
   have c:=lt_or_gt (u a j) k;intro d i;rcases bQ.1 i with rfl|i
   ·exact c
   ·rw [o,td] at m;exact List.lt_trans c (m.1 d i)
 rw [Bw,td];refine ⟨s,⟨i,m⟩,λa j b q=>?_⟩;rcases bQ.1 q with rfl|q
 ·exact t a j
 ·exact v a j b q
def tS (rs:List RF) (x:By) (d:RF):d∈gv rs x↔d∈rs/\d.nm≠x:=by
 unfold gv;rw [yx];simp
def CL (h:pR rs) (x:By):pR (gv rs x):=List.Pairwise.filter _ h
def Ke (h:pR H):H.Nodup:=by
 refine List.Pairwise.imp (λ{a b} hab e=>?_) h;rw [e] at hab;exact List.lt_irrefl _ hab
def CM:∀ {a b:List RF},pR a->pR b->(∀ d,d∈a↔d∈b)->a=b
 | [],[],_,_,_=>rfl
 | [],y::b,_,_,h=>absurd ((h y).2 il) aq
 | x::a,[],_,_,h=>absurd ((h x).1 il) aq
 | x::a,y::b,g,f,h=>by
  unfold pR at g f;rw [td] at g f;have e:x=y:=by
   rcases bQ.1 ((h x).1 il) with e|e
   ·exact e
   ·rcases bQ.1 ((h y).2 il) with i|i
    ·exact i.symm
    ·exact absurd (List.lt_trans (g.1 y i) (f.1 x e)) (List.lt_irrefl _)
  subst e;rw [CM g.2 f.2 λd=>?_];constructor
  ·intro c;rcases bQ.1 ((h d).1 (ki _ c)) with e|e
   ·subst e;exact absurd (g.1 d c) (List.lt_irrefl _)
   ·exact e
  ·intro c;rcases bQ.1 ((h d).2 (ki _ c)) with e|e
   ·subst e;exact absurd (f.1 d c) (List.lt_irrefl _)
   ·exact e
def DR.uniq {a:List RF} (h:DR fs H) (b:DR fs a):H=a:=CM h.1 b.1 λd=>(h.2 d).t (b.2 d).symm
def DR.nil:DR [] []:=⟨List.Pairwise.nil,λd=>aq⟩
def DR.len (h:DR fs H) (i:(fs.map λg=>g.nm).Nodup):(G H)=(G fs):=by
 have j:(fs.map qF).Nodup:=by
  rw [List.Nodup,jz] at i ⊢;exact i.imp λ{a b} hab e=>hab (eL RF.nm e)
 have k:H.Perm (fs.map qF):=(List.perm_ext_iff_of_nodup (Ke h.1) j).2 λd=>by
  rw [h.2 d,bU];constructor
  ·rintro ⟨f,c,rfl⟩;exact ⟨f,c,rfl⟩
  ·rintro ⟨f,c,rfl⟩;exact ⟨f,c,rfl⟩
 rw [k.length_eq,fy]
def Pa (H:List RF) (x:By):bK H x<0↔∀ d,d∈H->d.nm≠x:=by
 unfold bK;cases h:H.findIdx? (λf=>f.nm == x) with
 | none=>
  rw [Br] at h;exact ⟨λ_ d a=>by simpa using h d a,λ_=>ai⟩
 | some i=>
  rw [FZ] at h;obtain ⟨c,he,_⟩:=h;refine ⟨λb=>by simp at b;omega,λa=>absurd G3 (a _ (bt c))⟩
def DR.find (h:DR fs H) (x:By):bK H x<0↔∀ f,f∈fs->f.nm≠x:=by
 rw [Pa];constructor
 ·intro b f a;exact b (qF f) ((h.2 _).2 ⟨f,a,rfl⟩)
 ·intro b d c;obtain ⟨f,a,rfl⟩:=(h.2 d).1 c;exact b f a
def DR.set (h:DR fs H) (e:∀ n q,(∃ f,f∈Z/\f.nm=n/\f.p=q)↔((n=x/\q=p)\/(n≠x/\∃ f,f∈fs/\f.nm=n/\f.p=q))):DR Z (iu (gv H x) ⟨x,txt p,0,0⟩):=by
 refine ⟨EX (CL h.1 x) λd c=>((tS _ _ _).1 c).2,λd=>?_⟩;rw [yX,tS];constructor
 ·rintro (rfl|⟨c,i⟩)
  ·obtain ⟨f,a,e1,e2⟩:=(e x p).2 (Or.inl ⟨rfl,rfl⟩);exact ⟨f,a,EH⟩
  ·obtain ⟨f,a,rfl⟩:=(h.2 d).1 c;obtain ⟨g,b,e1,e2⟩:=(e f.nm f.p).2 (Or.inr ⟨i,f,a,rfl,rfl⟩);exact ⟨g,b,EH⟩
 ·rintro ⟨f,a,rfl⟩;rcases (e f.nm f.p).1 ⟨f,a,rfl,rfl⟩ with ⟨e1,e2⟩|⟨i,g,b,e1,e2⟩
  ·exact Or.inl EH
  ·exact Or.inr ⟨(h.2 _).2 ⟨g,b,EH⟩,i⟩
def DR.del (h:DR fs H) (e:∀ n q,(∃ f,f∈Z/\f.nm=n/\f.p=q)↔(n≠x/\∃ f,f∈fs/\f.nm=n/\f.p=q)):DR Z (gv H x):=by
 refine ⟨CL h.1 x,λd=>?_⟩;rw [tS];constructor
 ·rintro ⟨i,c⟩;obtain ⟨f,b,rfl⟩:=(h.2 d).1 i;obtain ⟨g,a,e1,e2⟩:=(e f.nm f.p).2 ⟨c,f,b,rfl,rfl⟩;exact ⟨g,a,EH⟩
 ·rintro ⟨f,b,rfl⟩;obtain ⟨c,g,a,e1,e2⟩:=(e f.nm f.p).1 ⟨f,b,rfl,rfl⟩;exact ⟨(h.2 _).2 ⟨g,a,EH⟩,c⟩
end
section
attribute [local go_sem] idx_eq app_eq
variable {w w' W w1:zW} {Z l:zV} {V:List Bk} {C:Nat->Prop} {T B n m:Nat} {xs news:List zV}
def abF {g a:Nat} (h:w.ownsRow B 9 1 (zS g (n+m) a) (n+m) (xs++news)) (k:(G xs)=n):w.ownsRow B 9 1 (zS g n a) n xs:=by
 rcases h.2 with ⟨c,_⟩|⟨o,d,b,c,j,f,i,l,hs,e⟩
 ·cases c
 ·cases c;refine ⟨ae,Or.inr ⟨g,a,b,rfl,j,f,ae,l,hs,?_⟩⟩;have:=eL (List.take n) e;rw [List.take_take,Nat.min_eq_left ae,List.take_left' k] at this;rw [nL];exact this
def Ps {v:zV} {row:Option Nat} (h:w.ownsRow B 9 1 v n xs) (e:w.grownBy w' row) (k:row=none):w'.ownsRow B 9 1 v n xs:=by
 subst k;rcases h.2 with ⟨rfl,h0⟩|⟨g,a,b,rfl,d,c,l,f,i,j⟩
 ·exact MC
 ·exact ⟨h.1,Or.inr ⟨g,a,b,rfl,d,(e.block g (cz.1 c).1 aq).t c,l,f,i,j⟩⟩
structure pU (w:zW) (B:Nat) (l:zV) (n m:Nat) (xs news:List zV) (v':zV) (w':zW):Prop where
 new:w'.ownsRow B 9 1 v' (n+m) (xs++news)
 old:w'.ownsRow B 9 1 l n xs
 grown:w.grownBy w' l.ownBlock
 at_:v'.ownBlock=l.ownBlock\/((∀ g,v'.ownBlock=some g->w.heap.size<=g)/\w.grownBy w' none)
def aiw:(prog.info? 9).map (λi=>(i.zero,i.size,i.bytes))=some (some (zG []),1,16):=aD
def T3 (y:TypeId) (h:w.ownsRow B 9 1 l n xs) (M:B<=w.heap.size) (W:n<=1000) {s:zD} {c:Nat} (J:0<m) (R:m<=10) (S:(G news)=m) (b:∀ j u,news[j]?=some u->w.cell? (s.add j)=some u) (H:∀ u∈news,u.oneCell'=true) :
  ∃ v' w',(Builtin.append_ #[24,24] y #[l,.slice (some s) m c]).run prog w=.ok v' w'/\pU w B l n m xs news v' w':=by
 obtain ⟨z,F,q,i,x⟩:=fe aiw;have t:(G xs)=n:=by have:=h.1;omega
 have r:n+m<=maxLen:=jM;rcases h.2 with ⟨rfl,rfl⟩|⟨g,d,f,rfl,U,N,T,O,V,Q⟩
 ·have C:xs=[]:=oD t;subst C;obtain ⟨v',w',v,e,a,_⟩:=run_append_own (P:=prog) w w.heap.size _ y _ z _ 1 16 underlying24 F q i x rfl ai (zN) 0 [] (eW _ _ _ _) s m c news ae b H r ae (aG _);have p:=fJ e;refine ⟨v',w',v,⟨⟨e.1,?_⟩,eW _ _ _ _,a,Or.inr ⟨λg a=>(p g a).1,a⟩⟩⟩;rcases e.2 with E|⟨g,d,f,A,L,D⟩
  ·exact Or.inl E
  ·exact Or.inr ⟨g,d,f,A,ae,D⟩
 ·by_cases o:n+m<=d
  ·obtain ⟨w',v,e,a⟩:=run_append_fits (P:=prog) w B _ y _ z 1 underlying24 F i g n d xs h s m c news ae b H o;exact ⟨_,w',v,⟨e,abF e t,a,Or.inl rfl⟩⟩
  ·obtain ⟨v',w',v,e,a⟩:=run_append_arg_grows (P:=prog) w _ y _ z _ 1 16 underlying24 F q i x rfl ai ⟨g,0,none⟩ n d xs ae (World.ownsRow.cells h rfl) s m c news ae b ae r ae;have p:=fJ e;refine ⟨v',w',v,⟨⟨e.1,?_⟩,Ps h a rfl,⟨a.os,a.tape,a.output,a.size,λk K _=>a.block k K aq⟩,Or.inr ⟨λg a=>(p g a).1,a⟩⟩⟩;rcases e.2 with E|⟨g,d,f,A,L,D⟩
   ·exact Or.inl E
   ·exact Or.inr ⟨g,d,f,A,ae,D⟩
def rQ {d:Array Oper} {rest:List Oper} {o:Oper} {a:Act} {Q:Exit->Act->zW->Prop} (g:o.guard=none) (s x:Operand)
  (A:o.op=.call { callee:=.builtin .append,args:=#[s,x],argTypes:=#[24,24] }) (i:zD) (c:Nat) (hs:a.eval s=l) (C:a.eval x=.slice (some i) m c) (h:w.ownsRow B 9 1 l n xs) (k:B<=w.heap.size) (t:n<=1000) (e:0<m) (y:m<=10) (z:(G news)=m) (b:∀ j u,news[j]?=some u->w.cell? (i.add j)=some u) (p:∀ u∈news,u.oneCell'=true)
  (q:∀ v' w',pU w B l n m xs news v' w'->wpList prog d Q rest (a.put o.dst v') w'):wpList prog d Q (o::rest) a w:=by
 obtain ⟨v',w',v,r⟩:=T3 (c:=c) o.type h k t e y z b p;refine wpList_plain g λK f=>?_;unfold Oper.wp;simp [execOp,A,resolve,invoke,builtin,hs,C,v,Result.andThen];exact f _ _ (q v' w' r)
end
end Go.Proofs.YtihgojcfpnhelaaGreatDoor
