import Derived.Test.YtihgojcfpnhelaaGreatDoorEj
set_option maxRecDepth 100000
set_option maxHeartbeats 4000000
set_option linter.all false
namespace Go.Proofs.YtihgojcfpnhelaaGreatDoor
open Value renaming slice->B,agg->zd,tuple->zp,bool->zF
open Ending renaming returned->zP
open Option renaming some->A
open Or renaming inl->zR,inr->zZ
open Go renaming World->zW,Value->zV,Calls->zC,Addr->zD
open Go.RowKit Go.Proofs.Tryz
open List renaming length→G
section
attribute [local go_sem] ap aq
variable {w w' W:zW} {v u Z:zV} {y:Nat} {fs:List RF} {K:List (By × Nat)}
def ea.next (h:ea w v K) (c:zB w w'):ea w' v K:=by
 obtain ⟨i,a,o,rfl,b,d⟩:=h;refine ⟨i,a,o,rfl,b,λj f=>?_⟩;obtain ⟨g,e,c0,c1⟩:=d j f;exact ⟨g,e,(c.cell (gI w _ c0)).t c0,(c.cell (gI w _ c1)).t c1⟩
def ea.drop {c:Option zD} {a k:Nat} (h:ea w (B c (G K) a) K) (n:k<=G K) (i:k<G K):ea w (B (c.map λx=>x.add (k*2)) (G K - k) (a - k)) (K.drop k):=by
 obtain ⟨f,b,o,e,l,d⟩:=h;cases e;refine ⟨_,a - k,o+k*2,by rw [mG],by rw [mG];omega,λj m=>?_⟩;rw [mG] at m;obtain ⟨g,rfl,c0,c1⟩:=d (k+j) (by omega);refine ⟨g,by rw [oH,Addr.add_lit],?_,?_⟩
 .rw [List.getElem_drop,show o+k*2+j*2=o+(k+j)*2 by omega];exact c0
 .rw [List.getElem_drop,show o+k*2+j*2+1=o+(k+j)*2+1 by omega];exact c1
def ea.all (h:ea w v K) (i:0<G K):∃ a g o,v=B (A (X g o)) (G K) a/\G K<=a/\∀ j,j<G K->w.cell? (X g (o+j*2))=A (Q (aw K j)):=by
 obtain ⟨l,a,o,rfl,b,d⟩:=h;obtain ⟨g,rfl,c0,_⟩:=d 0 i;refine ⟨a,g,o,rfl,b,λj f=>?_⟩;obtain ⟨k,e,c,_⟩:=d j f;cases e;rw [eY K j f];exact c
def jT (w:zW) (a:List RF) (er:Nat) (nm:By) (r:Ending) (w':zW):Prop:=
 ∃ b,r=zP (zp #[b,J er,Q nm])/\dU w' b a/\(∀ q,b.ownBlock=A q->w.heap.size<=q/\q<w'.heap.size)/\zB w w'
def uR (rs:List RF) (f:RF):(iu rs f).length=G rs+1:=by
 unfold iu;rw [b6,gS];have:=eL List.length (List.takeWhile_append_dropWhile (p:=λg:RF=>Op.bytesLess g.nm f.nm) (l:=rs));rw [b6] at this;omega
def pp (T:w.cell? (yh y)=A Z) (l:dU w Z fs) (i:ea w v K) (z:G K<=1000) (m:∀ t p,(t,p)∈K->t≠[]/\G t<=19) (QV:aw K 0=[115,101,116]) (L:4<=G K) (a:bK fs (aw K 1)<0->G fs<10) (r:G fs<=10) :
  zC prog 150 #[zJ y,v] w (jT w (iu (gv fs (aw K 1)) ⟨aw K 1,bV (K.drop 3) (K.drop 3).length,0,0⟩) 0 (aw K 1)):=by
 obtain ⟨B3,HF,vo,rfl,hq,c⟩:=i.all (by omega);have n0:¬ B3=3:=(by omega);have t0:=c 0 (by omega);have t1:=c 1 (by omega);rw [QV] at t0;simp only [jC,mQ,k7] at t0 t1;have E:=I (i.drop (k:=3) (by omega) (by omega));have R:=I l;have F:Hid (∀ t p,(t,p)∈K.drop 3->t≠[]/\G t<=19):=I λt p B1=>m t p (lD B1);have o:Hid ((K.drop 3).length<=1000):=I (by rw [mG];omega);obtain ⟨D,s,fc,rfl,-⟩:=id l;have tx:(G fs:Int)<=1000:=a6.2 D;have Q4:(4:Int)<=(G K:Int):=a6.2 L;have hc:(3:Int)<=(G K:Int):=(by omega);have u:(G K:Int)<=1000:=a6.2 z;have f:=I a;clear l i m a c;generalize aw K 1=x at *;obtain ⟨P,d⟩:∃ P,Hid (bV (K.drop 3) (K.drop 3).length=P):=⟨_,I rfl⟩;rw [d.o];go_in;go_wp2_with (go_at_call 122;refine mo (aD fs x R.o) ?_;rintro e h ⟨rfl,rfl⟩);have Y:y<h.heap.size:=gI _ _ T;have S:=I (Ho (K.drop 3) _ _ (E.o.next (aM _ h).drew) o.o F.o);rw [d.o] at S;have n:Hid ((iu (gv fs x) ⟨x,P,0,0⟩).length<=1000):=I (by rw [uR];have:=uS fs x;omega);by_cases b:bK fs x<0
 have w1:¬ (10:Int)<=(G fs:Int):=by have:=f.o b;omega
 rotate_left;have QT:=b
 all_goals
  generalize bK fs x=fi at *;apply I;go_wp2_with fail
  go_region_held3 (λw'=>w'.cell? (yh y)=A (B s (G fs) fc)) (first|go_keep|exact O) (first|(go_at_call 54;refine S.o.m ?_;rintro e w2 ⟨rfl,M⟩;have O:=(M.cell (p:=yh y) Y).t T;have C:=I M;clear M)|(go_at_call 182;refine (BQ fs x _ (R.o.next ((aM _ _).drew.t C.o))).m ?_;rintro e w3 ⟨g,rfl,U,N⟩;have O:=(N.cell (p:=yh y) (bG Y C.o.size)).t O;have j:=I N;have H:=I U;clear N U))
  all_goals go_wp2_with fail
  all_goals refine aK (v:=zp #[g,J 0,Q x]) (by simp [results,results150,go_sem]) rfl ?_
  all_goals exact ⟨g,rfl,dU.nj H.o n.o,λq V=>⟨bf C.o.size (fJ H.o q V).1,(fJ H.o q V).2⟩,((aM _ _).drew.t C.o).t (j.o.m C.o.size)⟩
variable {vl:zV} {aJ:List By} {H:List RF} {x:By}
def xT (er at_:Int) (bn:Option zD) (cn:Nat):zC prog 81 #[zd #[J er,J at_,Q [],B bn 0 cn,J 0,J 0],J er,J at_] w λr w'=>r=zP (zF true)/\zB w w':=by
 have b:(er == er)=true:=(by simp);have a:(at_ == at_)=true:=(by simp);go_in;go_wp2_with fail;go_ret;exact ⟨rfl,(aM _ _).alloc (aG _) _⟩
def mi (fs:List RF):By:=fs.flatMap λf=>f.nm++[32,61,32]++f.rl++[10]
def DJ {fs:List RF} {j:Nat} (a:j<G fs):mi (fs.take (j+1))=mi (fs.take j)++fs[j].nm++[32,61,32]++fs[j].rl++[10]:=by
 unfold mi;rw [vJ a,yo,sD,List.flatMap_nil,iq];simp only [kI]
def cg (fs:List RF):Prop:=G fs<=11/\∀ f,f∈fs->G f.nm<=10/\G f.rl<=1000
def FL {fs:List RF} (h:cg fs):∀ j,j<=G fs->(mi (fs.take j)).length<=j*1014
 | 0,_=>by simp [mi]
 | j+1,b=>by
  have a:=FL h j (by omega);rw [DJ (by omega)];have:=h.2 fs[j] (bt (by omega));simp;omega
def ps {fs:List RF} (h:cg fs) {j:Nat} (a:j<=G fs):(mi (fs.take j)).length<=11154:=by
 have c:=FL h j a;have b:=h.1;have d:j*1014<=11*1014:=Nat.mul_le_mul_right _ (by omega);omega
def pt {a b c:Nat} (d:a<=11154) (e:b<=10) (f:c<=1000):¬ 9223372036854775807<a+b/\¬ 9223372036854775807<a+b+3/\¬ 9223372036854775807<a+(b+3)+c/\¬ 9223372036854775807<a+(b+(c+3))+1:=by omega
def pu (fs:List RF) (h:dU w v fs) (u:cg fs):zC prog 120 #[v] w λr w'=>r=zP (Q (mi fs))/\zB w w':=by
 have P:=I h;obtain ⟨x,a,c,rfl,R⟩:=h;have D:(G fs:Int)<=1000:=a6.2 x;have y:=I u;clear R x u;go_in;go_wp2_with fail;go_loopg [3,4] (G fs) (λgk s i wr=>∃ j:Nat,j<=G fs/\G fs<=j+gk/\i=J j/\s=Q (mi (fs.take j))/\Hid (zB w wr))
 case atStart=>exact ⟨0,bE _,jD (cS _).symm,rfl,rfl,I (aM _ _)⟩
 case round=>
  obtain ⟨j,t,p,rfl,rfl,n⟩:=hrel;rcases cC j (G fs) with N|N
  .have C:=eu N;have e:=I (eJ N p);obtain ⟨_,T,L,q,b⟩:=P.o.next n.o;cases q;rcases b with S|⟨g,o,rfl,U,b⟩
   .rw [S] at N;exact absurd N (pH j)
   .obtain ⟨c0,c1,c2,c3⟩:=b j fs[j] (cU N);have l:=I (DJ N);have k:=ps y.o t;have d:=y.o.2 fs[j] (bt N);clear b;generalize fs[j]=f at *;obtain ⟨O,m⟩:∃ O,mi (fs.take j)=O:=⟨_,rfl⟩;rw [m] at k l ⊢;clear m;obtain ⟨E,F,M,H⟩:=pt k d.1 d.2;clear k d;go_wp2_with fail
    go_quiet (fail)
    go_wp2_with fail;go_roundg (G fs - (j+1))
    case measure=>exact e.o.2.1
    case rel=>exact ⟨j+1,e.o.2.2,e.o.1,(by simp),by rw [l.o];simp,I (n.o.t ((lG (aM _ _) _).m n.o.size))⟩
  .have z:=eH N;obtain rfl:j=G fs:=lT t N;go_wp2_with fail;go_ret;exact ⟨rfl,n.o⟩
def gJ (x y:By) (K:List (By × Nat)):List (By × Nat):=K.map λt=>(if t.1=x then y else t.1,t.2)
def qP (x y:By) (K:List (By × Nat)):(gJ x y K).length=G K:=by simp [gJ]
def mz (x y:By) (K:List (By × Nat)) (j:Nat):List (By × Nat):=gJ x y (K.take j)++K.drop j
def FO {x y:By} {K:List (By × Nat)} {j:Nat} (a:j<=G K):(mz x y K j).length=G K:=by simp [mz,gJ];omega
def DK {x y:By} {K:List (By × Nat)} {j:Nat} (a:j<G K):(mz x y K j)[j]'(by rw [FO (by omega)];exact a)=K[j]:=by
 unfold mz;rw [Bt (by simp [gJ];omega)];simp [gJ,Nat.min_eq_left (lF a)]
def DL {x y:By} {K:List (By × Nat)} {j:Nat} (a:j<G K):mz x y K (j+1)=(mz x y K j).set j (if K[j].1=x then y else K[j].1,K[j].2):=by
 have b:(gJ x y (K.take j)).length=j:=by simp [gJ];omega
 have e1:gJ x y (K.take j++[K[j]])=gJ x y (K.take j)++[(if K[j].1=x then y else K[j].1,K[j].2)]:=by simp only [gJ,fK,fL,List.map_nil]
 show gJ x y (K.take (j+1))++K.drop (j+1)=(gJ x y (K.take j)++K.drop j).set j _;rw [vJ a,e1,jL a,yl _ _ (by omega),b,nK,List.set_cons_zero,kI];rfl
def LG {K:List (By × Nat)} {j:Nat} (C:j<G K) (u:By):dt (K.set j (u,K[j].2))=(dt K).set (j*2) (Q u):=by
 induction K generalizing j with
 | nil=>simp at C
 | cons t r a=>
  cases j with
  | zero=>simp [dt]
  | succ j=>
   have e:∀ (t:By × Nat) (r:List (By × Nat)),dt (t::r)=Q t.1::J (t.2:Int)::dt r:=λt r=>by simp [dt]
   have:=a (j:=j) (by simpa using C);simp only [List.set_cons_succ,List.getElem_cons_succ];rw [e,e,show (j+1)*2=j*2+1+1 by omega,List.set_cons_succ,List.set_cons_succ,this]
def pv {Q4 n g c k:Nat} {d:TypeId} {z:Nat} {C:List zV} (h:w.ownsRow Q4 d z (zS g n c) n C) (_:k<n*z) (u:zV):(w.setCell (X g k) u).ownsRow Q4 d z (zS g n c) n (C.set k u):=by
 obtain ⟨l,e⟩:=h;refine ⟨by simpa using l,zZ ?_⟩;rcases e with ⟨b,_⟩|⟨r,q,a,b,f,p,j,o,m,i⟩
 .cases b
 .cases b;refine ⟨g,c,a.setIfInBounds k u,rfl,f,aj p k u,j,o,by simpa using m,?_⟩;rw [<- i];simp [Array.toList_setIfInBounds,List.take_set]
def pB {Q4 n g c:Nat} {d:TypeId} {z:Nat} {C:List zV} (h:w.ownsRow Q4 d z (zS g n c) n C) (k:Nat):w.frozen? (X g k)=false:=by
 rcases h.2 with ⟨a,_⟩|⟨i,f,b,a,_,e,_⟩
 .cases a
 .cases a;simp [World.frozen?,e]
def RA {t:By} (h:di t=true) (a:t≠[]):t≠[]/\G t<=19:=by
 refine ⟨a,?_⟩;unfold di at h;split at h
 .simp at h;omega
 .split at h
  .simp at h;omega
  .simp only [b5,iV,pF,bQ,jA,iK] at h;rcases h with rfl|rfl|rfl|rfl|rfl|rfl|rfl|rfl|rfl|rfl<;>simp
def J6 (s x y:By) (Q4:G s<=1000) (hs:(aI s).2=none) (z:y≠[]/\G y<=19):zC prog 184 #[Q s,Q x,Q y] w λr w'=>r=zP (Q (bV (gJ x y (aI s).1) (aI s).1.length))/\zB w w':=by
 have HG:=I (λt p (h:(t,p)∈(aI s).1)=>lz _ _ _ t p h);have he:=I (λt p (h:(t,p)∈(aI s).1)=>RA (x9 _ _ _ t p h) (by obtain ⟨c,r,e,_⟩:=lz _ _ _ t p h;rw [e];simp));have o:(aI s).1.length<=G s:=fT _ _ _;have H:=I (show aI s=((aI s).1,none) from Prod.ext rfl hs);generalize (aI s).1=K at *;have Q5:(G K:Int)<=1000:=a6.2 (bf o Q4);have eQ:=I (bf o Q4);have Q6:=I z;clear hs o z;go_in;go_wp2_with (go_at_call 51;refine mo (iU s _ K Q4 H.o) ?_;rintro e w1 ⟨v,rfl,m,Y⟩);apply I;have E:=I Y;have T:=I m;clear m Y;have k:Hid (∀ W U,W.ownsRow w.heap.size 118 2 U (G K) (dt (mz x y K (G K)))->zC prog 54 #[U] W λe w'=>e=zP (Q (bV (gJ x y K) (G K)))/\zB W w'):=I λW U P=>by
  have e:mz x y K (G K)=gJ x y K:=by simp [mz]
  rw [e] at P;have:=Q8 (gJ x y K) U w.heap.size W (by rw [qP];exact P) (by rw [qP];exact eQ.o) λt p L=>by
   obtain ⟨q,hq,N⟩:=bU.1 L;simp only [mI] at N;rw [<- N.1];split
   .exact Q6.o
   .exact he.o q.1 q.2 hq
  rw [qP] at this;exact this
 rcases T.o.2 with ⟨D,h0⟩|⟨g,c,aa,D,S,u,F,h4,v',Z⟩
 .subst D;have HN:=oD h0;subst HN;go_wp2_with fail;go_loopg [9] 0 (λgk i wr=>i=J 0/\wr=w1)
  case atStart=>exact ⟨rfl,rfl⟩
  case round=>
   obtain ⟨rfl,rfl⟩:=hrel;have QT:Hid (wr.ownsRow w.heap.size 118 2 (zN) ([]:List (By × Nat)).length (dt (mz x y [] ([]:List (By × Nat)).length))):=I (eW _ _ _ _);go_wp2_with (go_at_call 54;refine (k.o _ _ QT.o).m ?_;rintro e w2 ⟨rfl,b⟩;have n:=I b;clear b);go_ret;exact ⟨rfl,E.o.t (n.o.m E.o.size)⟩
 .subst D;have M:=I S;clear S u F h4 v' Z;go_wp2_with fail;go_loopg [9] (G K) (λgk i wr=>∃ j:Nat,j<=G K/\G K<=j+gk/\i=J j/\Hid (wr.ownsRow w.heap.size 118 2 (zS g (G K) c) (G K) (dt (mz x y K j))/\zB w wr))
  case atStart=>exact ⟨0,bE _,jD (cS _).symm,rfl,I ⟨by have h:=T.o;simpa [mz,gJ] using h,E.o⟩⟩
  case round=>
   obtain ⟨j,R,QV,rfl,l⟩:=hrel;rcases cC j (G K) with a|a
   .have ac:=eu a;have O:=I (eJ a QV);have f:j<(mz x y K j).length:=by rw [FO R];exact a
    have d:=rY (mz x y K j) j f;rw [DK a] at d;have c0:wr.cell? (X g (j*2))=A (Q K[j].1):=by
     rw [l.o.1.cellAt (j*2) (by omega)];exact d.1
    have OJ:wr.frozen? (X g (j*2))=false:=pB l.o.1 (j*2);have Q0:g<wr.heap.size:=gI wr _ c0;by_cases N:K[j].1=x
    .have V:Hid ((wr.setCell (X g (j*2)) (Q y)).ownsRow w.heap.size 118 2 (zS g (G K) c) (G K) (dt (mz x y K (j+1)))/\zB w (wr.setCell (X g (j*2)) (Q y))):=I (by
      have u:=LG f y;rw [DK a] at u;rw [DL a,aB N,u];exact ⟨pv l.o.1 (by omega) _,l.o.2.setCell (p:=X g (j*2)) M.o _⟩)
     have C:(K[j].1 == x)=true:=(by simpa using N);clear N d;go_wp2_with fail;go_roundg (G K - (j+1))
     case measure=>exact O.o.2.1
     case rel=>exact ⟨j+1,O.o.2.2,O.o.1,(by simp),V⟩
    .have V:Hid (wr.ownsRow w.heap.size 118 2 (zS g (G K) c) (G K) (dt (mz x y K (j+1)))/\zB w wr):=I (by
      have u:(mz x y K j).set j (K[j].1,K[j].2)=mz x y K j:=by
       have F:=DK (x:=x) (y:=y) a;rw [show ((K[j].1,K[j].2):By × Nat)=(mz x y K j)[j]'f from F.symm];exact List.set_getElem_self f
      rw [DL a,aA N,u];exact l.o)
     have C:(K[j].1 == x)=false:=(by simpa using N);clear N d;go_wp2_with fail;go_roundg (G K - (j+1))
     case measure=>exact O.o.2.1
     case rel=>exact ⟨j+1,O.o.2.2,O.o.1,(by simp),V⟩
   .have tA:=eH a;obtain rfl:j=G K:=lT R a;go_wp2_with (go_at_call 54;refine (k.o _ _ l.o.1).m ?_;rintro e w2 ⟨rfl,b⟩;have n:=I b;clear b);go_ret;exact ⟨rfl,l.o.2.t (n.o.m l.o.2.size)⟩
variable {V Z:List Bool} {b i j k n:Nat}
def AO (fs:List RF):Prop:=∃ i f,fs[i]?=A f/\rO fs f.nm i
def I2 (w:zW) (fs:List RF) (r:Ending) (w':zW):Prop:=∃ a,r=zP (zF a)/\(a=true↔AO fs)/\zB w w'
def pC (a:j<G fs) (h:rO fs fs[j].nm j) (b:zB W w):I2 W fs (zP (zF true)) w:=⟨true,rfl,⟨λ_=>⟨j,fs[j],cU a,h⟩,λ_=>rfl⟩,b⟩
def pI (h:∀ i,i<G fs->∀ f,fs[i]?=A f->¬ rO fs f.nm i) (a:zB W w):I2 W fs (zP (zF false)) w:=⟨false,rfl,⟨λe=>(by cases e),λ⟨i,f,hf,hh⟩=>absurd hh (h i (fI.1 hf).1 f hf)⟩,a⟩
def O4 (fs:List RF) (h:dU w v fs) (q:pP fs):zC prog 151 #[v] w (I2 w fs):=by
 have c:=I h;have t:=I q;obtain ⟨F,Q4,Q5,rfl,R⟩:=h;have N:(G fs:Int)<=1000:=a6.2 F;clear R F q;go_in;go_wp2_with fail;go_loopg [3] (G fs) (λgk i wr=>∃ j:Nat,j<=G fs/\G fs<=j+gk/\i=J j/\Hid (zB w wr)/\Hid (∀ i,i<j->∀ f,fs[i]?=A f->¬ rO fs f.nm i))
 case atStart=>exact ⟨0,bE _,jD (cS _).symm,rfl,I (aM _ _),I λi x=>absurd x (pH i)⟩
 case round=>
  obtain ⟨j,W,Y,rfl,u,H⟩:=hrel;rcases cC j (G fs) with S|S
  .have ee:=eu S;have k:=I (eJ S Y);have n:=I (c.o.next u.o);obtain ⟨QV,Q6,rfl,H2,c0,c1⟩:=fA n.o S;have y:=I (t.o _ (bt S));have D:=I (cU S);go_wp2_with (go_at_call 152;refine mo (Kq _ _ n.o t.o y.o.2.2) ?_;rintro QT w2 ⟨b,V,rfl,a,m,s,r,p⟩;have O:=I m;have U:=I s;have L:=I r;have e:=I p;clear a m s r p);apply I;obtain ⟨M,o,Q0⟩:=O.o.at (i:=j) (by rw [U.o];exact S);have C:Hid (V[j]'(by rw [U.o];exact S)=true↔rO fs fs[j].nm j):=I (by rw [<- L.o j,cU (by rw [U.o];exact S)];simp);generalize V[j]'(by rw [U.o];exact S)=T at C M;have l:=I (u.o.t (e.o.m u.o.size));cases T with
   | true=>
    have d:=I (pC S (C.o.1 rfl) l.o);go_wp2_with fail;go_ret;exact d.o
   | false=>
    have g:Hid (∀ i,i<j+1->∀ f,fs[i]?=A f->¬ rO fs f.nm i):=I λi x f z E=>by
     rcases cC i j with h|h
     .exact H.o i h f z E
     .obtain rfl:i=j:=(by omega);rw [D.o] at z;cases z;exact absurd (C.o.2 E) (by decide)
    go_wp2_with fail;go_roundg (G fs - (j+1))
    case measure=>exact k.o.2.1
    case rel=>exact ⟨j+1,k.o.2.2,k.o.1,(by simp),l,g⟩
  .have P:=eH S;have d:=I (pI (fs:=fs) (λi x=>H.o i (bG x S)) u.o);go_wp2_with fail;go_ret;exact d.o
end
section
variable {κ ρ:By->Vl} {p:Pt} {v:Vl} {Z fin:List RF} {r:Nat->Nat} {i n:Nat} {no:Bool}
def pJ (r:∀ x,(κ x).1≠0->κ x=ρ x):∀ (p:Pt) (v:Vl),fO κ p=A v->cD ρ p=v:=by
 intro p
 induction p with
 | atom k H n=>
  intro v h;unfold fO at h;unfold cD;split at h
  .rename_i f;rw [aB f];exact dp h
  .rename_i f;rw [aA f];split at h
   .rename_i g;rw [aB g];exact dp h
   .rename_i g;rw [aA g];split at h
    .rename_i j;rw [aB j];exact dp h
    .rename_i j;rw [aA j];split at h
     .cases h
     .rename_i i;rw [<- r H i];exact dp h
 | un k a q=>
  intro v h;unfold fO at h;unfold cD;split at h
  .cases h
  .rename_i C e;rw [q C e];exact dp h
 | bin k a b d E=>
  intro v h;unfold fO at h;unfold cD;split at h
  .cases h
  .rename_i C e;rw [d C e];by_cases i:k=4
   .rw [aB (zR i),aB i] at h;rw [aB i];unfold dH;by_cases l:aP 2 C=(2,0)\/(aP 2 C).1=3
    .rw [aB l] at h ⊢;exact dp h
    .rw [aA l] at h ⊢;split at h
     .cases h
     .rename_i F D;rw [E F D];exact dp h
   .rw [aA i];by_cases o:k=5
    .rw [aB (zZ o),aA i] at h;rw [aB o];unfold dH;by_cases l:aP 2 C=(2,1)\/(aP 2 C).1=3
     .rw [aB l] at h ⊢;exact dp h
     .rw [aA l] at h ⊢;split at h
      .cases h
      .rename_i F D;rw [E F D];exact dp h
    .rw [aA (by omega)] at h;rw [aA o];by_cases j:C.1=3
     .rw [aB j] at h;unfold fR;rw [aB j];exact dp h
     .rw [aA j] at h;split at h
      .cases h
      .rename_i F D;rw [E F D];exact dp h
 | ifs a b c d E m=>
  intro v h;unfold fO at h;unfold cD;split at h
  .cases h
  .rename_i C e;rw [d C e];unfold fQ;split at h
   .rename_i f;rw [aB f];exact E v h
   .rename_i f;rw [aA f];split at h
    .rename_i g;rw [aB g];exact m v h
    .rename_i g;rw [aA g];exact dp h
def QU:∀ (p:Pt),(∀ x,aC x p=true->(κ x).1≠0)->az p->fO κ p≠none:=by
 intro p
 induction p with
 | atom k F n=>
  intro h D;unfold fO;by_cases l:k=1
  .rw [aB l];simp
  .rw [aA l];by_cases m:k=7
   .rw [aB m];simp
   .rw [aA m];by_cases o:k=8
    .rw [aB o];simp
    .have q:k=2:=by rcases D with h|h|h|h<;>omega
     rw [aA o,aA (h F (by simp [aC,q]))];simp
 | un k a r=>
  intro h D;have i:=r (λx C=>h x (by simp [aC,C])) D.2;unfold fO;split
  .rename_i e;exact absurd e i
  .simp
 | bin k a b f g=>
  intro h D;have i:=f (λx C=>h x (by simp [aC,C])) D.2.1;have E:=g (λx C=>h x (by simp [aC,C])) D.2.2;unfold fO;generalize (if k=4 then (0:Int) else 1)=d;split
  .rename_i e;exact absurd e i
  .split
   .split
    .simp
    .split
     .rename_i e;exact absurd e E
     .simp
   .split
    .simp
    .split
     .rename_i e;exact absurd e E
     .simp
 | ifs a b c f g j=>
  intro h D;have i:=f (λx C=>h x (by simp [aC,C])) D.1;have E:=g (λx C=>h x (by simp [aC,C])) D.2.1;have s:=j (λx C=>h x (by simp [aC,C])) D.2.2;unfold fO;split
  .rename_i e;exact absurd e i
  .split
   .exact E
   .split
    .exact s
    .simp
def PK (Z fin:List RF):Prop:=G Z=G fin/\∀ (i:Nat) (c f:RF),Z[i]?=A c->fin[i]?=A f->c.nm=f.nm/\c.rl=f.rl/\((c.kd=f.kd/\c.n=f.n)\/c.kd=0)
def sR (r:Nat->Nat) (Z:List RF) (n i:Nat):Prop:=∀ (j:Nat) (c:RF),Z[j]?=A c->(r j<n\/(j<i/\r j<=n))->c.kd≠0
def SD (h:PK Z fin) (x:By):eO Z x=eO fin x\/(eO Z x).1=0:=by
 induction Z generalizing fin with
 | nil=>
  cases fin with
  | nil=>exact zR rfl
  | cons f r=>exact absurd h.1 (by simp)
 | cons c l j=>
  cases fin with
  | nil=>exact absurd h.1 (by simp)
  | cons f r=>
   obtain ⟨d,k,a⟩:=h.2 0 c f rfl rfl;rw [eO,eO,<- d];by_cases b:c.nm=x
   .rw [aB b,aB b];rcases a with ⟨a,e⟩|a
    .rw [a,e];exact zR rfl
    .exact zZ a
   .rw [aA b,aA b];exact j ⟨by simpa using h.1,λi c f g C=>h.2 (i+1) c f (by simpa using g) (by simpa using C)⟩
structure FR (fin:List RF) (r:Nat->Nat) (i:Nat) (f:RF) (p:Pt) (K:List (By × Nat)):Prop where
 tok:aI f.rl=(K,none)
 ok:fV K
 der:bh K 1 0 (G K) p
 shape:az p
 val:cD (eO fin) p=(f.kd,f.n)
 gd:l8 (f.kd,f.n)
 len:G f.rl<=1000
 rk:r i<G fin
 up:∀ (k:Nat) (g:RF),fin[k]?=A g->aC g.nm p=true->r k<r i
def Af (fin:List RF) (r:Nat->Nat):Prop:=G fin<=1000/\∀ (i:Nat) (f:RF),fin[i]?=A f->∃ p K,FR fin r i f p K
def pK (h:l8 v):v.1≠0:=by rcases h with h|⟨h,_⟩|h<;>omega
def FT (l:List RF) (x:By):(∃ (k:Nat) (g:RF),l[k]?=A g/\g.nm=x/\eO l x=(g.kd,g.n))\/eO l x=(3,3):=by
 induction l with
 | nil=>exact zZ rfl
 | cons c l d=>
  rw [eO];by_cases a:c.nm=x
  .rw [aB a];exact zR ⟨0,c,rfl,a,rfl⟩
  .rw [aA a];rcases d with ⟨k,g,C,b,e⟩|h
   .exact zR ⟨k+1,g,by simpa using C,b,e⟩
   .exact zZ h
def pL (b:Af fin r):LI (eO fin):=by
 intro x _;rcases FT fin x with ⟨k,g,a,d,c⟩|h
 .obtain ⟨p,K,h⟩:=b.2 k g a;rw [c];exact h.gd
 .rw [h];exact zZ (zZ rfl)
def qk (b:Af fin r) (h:PK Z fin):LI (eO Z):=by
 intro x a;rcases SD h x with h|h
 .rw [h] at a ⊢;exact pL b x a
 .exact absurd h a
def PK.at (h:PK Z fin) {c:RF} (b:Z[i]?=A c):∃ f,fin[i]?=A f/\c.nm=f.nm/\c.rl=f.rl/\((c.kd=f.kd/\c.n=f.n)\/c.kd=0):=by
 have a:i<G fin:=h.1▸(fI.1 b).1;exact ⟨fin[i],cU a,h.2 i c fin[i] b (cU a)⟩
def QW {f:RF} {K:List (By × Nat)} (d:Af fin r) (h:PK Z fin) (b:FR fin r i f p K) (a:nU (eO Z) p v false):v=(f.kd,f.n):=by
 rcases a with ⟨_,a⟩|⟨a,_⟩
 .rw [<- b.val];exact (pJ (λx c=>(SD h x).resolve_right c) p v a).symm
 .cases a
def VD {f:RF} {K:List (By × Nat)} (h:PK Z fin) (o:sR r Z n i) (e:FR fin r i f p K) (a:nU (eO Z) p v true):n<r i:=by
 rcases cC n (r i) with d|d
 .exact d
 .exfalso;rcases a with ⟨a,_⟩|⟨_,a⟩
  .cases a
  .refine QU p (λx q=>?_) e.shape a;rcases FT Z x with ⟨k,g,c,j,s⟩|m
   .rw [s];obtain ⟨l,b,e1,_,_⟩:=h.at c;refine o k g c (zR ?_);have:=e.up k l b (by rw [<- e1,j];exact q);omega
   .rw [m];decide
def sR.skip {c:RF} (h:sR r Z n i) (f:Z[i]?=A c) (b:c.kd≠0\/n<r i):sR r Z n (i+1):=by
 intro j d a g;by_cases e:j=i
 .subst e;rw [f] at a;cases a;rcases b with b|b
  .exact b
  .omega
 .exact h j d a (by omega)
def sR.set {b:RF} (h:sR r Z n i) (g:b.kd≠0):sR r (Z.set i b) n (i+1):=by
 intro j c a k;by_cases e:i=j
 .subst e;rw [List.getElem?_set_self' ] at a;cases f:Z[i]? with
  | none=>rw [f] at a;cases a
  | some d=>
   rw [f] at a;cases a;exact g
 .rw [List.getElem?_set_ne e] at a;exact h j c a (by omega)
def PK.set {c f:RF} (h:PK Z fin) (d:Z[i]?=A c) (g:fin[i]?=A f):PK (Z.set i { c with kd:=f.kd,n:=f.n }) fin:=by
 refine ⟨by simpa using h.1,λj l m a b=>?_⟩;by_cases e:i=j
 .subst e;rw [List.getElem?_set_self',d] at a;cases a;rw [g] at b;cases b;obtain ⟨k,o,_⟩:=h.2 i c f d g;exact ⟨k,o,zR ⟨rfl,rfl⟩⟩
 .rw [List.getElem?_set_ne e] at a;exact h.2 j l m a b
def sR.round (h:sR r Z n (G Z)):sR r Z (n+1) 0:=by
 intro j c a b;have:=(fI.1 a).1;exact h j c a (by omega)
def sR.done (j:Af fin r) (h:PK Z fin) (l:sR r Z n 0) (m:G fin<=n):Z=fin:=by
 refine List.ext_getElem? λi=>?_;cases b:Z[i]? with
 | none=>
  have:=List.getElem?_eq_none_iff.1 b;rw [h.1] at this;exact (List.getElem?_eq_none_iff.2 this).symm
 | some c=>
  obtain ⟨f,g,e1,d,a⟩:=h.at b;obtain ⟨p,K,hF⟩:=j.2 i f g;have o:=hF.rk;have k:=l i c b (zR (by omega));obtain ⟨a,e⟩:=a.resolve_right k;rw [g];obtain ⟨c1,c2,c3,c4⟩:=c;obtain ⟨f1,f2,f3,f4⟩:=f;simp only at e1 d a e;rw [e1,d,a,e]
def jv (l:List RF):List RF:=l.map λf=>{ f with kd:=0,n:=0 }
def qm:PK (jv fin) fin:=by
 refine ⟨by simp [jv],λi c f a b=>?_⟩;unfold jv at a;rw [kn,b] at a;cases a;exact ⟨rfl,rfl,zZ rfl⟩
def VE:sR r Z 0 0:=λj c _ a=>by omega
variable {fs Z:List Fd} {H rs:List RF} {x:By}
def qF (f:Fd):RF:=⟨f.nm,ai f.p,0,0⟩
def pR (H:List RF):Prop:=H.Pairwise λa b=>a.nm<b.nm
def DR (fs:List Fd) (H:List RF):Prop:=pR H/\∀ d,d∈H↔∃ f,f∈fs/\d=qF f
def EW (a b:By):Op.bytesLess a b=true↔a<b:=by
 rw [bytesLess_eq];simp
def bi {a b:By} (h:a≠b) (d:¬ a<b):b<a:=by
 by_cases c:b<a
 .exact c
 .exact absurd (List.le_antisymm (List.not_lt.1 c) (List.not_lt.1 d)) h
def yX (rs:List RF) (f d:RF):d∈iu rs f↔d=f\/d∈rs:=by
 unfold iu;have:=List.takeWhile_append_dropWhile (p:=λg:RF=>Op.bytesLess g.nm f.nm) (l:=rs);constructor
 .intro h;rcases cG.1 h with h|h
  .exact zZ (this▸cG.2 (zR h))
  .rcases bQ.1 h with h|h
   .exact zR h
   .exact zZ (this▸cG.2 (zZ h))
 .rintro (rfl|h)
  .exact cG.2 (zZ il)
  .rw [<- this] at h;rcases cG.1 h with h|h
   .exact cG.2 (zR h)
   .exact cG.2 (zZ (ki _ h))
def EX {f:RF} (h:pR rs) (u:∀ d,d∈rs->d.nm≠f.nm):pR (iu rs f):=by
 unfold pR iu;have e:=List.takeWhile_append_dropWhile (p:=λg:RF=>Op.bytesLess g.nm f.nm) (l:=rs);have n:=h;unfold pR at n;rw [<- e,Bw] at n;obtain ⟨s,m,v⟩:=n;have t:∀ d,d∈rs.takeWhile (λg=>Op.bytesLess g.nm f.nm)->d.nm<f.nm:=λd i=>(EW _ _).1 (List.all_eq_true.1 (List.all_takeWhile (p:=λg:RF=>Op.bytesLess g.nm f.nm) (l:=rs)) d i);have i:∀ d,d∈rs.dropWhile (λg=>Op.bytesLess g.nm f.nm)->f.nm<d.nm:=by
  cases o:rs.dropWhile (λg=>Op.bytesLess g.nm f.nm) with
  | nil=>intro d i;cases i
  | cons a r=>
   have j:a∈rs:=by
    rw [<- e,o];exact cG.2 (zZ il)
   have k:¬ a.nm<f.nm:=λc=>by
    have:=List.head?_dropWhile_not (p:=λg:RF=>Op.bytesLess g.nm f.nm) rs;rw [o] at this;simp only [List.head?_cons] at this;rw [(EW _ _).2 c] at this;cases this
   have c:=bi (u a j) k;intro d i;rcases bQ.1 i with rfl|i
   .exact c
   .rw [o,td] at m;exact List.lt_trans c (m.1 d i)
 rw [Bw,td];refine ⟨s,⟨i,m⟩,λa j b q=>?_⟩;rcases bQ.1 q with rfl|q
 .exact t a j
 .exact v a j b q
def tS (rs:List RF) (x:By) (d:RF):d∈gv rs x↔d∈rs/\d.nm≠x:=by
 unfold gv;rw [yx];simp
def CL (h:pR rs) (x:By):pR (gv rs x):=List.Pairwise.filter _ h
def Ke (h:pR H):H.Nodup:=by
 refine List.Pairwise.imp (λ{a b} hab e=>?_) h;rw [e] at hab;exact List.lt_irrefl _ hab
def CM:∀ {a b:List RF},pR a->pR b->(∀ d,d∈a↔d∈b)->a=b
 | [],[],_,_,_=>rfl
 | [],y::b,_,_,h=>absurd ((h y).2 il) (by simp)
 | x::a,[],_,_,h=>absurd ((h x).1 il) (by simp)
 | x::a,y::b,g,f,h=>by
  unfold pR at g f;rw [td] at g f;have e:x=y:=by
   rcases bQ.1 ((h x).1 il) with e|e
   .exact e
   .rcases bQ.1 ((h y).2 il) with i|i
    .exact i.symm
    .exact absurd (List.lt_trans (g.1 y i) (f.1 x e)) (List.lt_irrefl _)
  subst e;rw [CM g.2 f.2 λd=>?_];constructor
  .intro c;rcases bQ.1 ((h d).1 (ki _ c)) with e|e
   .subst e;exact absurd (g.1 d c) (List.lt_irrefl _)
   .exact e
  .intro c;rcases bQ.1 ((h d).2 (ki _ c)) with e|e
   .subst e;exact absurd (f.1 d c) (List.lt_irrefl _)
   .exact e
def DR.uniq {a:List RF} (h:DR fs H) (b:DR fs a):H=a:=CM h.1 b.1 λd=>(h.2 d).t (b.2 d).symm
def DR.nil:DR [] []:=⟨List.Pairwise.nil,λd=>by simp⟩
def DR.len (h:DR fs H) (i:(fs.map λg=>g.nm).Nodup):G H=G fs:=by
 have j:(fs.map qF).Nodup:=by
  rw [List.Nodup,jz] at i ⊢;exact i.imp λ{a b} hab e=>hab (eL RF.nm e)
 have k:H.Perm (fs.map qF):=(List.perm_ext_iff_of_nodup (Ke h.1) j).2 λd=>by
  rw [h.2 d,bU];constructor
  .rintro ⟨f,c,rfl⟩;exact ⟨f,c,rfl⟩
  .rintro ⟨f,c,rfl⟩;exact ⟨f,c,rfl⟩
 rw [k.length_eq,fy]
def Pa (H:List RF) (x:By):bK H x<0↔∀ d,d∈H->d.nm≠x:=by
 unfold bK;cases h:H.findIdx? (λf=>f.nm == x) with
 | none=>
  rw [Br] at h;exact ⟨λ_ d a=>by simpa using h d a,λ_=>by decide⟩
 | some i=>
  rw [FZ] at h;obtain ⟨c,C,_⟩:=h;refine ⟨λb=>by simp at b;omega,λa=>absurd (by simpa using C) (a _ (bt c))⟩
def DR.find (h:DR fs H) (x:By):bK H x<0↔∀ f,f∈fs->f.nm≠x:=by
 rw [Pa];constructor
 .intro b f a;exact b (qF f) ((h.2 _).2 ⟨f,a,rfl⟩)
 .intro b d c;obtain ⟨f,a,rfl⟩:=(h.2 d).1 c;exact b f a
def DR.set (h:DR fs H) (e:∀ n q,(∃ f,f∈Z/\f.nm=n/\f.p=q)↔((n=x/\q=p)\/(n≠x/\∃ f,f∈fs/\f.nm=n/\f.p=q))):DR Z (iu (gv H x) ⟨x,ai p,0,0⟩):=by
 refine ⟨EX (CL h.1 x) λd c=>((tS _ _ _).1 c).2,λd=>?_⟩;rw [yX,tS];constructor
 .rintro (rfl|⟨c,i⟩)
  .obtain ⟨f,a,e1,C⟩:=(e x p).2 (zR ⟨rfl,rfl⟩);exact ⟨f,a,by unfold qF;rw [e1,C]⟩
  .obtain ⟨f,a,rfl⟩:=(h.2 d).1 c;obtain ⟨g,b,e1,C⟩:=(e f.nm f.p).2 (zZ ⟨i,f,a,rfl,rfl⟩);exact ⟨g,b,by unfold qF;rw [e1,C]⟩
 .rintro ⟨f,a,rfl⟩;rcases (e f.nm f.p).1 ⟨f,a,rfl,rfl⟩ with ⟨e1,C⟩|⟨i,g,b,e1,C⟩
  .exact zR (by unfold qF;rw [e1,C])
  .exact zZ ⟨(h.2 _).2 ⟨g,b,by unfold qF;rw [e1,C]⟩,i⟩
def DR.del (h:DR fs H) (e:∀ n q,(∃ f,f∈Z/\f.nm=n/\f.p=q)↔(n≠x/\∃ f,f∈fs/\f.nm=n/\f.p=q)):DR Z (gv H x):=by
 refine ⟨CL h.1 x,λd=>?_⟩;rw [tS];constructor
 .rintro ⟨i,c⟩;obtain ⟨f,b,rfl⟩:=(h.2 d).1 i;obtain ⟨g,a,e1,C⟩:=(e f.nm f.p).2 ⟨c,f,b,rfl,rfl⟩;exact ⟨g,a,by unfold qF;rw [e1,C]⟩
 .rintro ⟨f,b,rfl⟩;obtain ⟨c,g,a,e1,C⟩:=(e f.nm f.p).1 ⟨f,b,rfl,rfl⟩;exact ⟨(h.2 _).2 ⟨g,a,by unfold qF;rw [e1,C]⟩,c⟩
end
section
attribute [local go_sem] ap aq
variable {w w' W w1:zW} {Z l:zV} {V:List Bk} {C:Nat->Prop} {T Q4 n m:Nat} {xs news:List zV}
def qn {g a:Nat} (h:w.ownsRow Q4 9 1 (zS g (n+m) a) (n+m) (xs++news)) (k:G xs=n):w.ownsRow Q4 9 1 (zS g n a) n xs:=by
 rcases h.2 with ⟨c,_⟩|⟨o,d,b,c,j,f,i,l,D,e⟩
 .cases c
 .cases c;refine ⟨by omega,zZ ⟨g,a,b,rfl,j,f,by omega,l,D,?_⟩⟩;have:=eL (List.take n) e;rw [List.take_take,Nat.min_eq_left (by omega),List.take_left' k] at this;rw [nL];exact this
def Ps {v:zV} {row:Option Nat} (h:w.ownsRow Q4 9 1 v n xs) (e:w.grownBy w' row) (k:row=none):w'.ownsRow Q4 9 1 v n xs:=by
 subst k;rcases h.2 with ⟨rfl,D⟩|⟨g,a,b,rfl,d,c,l,f,i,j⟩
 .exact ⟨h.1,zR ⟨rfl,D⟩⟩
 .exact ⟨h.1,zZ ⟨g,a,b,rfl,d,(e.block g (cz.1 c).1 (by simp)).t c,l,f,i,j⟩⟩
structure pU (w:zW) (Q4:Nat) (l:zV) (n m:Nat) (xs news:List zV) (v':zV) (w':zW):Prop where
 new:w'.ownsRow Q4 9 1 v' (n+m) (xs++news)
 old:w'.ownsRow Q4 9 1 l n xs
 grown:w.grownBy w' l.ownBlock
 at_:v'.ownBlock=l.ownBlock\/((∀ g,v'.ownBlock=A g->w.heap.size<=g)/\w.grownBy w' none)
def qr:(prog.info? 9).map (λi=>(i.zero,i.size,i.bytes))=A (A (Q []),1,16):=by kernel_rfl
def T3 (y:TypeId) (h:w.ownsRow Q4 9 1 l n xs) (M:Q4<=w.heap.size) (W:n<=1000) {s:zD} {c:Nat} (QV:0<m) (R:m<=10) (S:G news=m) (b:∀ j u,news[j]?=A u->w.cell? (s.add j)=A u) (H:∀ u∈news,u.oneCell'=true) :
  ∃ K w',(Builtin.append_ #[24,24] y #[l,B (A s) m c]).run prog w=.ok K w'/\pU w Q4 l n m xs news K w':=by
 obtain ⟨z,F,q,i,x⟩:=fe qr;have t:G xs=n:=by have:=h.1;omega
 have r:n+m<=maxLen:=(by unfold maxLen;omega);rcases h.2 with ⟨rfl,rfl⟩|⟨g,d,f,rfl,v',N,T,O,V,Q5⟩
 .have C:xs=[]:=oD t;subst C;obtain ⟨K,w',v,e,a,_⟩:=run_append_own (P:=prog) w w.heap.size _ y _ z _ 1 16 underlying24 F q i x rfl (by decide) (zN) 0 [] (eW _ _ _ _) s m c news (by omega) b H r (by omega) (aG _);have p:=fJ e;refine ⟨K,w',v,⟨⟨e.1,?_⟩,eW _ _ _ _,a,zZ ⟨λg a=>(p g a).1,a⟩⟩⟩;rcases e.2 with E|⟨g,d,f,U,L,D⟩
  .exact zR E
  .exact zZ ⟨g,d,f,U,by omega,D⟩
 .by_cases o:n+m<=d
  .obtain ⟨w',v,e,a⟩:=run_append_fits (P:=prog) w Q4 _ y _ z 1 underlying24 F i g n d xs h s m c news (by omega) b H o;exact ⟨_,w',v,⟨e,qn e t,a,zR rfl⟩⟩
  .obtain ⟨K,w',v,e,a⟩:=run_append_arg_grows (P:=prog) w _ y _ z _ 1 16 underlying24 F q i x rfl (by decide) (yh g) n d xs (by omega) (World.ownsRow.cells h rfl) s m c news (by omega) b (by omega) r (by omega);have p:=fJ e;refine ⟨K,w',v,⟨⟨e.1,?_⟩,Ps h a rfl,⟨a.os,a.tape,a.output,a.size,λk Y _=>a.block k Y (by simp)⟩,zZ ⟨λg a=>(p g a).1,a⟩⟩⟩;rcases e.2 with E|⟨g,d,f,U,L,D⟩
   .exact zR E
   .exact zZ ⟨g,d,f,U,by omega,D⟩
def rQ {d:Array Oper} {rest:List Oper} {o:Oper} {a:Act} {D:Exit->Act->zW->Prop} (g:o.guard=none) (s x:Operand)
  (Q0:o.op=.call { callee:=.builtin .append,args:=#[s,x],argTypes:=#[24,24] }) (i:zD) (c:Nat) (hs:a.eval s=l) (C:a.eval x=B (A i) m c) (h:w.ownsRow Q4 9 1 l n xs) (k:Q4<=w.heap.size) (t:n<=1000) (e:0<m) (y:m<=10) (z:G news=m) (b:∀ j u,news[j]?=A u->w.cell? (i.add j)=A u) (p:∀ u∈news,u.oneCell'=true)
  (q:∀ v' w',pU w Q4 l n m xs news v' w'->wpList prog d D rest (a.put o.dst v') w'):wpList prog d D (o::rest) a w:=by
 obtain ⟨v',w',v,r⟩:=T3 (c:=c) o.type h k t e y z b p;refine wpList_plain g λE f=>?_;unfold Oper.wp;simp [execOp,Q0,resolve,invoke,builtin,hs,C,v,Result.andThen];exact f _ _ (q v' w' r)
end
end Go.Proofs.YtihgojcfpnhelaaGreatDoor
