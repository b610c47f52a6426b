import Derived.Test.YtihgojcfpnhelaaGreatDoorDa
import Derived.Test.YtihgojcfpnhelaaGreatDoorHl
set_option maxRecDepth 100000
set_option maxHeartbeats 4000000
set_option linter.all false
namespace Go.Proofs.YtihgojcfpnhelaaGreatDoor
open Value renaming slice->B,agg->zd,tuple->zp,pointer->zK
open Obj renaming cells->zM
open Ending renaming returned->zP
open Option renaming some->A
open Or renaming inl->zR,inr->zZ
open Go renaming World->zW,Value->zV,Calls->zC,Addr->zD
open Go.RowKit Go.Proofs.Tryz
open List renaming length→G
def Iw (x y:By) (p:Pt) (w:zW) (e:Ending) (w':zW):Prop:=
 ∃ (a:Option zD) (l c:Nat),e=zP (zd #[J ((aR x y p).k:Int),Q ((aR x y p).nm),J ((aR x y p).n:Int),B a l c])/\dR w' (λq=>w.heap.size<=q/\q<w'.heap.size) (aR x y p) a l c/\zB w w'
def yD (x y:By) (p:Pt):(aR x y p).k=p.k/\(aR x y p).n=p.n/\(aR x y p).kids=p.kids.map (aR x y):=by
 cases p<;>exact ⟨rfl,rfl,rfl⟩
def UN (x y:By) (k n:Int) (nm C:By) (w:zW) (a:(k=2/\nm=x/\C=y)\/(k=2/\nm≠x/\C=nm)\/(k≠2/\C=nm)) :
  zC prog 222 #[zd #[J k,Q nm,J n,zN],Q x,Q y] w λe H=>e=zP (zd #[J k,Q C,J n,zN])/\zB w H:=by
 have D:=I (λw=>UK w);rcases a with ⟨rfl,rfl,rfl⟩|⟨rfl,E,rfl⟩|⟨a,rfl⟩
 .have b:(nm == nm)=true:=(by simp);go_in;go_wp2_with (go_at_call 248;refine (D.o _).m ?_;rintro e F ⟨rfl,rfl⟩);go_loopg [27] 0 (λ_ s wr=>s=J 0/\wr=(w.alloc (zM #[J 2,Q C,J n,zN] 87)).alloc (zM #[J 0,Q [],J 0,zN] 87))
  case atStart=>exact ⟨rfl,rfl⟩
  case round=>
   obtain ⟨rfl,rfl⟩:=hrel;go_wp2;refine aK (v:=zd #[J 2,Q C,J n,zN]) (by simp [results,results222,go_sem]) rfl ?_;exact ⟨rfl,aY w _ _⟩
 .have b:(C == x)=false:=(by simp [E]);clear E;go_in;go_wp2_with (go_at_call 248;refine (D.o _).m ?_;rintro e F ⟨rfl,rfl⟩);go_loopg [27] 0 (λ_ s wr=>s=J 0/\wr=(w.alloc (zM #[J 2,Q C,J n,zN] 87)).alloc (zM #[J 0,Q [],J 0,zN] 87))
  case atStart=>exact ⟨rfl,rfl⟩
  case round=>
   obtain ⟨rfl,rfl⟩:=hrel;go_wp2;refine aK (v:=zd #[J 2,Q C,J n,zN]) (by simp [results,results222,go_sem]) rfl ?_;exact ⟨rfl,aY w _ _⟩
 .have b:(k == 2)=false:=bo.2 a;clear a;go_in;go_wp2_with (go_at_call 248;refine (D.o _).m ?_;rintro e F ⟨rfl,rfl⟩);go_loopg [27] 0 (λ_ s wr=>s=J 0/\wr=(w.alloc (zM #[J k,Q C,J n,zN] 87)).alloc (zM #[J 0,Q [],J 0,zN] 87))
  case atStart=>exact ⟨rfl,rfl⟩
  case round=>
   obtain ⟨rfl,rfl⟩:=hrel;go_wp2;refine aK (v:=zd #[J k,Q C,J n,zN]) (by simp [results,results222,go_sem]) rfl ?_;exact ⟨rfl,aY w _ _⟩
def yG (x y:By) (k n:Int) (nm:By) (C:List KR) (w:zW) (e:Ending) (w':zW):Prop:=
 ∃ (g a:Nat) (b:List KR) (D:zW),e=zP (zd #[J k,Q nm,J n,zS g (G C) a])/\UM x y k n nm w D g a C b/\G b=G C/\(∀ q,q≠w.heap.size+1->w'.heap[q]?=D.heap[q]?)/\zB w w'/\w'.heap.size=D.heap.size
def UO (x y:By) (k n:Int) (nm h:By) (w:zW) (Y:k≠2/\h=nm) (H:List KR) (g c:Nat) (h1:1<=G H) (h3:G H<=3) (hg:g<w.heap.size) (hc:∀ j u,(ky H)[j]?=A u->w.cell? (X g j)=A u)
  (hI:∀ j (hj:j<G H) W,zB w W->zC prog 222 #[zd #[J (H[j].1.k:Int),Q H[j].1.nm,J (H[j].1.n:Int),B H[j].2.1 H[j].2.2.1 H[j].2.2.2],Q x,Q y] W (Iw x y H[j].1 W)) :
  zC prog 222 #[zd #[J k,Q nm,J n,zS g (G H) c],Q x,Q y] w (yG x y k n h H w):=by
 obtain ⟨Y,rfl⟩:=Y;have q1:(k == 2)=false:=bo.2 Y;obtain ⟨t,R⟩:∃ t,t=(w.alloc (zM #[J k,Q h,J n,zS g (G H) c] 87)).alloc (zM #[J 0,Q [],J 0,zN] 87):=⟨_,rfl⟩;have N:t.heap.size=w.heap.size+1+1:=(by rw [R];simp);have V:zB w t:=by rw [R];exact aY w _ _
 have M:t.heap[w.heap.size]?=A (zM #[J k,Q h,J n,zS g (G H) c] 87 (0,0)):=by
  rw [R,cj _ _ _ (by simp)];exact bL w _
 have S:t.heap[w.heap.size+1]?=A (zM #[J 0,Q [],J 0,zN] 87 (0,0)):=by
  rw [R];exact bc w _ _ _
 have w2:=I (La H g c t h1 h3 (λj u hj=>(V.cell (p:=X g j) hg).t (hc j u hj)));have HI:=I hI;have Gc:=I R;have HR:=I (And.intro M S);have O:=I V;have Z:=I N;clear hc hI Y R V M S N;go_in;go_wp2_with (go_at_call 248;rw [<- Gc.o];refine mo w2.o ?_;rintro ka w1 ⟨f,l,rfl,C,T⟩);obtain ⟨M,S⟩:=HR.o;have kp:w.heap.size<t.heap.size:=by have:=Z.o;omega
 have kc:w.heap.size+1<t.heap.size:=by have:=Z.o;omega
 have s:=(T.block _ kp).t M;have R1:=(T.block _ kc).t S;obtain ⟨⟨k0,k1,k2,e⟩,⟨f0,f1,f2,f3⟩,Q5⟩:=aX s;have k3:=I (show UM x y k n h w (w1.setCell (X w.heap.size 3) (zS f (G H) l)) f l H [] by
  refine ⟨((O.o.t (T.m O.o.size)).setCell (p:=X w.heap.size 3) (aG _) _),?_,?_,?_,bE _,λak hi=>by simp at hi⟩
  .rw [aj s];rfl
  .rw [cY _ _ _ _ (by show w.heap.size+1≠w.heap.size;omega)];exact R1
  .have:=ym (a:=X w.heap.size 3) C (by show w.heap.size<t.heap.size;exact kp) (zS f (G H) l);rw [Z.o] at this;exact this)
 clear C T s R1 M S w2;apply I;go_wp2_with fail;go_loopg [27] (G H) (λgk kl wr=>∃ b:List KR,kl=J (G b)/\G H<=G b+gk/\Hid (UM x y k n h w wr f l H b))
 case atStart=>exact ⟨[],rfl,(by simp),k3⟩
 case round=>
  obtain ⟨b,rfl,xA,d⟩:=hrel;clear k0 k1 k2 e f0 f1 f2 f3 Q5;have ad:=d.o.le;obtain ⟨⟨k0,k1,k2,e⟩,⟨f0,f1,f2,f3⟩,Q5⟩:=aX d.o.p;obtain ⟨⟨z0,z1,z2,z3⟩,⟨y0,y1,y2,y3⟩,aa⟩:=aX d.o.R;by_cases lX:G b<G H
  .have Q6:(G b:Int)<(G H:Int):=(by omega);have D:(b++H.drop (G b))[G b]'(by simp;omega)=H[G b]:=(by simp);have L:=Dp (b++H.drop (G b)) (G b) (by simp;omega);rw [D] at L;have p1:=I L;have e0:=(d.o.own.cellAt (G b*4) (by omega)).t L.1;have e1:=(d.o.own.cellAt (G b*4+1) (by omega)).t L.2.1;have e2:=(d.o.own.cellAt (G b*4+2) (by omega)).t L.2.2.1;have e3:=(d.o.own.cellAt (G b*4+3) (by omega)).t L.2.2.2;obtain ⟨ac,U⟩:=d.o.own.lt f rfl;have Q0:=I (λW (E:zB wr W)=>HI.o (G b) lX W (d.o.bS.t (E.m d.o.bS.size)));clear L D;generalize ks:H[G b]=kj at *;obtain ⟨K,i,q,m⟩:=kj;have QT:=I ks;clear ks;simp only at e0 e1 e2 e3;have BI:=I (show ∀ W,zB wr W->zC prog 222 #[zd #[J K.k,Q K.nm,J K.n,B i q m],Q x,Q y] W (Iw x y K W) from Q0.o);have Q4:=I (show ∀ P,zB wr P->P.cell? (X w.heap.size 3)=A (zS f (G H) l)/\(P.cell? (X f (G b*4))=A (J K.k)/\P.cell? (X f (G b*4+1))=A (Q K.nm)/\P.cell? (X f (G b*4+2))=A (J K.n)/\P.cell? (X f (G b*4+3))=A (B i q m))/\(∀ o,P.frozen? (X f o)=false) from λP E=>by
    have ho:=aZ d.o.own E;exact ⟨(E.cell (p:=X w.heap.size 3) (by show w.heap.size<_;omega)).t e,⟨(E.cell (p:=X f (G b*4)) U).t e0,(E.cell (p:=X f (G b*4+1)) U).t e1,(E.cell (p:=X f (G b*4+2)) U).t e2,(E.cell (p:=X f (G b*4+3)) U).t e3⟩,λo=>ho.frozenAt o⟩)
   have z:=I (show zB wr (wr.alloc (zM #[J K.k,Q K.nm,J K.n,B i q m] 87)).drew from (bZ _).drew);have ag:G b<=3:=(by omega);clear Q0;go_wp2_with fail
   go_region_with (first|(go_at_call 222;refine (BI.o _ z.o).m ?_;rintro ka P ⟨a',l',c',rfl,hP,F⟩;obtain ⟨m0,⟨m1,m2,m3,m4⟩,r⟩:=Q4.o _ (z.o.t (F.m z.o.size));have n0:=r (G b*4);have n1:=r (G b*4+1);have n2:=r (G b*4+2);have n3:=r (G b*4+3);have B1:=I hP;have B2:=I F;clear hP F r))
   all_goals go_wp2_with fail
   all_goals go_roundg (G H - (G b+1))
   all_goals try (case measure=>omega)
   all_goals exact ⟨b++[(aR x y K,a',l',c')],(by simp),by simp;omega,I (d.o.step z.o B2.o (aR x y K,a',l',c') lX (by rw [QT.o]) B1.o)⟩
  .have QV:G b=G H:=(by omega);have Q6:¬ (G b:Int)<(G H:Int):=(by omega);have af:w.heap.size≠w.heap.size+1:=(by omega);go_wp2;refine aK (v:=zd #[J k,Q h,J n,zS f (G H) l]) (by simp [results,results222,go_sem,z0,z1,z2,z3]) rfl ?_;exact ⟨f,l,b,wr,rfl,d.o,QV,λal hq=>lx wr (w.heap.size+1) _ _ _ _ hq,(((d.o.bS.setCell (p:=yh (w.heap.size+1)) (by show w.heap.size<=w.heap.size+1;omega) _).setCell (p:=X (w.heap.size+1) 1) (by show w.heap.size<=w.heap.size+1;omega) _).setCell (p:=X (w.heap.size+1) 2) (by show w.heap.size<=w.heap.size+1;omega) _).setCell (p:=X (w.heap.size+1) 3) (by show w.heap.size<=w.heap.size+1;omega) _,by simp⟩
def Lb (x y:By) {w0:zW} {S:Nat->Prop} {p:Pt} {a:Option zD} {l c:Nat} (hP:dR w0 S p a l c):∀ w,az p->(∀ q,S q->q<w.heap.size/\w.heap[q]?=w0.heap[q]?) ->
  zC prog 222 #[zd #[J p.k,Q p.nm,J p.n,B a l c],Q x,Q y] w (Iw x y p w):=by
 induction hP with
 | leaf p F=>
  intro w _ _;cases p with
  | atom k K n=>
   refine (UN x y (k:Int) (n:Int) K (if k=2/\K=x then y else K) w ?_).m ?_
   .by_cases N:k=2
    .by_cases U:K=x
     .exact zR ⟨by omega,U,by simp [N,U]⟩
     .exact zZ (zR ⟨by omega,U,by simp [U]⟩)
    .exact zZ (zZ ⟨by omega,by simp [N]⟩)
   .rintro g' w' ⟨rfl,Y⟩;exact ⟨none,0,0,rfl,dR.leaf _ rfl,Y⟩
  | un k a=>simp [Pt.kids] at F
  | bin k a b=>simp [Pt.kids] at F
  | ifs a b c=>simp [Pt.kids] at F
 | node p g QT W L C z F hc _ ih=>
  intro w V O;have d:p.k≠2/\p.nm=[]/\(aR x y p).nm=[]:=by
   cases p with
   | atom k K n=>simp [Pt.kids] at F
   | un k a=>exact ⟨by have:=V.1;show k≠2;omega,rfl,rfl⟩
   | bin k a b=>exact ⟨by have:=V.1;show k≠2;omega,rfl,rfl⟩
   | ifs a b c=>exact ⟨by show (3:Nat)≠2;omega,rfl,rfl⟩
  have aa:G p.kids<=3:=(by cases p<;>simp [Pt.kids]);have hg:1<=G p.kids:=BB.2 F;obtain ⟨H,e⟩:∃ H:List KR,H=(List.range (G p.kids)).map λj=>((p.kids[j]?).getD (.atom 1 [] 0),W j,L j,C j):=⟨_,rfl⟩;have m:G H=G p.kids:=by rw [e];simp
  have f:∀ j (h:j<G H),H[j]=(p.kids[j]'(by omega),W j,L j,C j):=λj h=>by
   have h':j<G p.kids:=(by omega);simp [e,h']
  have h2:=V.get;have:=UO x y (p.k:Int) (p.n:Int) p.nm p.nm w ⟨by have:=d.1;omega,rfl⟩ H g QT (by omega) (by omega) (O g z).1 (λj ac E=>?_) (λj E Q0 u=>?_)
  .rw [m] at this;refine this.m ?_;rintro g' w' ⟨t,nm,ns,w2,rfl,T,r,Q5,Y,hx⟩;obtain ⟨hW,Q6⟩:=T.own.lt t rfl;obtain ⟨e1,e2,e3⟩:=yD x y p;refine ⟨A (yh t),G p.kids,nm,by rw [e1,e2,d.2.1,d.2.2,m],?_,Y⟩;have hd:H.drop (G ns)=[]:=List.drop_eq_nil_of_le (by omega);have ks:=T.own;rw [hd,iq,<- r] at ks;have s:=dR.row (S:=λq=>w.heap.size+1<q/\q<w2.heap.size) ks (λad hz=>?_) ⟨by omega,Q6⟩ (aR x y p) ?_ (by intro h;rw [h] at r;simp at r;omega)
   .rw [r,m] at s;exact (s.next λq P=>Q5 q (by omega)).wide λq P=>⟨by omega,by rw [hx];exact P.2⟩
   .obtain ⟨i,R,rfl⟩:=e9 hz;exact (T.kid i R).2.wide λq P=>⟨P.1,P.2.1⟩
   .rw [e3];refine rC (by simp;omega) λi h1 N=>?_;simp only [kJ];rw [(T.kid i (by simpa using N)).1,f]
  .rw [aS (O g z).2];have Q4:j<(ky H).length:=(fI.1 E).1;rw [ur] at Q4;have R:j / 4<G H:=(by omega);have o:=Dp H (j / 4) R;have c4:=hc (j / 4) (by omega);rw [f _ R] at o;rcases (show j=j / 4*4\/j=j / 4*4+1\/j=j / 4*4+2\/j=j / 4*4+3 by omega) with D|D|D|D
   .rw [<- D] at o c4;rw [c4.1,<- E];exact o.1.symm
   .rw [<- D] at o c4;rw [c4.2.1,<- E];exact o.2.1.symm
   .rw [<- D] at o c4;rw [c4.2.2.1,<- E];exact o.2.2.1.symm
   .rw [<- D] at o c4;rw [c4.2.2.2,<- E];exact o.2.2.2.symm
  .rw [f j E];have Z:j<G p.kids:=(by omega);exact ih j Z Q0 (h2 j Z) λM v=>⟨bG (O M v).1 u.size,(u.block M (O M v).1).t (O M v).2⟩
def Aa {fs:List (Nat × Fd)} {x:By} {f:Nat × Fd} (h:ah fs x=A f):iQ fs x=A (yh f.1):=by simp [iQ,h]
def yH {S:Nat->Prop} (e c:Nat) (a:Option zD) (fs:List (Nat × Fd)) (f:Nat × Fd) (x:By) (p:Pt) (n:Option zD) (s t:Nat) (w:zW) (V:Option zD->Nat->Nat->zV->Int->zW->Prop) (hs:Sh w S a fs) (L:w.cell? (yh e)=A (B a (G fs) c)) (y:e<w.heap.size) (Q5:G fs<=100) (h:ah fs x=A f) (Q0:f.1≠e)
  (m:∀ d b w1,w1.heap[f.1]?=A (zM #[Q f.2.nm,J p.k,Q p.nm,J p.n,B n s t,J f.2.v.1,J f.2.v.2] 223 (0,0))->Ks (λq=>q=f.1) w w1 ->
   (∃ (i:Option zD) (k l:Nat),w.heap[f.1]?=A (zM #[Q f.2.nm,J (f.2.p.k:Int),Q f.2.p.nm,J (f.2.p.n:Int),B i k l,J f.2.v.1,J f.2.v.2] 223 (0,0))/\w.heap.size<=d/\w.heap.size<=b/\d≠b/\w1.heap[d]?=A (zM #[zK (A (X f.1 1))] 251 (0,0))/\w1.heap[b]?=A (zM #[J (f.2.p.k:Int),Q f.2.p.nm,J (f.2.p.n:Int),B i k l] 89 (0,0))) ->
   zC prog 161 #[zJ e,zK (A (yh f.1)),.func (.func 191) #[] #[zJ d,zJ b]] w1 λr K=>∃ (g:Option zD) (ln cn:Nat) (bk:zV) (er:Int),r=zP (zp #[B g ln cn,bk,J er])/\V g ln cn bk er K) :
  zC prog 133 #[zJ e,Q x,zd #[J p.k,Q p.nm,J p.n,B n s t]] w λr K=>∃ (g:Option zD) (ln cn:Nat) (bk:zV) (er:Int),r=zP (zp #[B g ln cn,bk,J er])/\V g ln cn bk er K:=by
 have U:=I (λW (F:zB w W)=>kQ x e c a fs W (hs.next F) ((F.cell (p:=yh e) y).t L) (by omega));rw [Aa h] at U;have E:=hs.bX f (fE h).1;obtain ⟨_,_,_,_,i,k,l,u,_⟩:=E;have Y:=(cz.1 u).1;have j:=I (λW (o:zB w W)=>(JO f.1 (Q f.2.nm) (J f.2.v.1) (J f.2.v.2) f.2.p.k f.2.p.nm f.2.p.n i k l p.k p.nm p.n n s t 223 W ((o.block f.1 Y).t u)).m (R':=λC w1=>∃ d b,C=zP (.func (.func 191) #[] #[zJ d,zJ b])/\Hid (zC prog 161 #[zJ e,zK (A (yh f.1)),.func (.func 191) #[] #[zJ d,zJ b]] w1 λr K=>∃ (g:Option zD) (ln cn:Nat) (bk:zV) (er:Int),r=zP (zp #[B g ln cn,bk,J er])/\V g ln cn bk er K)) (by
  rintro C w1 ⟨d,b,rfl,N,O,T,P,M,R,Z⟩;exact ⟨d,b,rfl,m d b w1 R ((Ks.of o).t Z) ⟨i,k,l,u,bf o.size N,bf o.size O,T,P,M⟩⟩))
 clear hs u m h;go_in;go_wp2_with (go_at_call 137;refine mo (U.o _ (bZ _)) ?_;rintro r w1 ⟨rfl,rfl⟩);apply I;clear U;have w':=I (j.o (w.alloc (zM #[J p.k,Q p.nm,J p.n,B n s t] 89)).drew (bZ _).drew);clear j;go_wp2_with fail
 go_region_with (first
  | (go_at_call 162;refine w'.o.m ?_;rintro C w2 ⟨d,b,rfl,D⟩)
  | (go_at_call 161;refine D.o.m ?_;rintro r w3 ⟨g,ln,cn,bk,er,rfl,H⟩;have z:=I H;clear H))
 all_goals go_wp2
 all_goals refine aK (v:=zp #[B g ln cn,bk,J er]) (by simp [results,results133,go_sem]) (by simp [go_sem]) ?_
 all_goals exact ⟨g,ln,cn,bk,er,rfl,z.o⟩
def qo (g:Nat) (t:TypeId):∀ (e:List zV) (o:Nat) (w:zW) (a:Array zV),w.heap[g]?=A (zM a t (0,0))->o+G e<=a.size->∃ b,(w.setCells g o e).heap[g]?=A (zM b t (0,0))/\b.size=a.size/\b.toList=a.toList.take o++e++a.toList.drop (o+G e)
 | [],o,w,a,h,f=>⟨a,h,rfl,by simp⟩
 | v::r,o,w,a,h,f=>by
  simp only [gS] at f;obtain ⟨b,k,C,l⟩:=qo g t r (o+1) (w.setCell (X g o) v) (a.setIfInBounds o v) (aj h o v) (by simp;omega);refine ⟨b,k,by simpa using C,?_⟩;rw [l];have i:o<G a.toList:=(by simp;omega);have c:(a.setIfInBounds o v).toList=a.toList.take o++v::a.toList.drop (o+1):=by
   rw [Array.toList_setIfInBounds,List.set_eq_take_append_cons_drop,aB i]
  have d:(a.toList.take o).length=o:=by simp at i ⊢;omega
  have e1:(a.setIfInBounds o v).toList.take (o+1)=a.toList.take o++[v]:=by
   rw [c,List.take_append,d,qy (by omega)];simp
  have j:(a.setIfInBounds o v).toList.drop (o+1+G r)=a.toList.drop (o+(v::r).length):=by
   rw [c,List.drop_append,d,nY (by omega),ko,show o+1+G r - o=G r+1 by omega,List.drop_succ_cons,List.drop_drop];congr 1;simp;omega
  rw [e1,j];simp
def mn (g:Nat):∀ (a:List zV) (o:Nat) (w:zW),Ks (λq=>q=g) w (w.setCells g o a)/\(w.setCells g o a).heap.size=w.heap.size
 | [],o,w=>⟨Ks.refl _ _,rfl⟩
 | v::r,o,w=>by
  obtain ⟨b,c⟩:=mn g r (o+1) (w.setCell (X g o) v);exact ⟨((Ks.refl (λq=>q=g) w).set g o v rfl).t b,by show ((w.setCell (X g o) v).setCells g (o+1) r).heap.size=_;rw [c];simp⟩
def o9 (g:Nat):∀ (a:List zV) (o:Nat) (w:zW),w.drew.setCells g o a=(w.setCells g o a).drew
 | [],_,_=>rfl
 | v::r,o,w=>o9 g r (o+1) (w.setCell (X g o) v)
def zf (Q4 g b i m:Nat) (K:List zV) (w:zW) (ho:w.ownsRow Q4 151 1 (zS g (m+1) b) (m+1) K) (hi:i<=m) (hm:m<=1000) (r:∀ v,v∈K->v.oneCell'=true) :
  zC prog 136 #[zS g (m+1) b,J i,J ((i:Int)+1)] w λi1 w'=>i1=zP (zS g m b)/\Ks (λq=>q=g) w w'/\w'.ownsRow Q4 151 1 (zS g m b) m (K.eraseIdx i):=by
 obtain ⟨y,Z,k3,p,pD⟩:=fe mV;obtain ⟨O,Q0⟩:=ho;rcases Q0 with ⟨M,_⟩|⟨g',ac,F,M,hB,o,ad,Q5,k,s⟩
 .cases M
 cases M;simp only [nL] at O k s;have f:∀ j,j<m+1->w.cell? (X g j)=K[j]?:=λj x=>by
  rw [bq w g j _ _ _ o,<- s];simp [x]
 have L:∀ j,w.frozen? (X g j)=false:=λj=>bF o j;have xs:∀ j,j<m+1->(w.cell? (X g j)).isSome=true:=λj x=>by
  rw [f j x];simp [O,x]
 have z:∃ a,(w.setCells g i (K.drop (i+1))).heap[g]?=A (zM a 151 (0,0))/\a.size=b/\a.toList.take m=K.eraseIdx i/\∃ u,a.toList[m]?=A u:=by
  obtain ⟨a,H,k2,Y⟩:=qo g 151 (K.drop (i+1)) i w F o (by simp [O];omega);refine ⟨a,H,by omega,?_,?_⟩
  .rw [Y,EB];have e1:F.toList.take i=K.take i:=by rw [<- s,List.take_take,show min i (m+1)=i by omega]
   rw [e1,F6 (by simp [O];omega)];exact qy (by simp [O];omega)
  .have:m<G a.toList:=(by simp;omega);exact ⟨a.toList[m],cU this⟩
 have l:∀ (W:zW) (c:Nat),W.heap=(w.setCells g i (K.drop (i+1))).heap->(Builtin.clear_ #[104] 0 #[B (A (X g m)) 1 c]).run prog W=.ok (zp #[]) (W.setCells g m [.nilFunc]):=λW c hW=>by
  obtain ⟨a,H,k2,_,u,k4⟩:=z;have t:W.heap[g]?=A (zM a 151 (0,0)):=by rw [hW];exact H
  have:=Lib.run_clear_slice (P:=prog) W 104 151 0 .nilFunc underlying104 (λW=>by simp [zeroValue,typeInfo,Z,k3]) rfl rfl g m 1 c (by omega) (λj x=>by
   obtain rfl:j=0:=(by omega);rw [k7,bq W g m _ _ _ t];rw [show a[m]?=a.toList[m]? from (by simp),k4];rfl) (λj x=>bF t _)
  exact this
 have n:=I (show ∀ W:zW,W.os=w.os->W.tape=w.tape->W.output=w.output->W.heap=(w.setCells g i (K.drop (i+1))).heap->Ks (λq=>q=g) w (W.setCells g m [.nilFunc])/\(W.setCells g m [.nilFunc]).ownsRow Q4 151 1 (zS g m b) m (K.eraseIdx i) from λW M h2 R V=>by
  obtain ⟨a,H,k2,Y,_⟩:=z;have t:W.heap[g]?=A (zM a 151 (0,0)):=by rw [V];exact H
  obtain ⟨a1,a2⟩:=mn g (K.drop (i+1)) i w;have QV:Ks (λq=>q=g) w W:=⟨M,h2,R,by rw [V,a2];exact aG _,λhx hk hn=>by rw [V];exact a1.block hx hk hn⟩;obtain ⟨b1,b2⟩:=mn g [.nilFunc] m W;refine ⟨QV.t b1,by simp [List.length_eraseIdx,O];omega,zZ ?_⟩;obtain ⟨QT,c1,c2,c3⟩:=qo g 151 [.nilFunc] m W a t (by simp;omega);refine ⟨g,b,QT,rfl,hB,c1,by omega,Q5,by omega,?_⟩;rw [nL,c3,kI,F6 (by simp;omega),List.take_take,Nat.min_self];exact Y)
 have q1:(i:Int)<=(i:Int)+1:=(by omega);have q2:(i:Int)+1<=(m:Int)+1:=(by omega);have q3:(m:Int)+1<=(b:Int):=(by omega);have q4:(i:Int)<=(b:Int):=(by omega);have q5:(i:Int)+1<=(b:Int):=(by omega);have q6:((i:Int) == (i:Int)+1)=false:=bo.2 (by omega);have q7:(i:Int)<=(m:Int)+1:=(by omega);have q8:(0:Int)<=(i:Int)+1:=(by omega);have q9:(0:Int)<=(m:Int)+1:=(by omega);have ag:(m:Int)<=(m:Int)+1:=(by omega);have ak:(m:Int)<=(b:Int):=(by omega);have al:¬ b=m:=(by omega);have JL:=I f;have Q6:=I xs;have h4:=I L;have U:=I O;have HX:=I r;clear o f xs L s k O z r;go_in;go_wp2_with fail;have N:(K.drop (i+1)).length=m+1 - (i+1):=by simp [U.o]
 have E:=I N;clear N;have af:IntKind.i64.wrap ((m:Int))=(m:Int):=(by rw [IntKind.wrap_i64];omega);by_cases D:b=i+1
 .obtain rfl:i=m:=(by omega);subst D
  go_region_law (refine step_append_room (by rfl) (.tmp 22) (.tmp 25) 104 (by rfl) 151 y 1 underlying104 Z p g 0 i (i+1) (by rfl) (yh g) 0 0 [] (by rfl) rfl (λj u h=>by simp at h) (λu h=>by simp at h) (by omega) (λj h=>by simp at h) ?_)
  all_goals go_wp2_with fail
  all_goals have e:(w.drew.setCells g i []).heap=(w.setCells g i (K.drop (i+1))).heap:=by rw [o9,nY (by rw [U.o];exact aG _)];rfl
  all_goals have C:=l _ 1 e
  all_goals have d:=(mn g [] i w.drew).1
  all_goals obtain ⟨f1,f2⟩:=n.o _ d.os d.tape d.output e
  all_goals have S:=I f1
  all_goals have T:=I f2
  all_goals clear e d f1 f2 l n
  all_goals rw [C]
  all_goals go_wp2
  all_goals refine aK (v:=zS g i (i+1)) (by simp [results,results136,go_sem]) (by simp [go_sem]) ?_
  all_goals exact ⟨rfl,S.o,T.o⟩
 .have y1:¬ b=i+1:=D;have aa:=I (show ∀ j u,(K.drop (i+1))[j]?=A u->w.drew.cell? (((X g (i+1)):zD).add j)=A u from λj u h=>by
   rw [qz] at h;have x:i+1+j<m+1:=by
    have:=(fI.1 h).1;have:=U.o;omega
   have R:=JL.o (i+1+j) x;rw [h] at R;have F1:((X g (i+1)):zD).add j=(X g (i+1+j)):=by unfold Addr.add;split<;>simp_all
   rw [F1];exact R)
  go_region_law (refine step_append_room (by rfl) (.tmp 22) (.tmp 25) 104 (by rfl) 151 y 1 underlying104 Z p g 0 i b (by rfl) (X g (i+1)) (m - i) (b - (i+1)) (K.drop (i+1)) (by rfl) (by rw [E.o];omega) aa.o (λu h=>HX.o u (lD h)) (by omega) (λj h=>by rw [E.o] at h;simp only [nL,cS];exact ⟨Q6.o (i+j) (by omega),h4.o _⟩) ?_)
  all_goals go_wp2_with fail
  all_goals have e:(w.drew.setCells g i (K.drop (i+1))).heap=(w.setCells g i (K.drop (i+1))).heap:=by rw [o9];rfl
  all_goals have C:=l _ (b - m) e
  all_goals have d:=(mn g (K.drop (i+1)) i w.drew).1
  all_goals obtain ⟨f1,f2⟩:=n.o _ d.os d.tape d.output e
  all_goals have S:=I f1
  all_goals have T:=I f2
  all_goals clear e d f1 f2 l n
  all_goals rw [C]
  all_goals go_wp2
  all_goals refine aK (v:=zS g m b) (by simp [results,results136,go_sem]) (by simp [go_sem]) ?_
  all_goals exact ⟨rfl,S.o,T.o⟩
section
section
def eN (fs:List Fd) (x:By):Vl:=match fs.find? (λf=>f.nm == x) with|some f=>f.v|none=>(3,3)
section
variable {Ed:zW->Nat->List Fd->Prop}
end
def yI (m:Nat) (h:m<=gP):∃ c r,Lib.decDigits m=c::r/\c≠32/\kv (c::r)/\di (c::r)=true/\ij (c::r) 1/\ej (c::r)=[]/\fw (c::r)=m/\(c::r).length<=19:=by
 obtain ⟨b,d,i⟩:=UX m;have e:(Lib.decDigits m).length<=19:=Sb 18 m (by unfold gP at h;omega);cases f:Lib.decDigits m with
 | nil=>exact absurd f i
 | cons c r=>
  rw [f] at b d e;have g:cT c=true:=b c il;have a:ae (c::r)=true:=g;refine ⟨c,r,rfl,?_,b,?_,zR ⟨a,rfl⟩,?_,?_,e⟩
  .rintro rfl;revert g;decide
  .simp only [di,a,jq,d];simp [h];simpa using e
  .simp [ej,a]
  .simp only [fw,a,jq];exact d
end
end
def xZ (e:Nat) (K:Int->Option zD->Nat->Nat->zW->Prop) (q:Nat) (row:Obj) (r:Ending) (w1:zW):Prop:=
 ∃ (E:Option zD) (H F:Nat) (D:zV) (C:Int),r=zP (zp #[B E H F,D,J C])/\w1.heap[q]?=A row /\
  ((C=0/\∃ N L,D=.func (.func N) #[] L/\zC prog 99 #[zK (A (X e 1)),.func (.func N) #[] L] w1 λr M=>r=zP (zp #[])/\M.heap[q]?=A row/\K 0 E H F M)\/(C≠0/\D=.nilFunc/\K C E H F w1))
def yJ (e:Nat) (z:Int) (Q4:Option zD) (ln cn:Nat) (k:Int) (nm:By) (n:Int) (t:Option zD) (x y:Nat) (w:zW) (K:Int->Option zD->Nat->Nat->zW->Prop) (D:∀ er a l c w1 j u,K er a l c w1->K er a l c (w1.setCell (X (w.heap.size+1) j) u))
  (F:∀ W,zB w W->w.heap.size+1<W.heap.size->W.heap[w.heap.size+1]?=A bM->zC prog 98 #[zJ e,zd #[J z,B Q4 ln cn,J k,Q nm,J n,B t x y]] W (xZ e K (w.heap.size+1) bM) ) :
  zC prog 65 #[zJ e,zd #[J z,B Q4 ln cn,J k,Q nm,J n,B t x y]] w λr w'=>∃ er C b d,r=zP (zd #[J er,J 0,Q [],B C b d,J 0,J 0])/\K er C b d w':=by
 have f:=I D;have p:=I ((F ((w.alloc (zM #[J z,B Q4 ln cn,J k,Q nm,J n,B t x y] 97)).alloc (zM #[J 0,J 0,Q [],zN,J 0,J 0] 39)) (aY _ _ _) (by simp) (bc w _ _ _)).m (R':=λr w1=>∃ (C:Option zD) (ln cn:Nat) (S:zV) (er:Int),r=zP (zp #[B C ln cn,S,J er])/\Hid (w1.heap[w.heap.size+1]?=A bM)/\Hid ((er=0/\∃ N U,S=.func (.func N) #[] U/\zC prog 99 #[zK (A (X e 1)),.func (.func N) #[] U] w1 λr V=>r=zP (zp #[])/\V.heap[w.heap.size+1]?=A bM/\K 0 C ln cn V)\/(er≠0/\S=.nilFunc/\K er C ln cn w1))) (by
  rintro r w1 ⟨C,ln,cn,S,er,O,q,cs⟩;exact ⟨C,ln,cn,S,er,O,q,cs⟩))
 clear F D;go_in;go_wp2_with (go_at_call 98;refine mo p.o ?_;rintro r w1 ⟨C,b,d,S,er,rfl,Q0,T⟩);apply I;clear p;obtain ⟨⟨G,H,s,bk,L,Q5⟩,⟨f0,f1,f2,f3,f4,f5⟩,Q6⟩:=bJ Q0.o;rcases T.o with ⟨rfl,N,U,rfl,g⟩|⟨Y,rfl,E⟩
 .have m:=I g;clear g T;go_wp2_with (go_at_call 99;refine mo m.o ?_;rintro r V ⟨rfl,q,i⟩);obtain ⟨⟨bn,Z,P,o,M,R⟩,⟨n0,QV,n2,n3,n4,n5⟩,w2⟩:=bJ q;have h:=I i;clear q i m;apply I;go_wp2;refine aK (v:=zd #[J 0,J 0,Q [],B C b d,J 0,J 0]) (by simp [results,results65,go_sem,bn,Z,P,o,M,R,w2]) rfl ?_;exact ⟨0,C,b,d,rfl,f.o _ _ _ _ _ _ _ (f.o _ _ _ _ _ _ _ (f.o _ _ _ _ _ _ _ (f.o _ _ _ _ _ _ _ (f.o _ _ _ _ _ _ _ (f.o _ _ _ _ _ _ _ h.o)))))⟩
 .have QT:(er == 0)=false:=(by simpa using Y);have h:=I E;clear E T Y;go_wp2;refine aK (v:=zd #[J er,J 0,Q [],B C b d,J 0,J 0]) (by simp [results,results65,go_sem,G,H,s,bk,L,Q5,Q6]) rfl ?_;exact ⟨er,C,b,d,rfl,f.o _ _ _ _ _ _ _ (f.o _ _ _ _ _ _ _ (f.o _ _ _ _ _ _ _ (f.o _ _ _ _ _ _ _ (f.o _ _ _ _ _ _ _ (f.o _ _ _ _ _ _ _ h.o)))))⟩
def Il (C:Ending->zW->Prop) (r:Ending) (w':zW):Prop:=∃ (E:Option zD) (K F:Nat) (D:zV) (H:Int),r=zP (zp #[B E K F,D,J H])/\C r w'
def KT (e c cn:Nat) (x:By) (k:Int) (nm:By) (n:Int) (d:Option zD) (f h:Nat) (w:zW) (C:Ending->zW->Prop) (o:w.cell? (yh c)=A (Q x)) (m:c<w.heap.size)
  (i:∀ W,zB w W->zC prog 133 #[zJ e,Q x,zd #[J k,Q nm,J n,B d f h]] W (Il C)) :
  zC prog 98 #[zJ e,zd #[J 1,zS c 1 cn,J k,Q nm,J n,B d f h]] w (Il C):=by
 have g:=I (i (w.alloc (zM #[J 1,zS c 1 cn,J k,Q nm,J n,B d f h] 97)).drew (bZ _).drew);clear i;go_in;go_wp2_with fail
 go_region_with (first|(go_at_call 133;refine g.o.m ?_;rintro r H ⟨E,a,b,D,F,rfl,j⟩;have l:=I j;clear j))
 all_goals go_wp2
 all_goals refine aK (v:=zp #[B E a b,D,J F]) (by simp [results,results98,go_sem]) (by simp [go_sem]) ?_
 all_goals exact ⟨E,a,b,D,F,rfl,l.o⟩
def KU (e c cn:Nat) (x:By) (k:Int) (nm:By) (n:Int) (g:Option zD) (h j:Nat) (w:zW) (C:Ending->zW->Prop) (o:w.cell? (yh c)=A (Q x)) (m:c<w.heap.size)
  (f:∀ W,zB w W->zC prog 134 #[zJ e,Q x] W (Il C)) :
  zC prog 98 #[zJ e,zd #[J 2,zS c 1 cn,J k,Q nm,J n,B g h j]] w (Il C):=by
 have d:=I (f (w.alloc (zM #[J 2,zS c 1 cn,J k,Q nm,J n,B g h j] 97)).drew (bZ _).drew);clear f;go_in;go_wp2_with fail
 go_region_with (first|(go_at_call 134;refine d.o.m ?_;rintro r H ⟨E,a,b,D,F,rfl,i⟩;have l:=I i;clear i))
 all_goals go_wp2
 all_goals refine aK (v:=zp #[B E a b,D,J F]) (by simp [results,results98,go_sem]) (by simp [go_sem]) ?_
 all_goals exact ⟨E,a,b,D,F,rfl,l.o⟩
def KV (e b cn:Nat) (x y:By) (k:Int) (nm:By) (n:Int) (g:Option zD) (h j:Nat) (w:zW) (C:Ending->zW->Prop) (p:w.cell? (yh b)=A (Q x)) (l:w.cell? (X b 1)=A (Q y)) (o:b<w.heap.size)
  (f:∀ W,zB w W->zC prog 135 #[zJ e,Q x,Q y] W (Il C)) :
  zC prog 98 #[zJ e,zd #[J 3,zS b 2 cn,J k,Q nm,J n,B g h j]] w (Il C):=by
 have d:=I (f (w.alloc (zM #[J 3,zS b 2 cn,J k,Q nm,J n,B g h j] 97)).drew (bZ _).drew);clear f;go_in;go_wp2_with fail
 go_region_with (first|(go_at_call 135;refine d.o.m ?_;rintro r H ⟨E,a,c,D,F,rfl,i⟩;have m:=I i;clear i))
 all_goals go_wp2
 all_goals refine aK (v:=zp #[B E a c,D,J F]) (by simp [results,results98,go_sem]) (by simp [go_sem]) ?_
 all_goals exact ⟨E,a,c,D,F,rfl,m.o⟩
end Go.Proofs.YtihgojcfpnhelaaGreatDoor
