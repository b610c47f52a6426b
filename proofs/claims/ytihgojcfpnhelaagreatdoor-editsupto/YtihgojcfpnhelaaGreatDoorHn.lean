import Derived.Test.YtihgojcfpnhelaaGreatDoorDa
import Derived.Test.YtihgojcfpnhelaaGreatDoorHl
set_option maxRecDepth 100000
set_option maxHeartbeats 4000000
set_option linter.all false
namespace Go.Proofs.YtihgojcfpnhelaaGreatDoor
open Go renaming World->zW,Value->zV,Calls->zC,Addr->zD
open Go.RowKit Go.Proofs.Tryz
open List renaming length→G
def Iw (x y:By) (p:Pt) (w:zW) (e:Ending) (w':zW):Prop:=
 ∃ (a:Option zD) (l c:Nat),e=.returned (.agg #[zI ((aR x y p).k:Int),.string ⟨((aR x y p).nm).toArray⟩,zI ((aR x y p).n:Int),.slice a l c])/\dR w' (λq=>w.heap.size<=q/\q<w'.heap.size) (aR x y p) a l c/\zB w w'
def afq (x y:By) (p:Pt):(aR x y p).k=p.k/\(aR x y p).n=p.n/\(aR x y p).kids=p.kids.map (aR x y):=by
 cases p<;>exact ⟨rfl,rfl,rfl⟩
def UN (x y:By) (k n:Int) (nm Gi:By) (w:zW) (a:(k=2/\nm=x/\Gi=y)\/(k=2/\nm≠x/\Gi=nm)\/(k≠2/\Gi=nm)) :
  zC prog 222 #[.agg #[zI k,zG nm,zI n,zN],zG x,zG y] w λe w'=>e=.returned (.agg #[zI k,zG Gi,zI n,zN])/\zB w w':=by
 have HC:=I (λw=>UK w);rcases a with ⟨rfl,rfl,rfl⟩|⟨rfl,hx,rfl⟩|⟨a,rfl⟩
 ·have b:(nm == nm)=true:=aq;exact WE
 ·have b:(Gi == x)=false:=iE;clear hx;exact WE
 ·have b:(k == 2)=false:=bo.2 a;clear a;go_in;go_wp2_with (go_at_call 248;refine (HC.o _).m ?_;rintro e w1 ⟨rfl,rfl⟩);go_loopg [27] 0 (λ_ s wr=>s=zI 0/\wr=(w.alloc (.cells #[zI k,zG Gi,zI n,zN] 87)).alloc (.cells #[zI 0,zG [],zI 0,zN] 87))
  case atStart=>exact ⟨rfl,rfl⟩
  case round=>
   obtain ⟨rfl,rfl⟩:=hrel;go_wp2;refine aK (v:=.agg #[zI k,zG Gi,zI n,zN]) WG rfl ?_;exact ⟨rfl,aY w _ _⟩
def RnN (x y:By) (k n:Int) (nm:By) (ks:List KR) (w:zW) (e:Ending) (w':zW):Prop:=
 ∃ (g a:Nat) (b:List KR) (w2:zW),e=.returned (.agg #[zI k,zG nm,zI n,zS g (G ks) a])/\UM x y k n nm w w2 g a ks b/\(G b)=G ks/\(∀ q,q≠w.heap.size+1->w'.heap[q]?=w2.heap[q]?)/\zB w w'/\w'.heap.size=w2.heap.size
def UO (x y:By) (k n:Int) (nm h:By) (w:zW) (Y:k≠2/\h=nm) (ks:List KR) (g c:Nat) (h1:1<=G ks) (h3:(G ks)<=3) (hg:g<w.heap.size) (hc:∀ j u,(ky ks)[j]?=some u->w.cell? ⟨g,j,none⟩=some u)
  (hI:∀ j (hj:j<G ks) W,zB w W->zC prog 222 #[.agg #[zI (ks[j].1.k:Int),.string ⟨ks[j].1.nm.toArray⟩,zI (ks[j].1.n:Int),.slice ks[j].2.1 ks[j].2.2.1 ks[j].2.2.2],zG x,zG y] W (Iw x y ks[j].1 W)) :
  zC prog 222 #[.agg #[zI k,zG nm,zI n,zS g (G ks) c],zG x,zG y] w (RnN x y k n h ks w):=by
 obtain ⟨Y,rfl⟩:=Y;have q1:(k == 2)=false:=bo.2 Y;obtain ⟨t,lX⟩:∃ t,t=(w.alloc (.cells #[zI k,zG h,zI n,zS g (G ks) c] 87)).alloc (.cells #[zI 0,zG [],zI 0,zN] 87):=⟨_,rfl⟩;have N:t.heap.size=w.heap.size+1+1:=G6;have K:zB w t:=by rw [lX];exact aY w _ _
 have M:t.heap[w.heap.size]?=some (.cells #[zI k,zG h,zI n,zS g (G ks) c] 87 (0,0)):=by
  rw [lX,cj _ _ _ aq];exact bL w _
 have S:t.heap[w.heap.size+1]?=some (.cells #[zI 0,zG [],zI 0,zN] 87 (0,0)):=by
  rw [lX];exact bc w _ _ _
 have U:=I (La ks g c t h1 h3 (λj u hj=>(K.cell (p:=⟨g,j,none⟩) hg).t (hc j u hj)));have HI:=I hI;have Gc:=I lX;have HR:=I (And.intro M S);have O:=I K;have J:=I N;clear hc hI Y lX K M S N;go_in;go_wp2_with (go_at_call 248;rw [<- Gc.o];refine mo U.o ?_;rintro e w1 ⟨f,l,rfl,C,A⟩);obtain ⟨M,S⟩:=HR.o;have T:w.heap.size<t.heap.size:=by have:=J.o;omega
 have hx1:w.heap.size+1<t.heap.size:=by have:=J.o;omega
 have p1:=(A.block _ T).t M;have R1:=(A.block _ hx1).t S;obtain ⟨⟨k0,k1,k2,k3⟩,⟨f0,f1,f2,f3⟩,Q⟩:=aX p1;have Z:=I (show UM x y k n h w (w1.setCell ⟨w.heap.size,3,none⟩ (zS f (G ks) l)) f l ks [] from by
  refine ⟨((O.o.t (A.m O.o.size)).setCell (p:=⟨w.heap.size,3,none⟩) (aG _) _),?_,?_,?_,bE _,λi hi=>by simp at hi⟩
  ·rw [aj p1];rfl
  ·rw [cY _ _ _ _ (by show w.heap.size+1≠w.heap.size;omega)];exact R1
  ·have:=ym (a:=⟨w.heap.size,3,none⟩) C (by show w.heap.size<t.heap.size;exact T) (zS f (G ks) l);rw [J.o] at this;exact this)
 clear C A p1 R1 M S U;apply I;go_wp2_with fail;go_loopg [27] (G ks) (λgk s wr=>∃ b:List KR,s=zI (G b)/\(G ks)<=G b+gk/\Hid (UM x y k n h w wr f l ks b))
 case atStart=>exact ⟨[],rfl,aq,Z⟩
 case round=>
  obtain ⟨b,rfl,xA,d⟩:=hrel;clear k0 k1 k2 k3 f0 f1 f2 f3 Q;have hle:=d.o.le;obtain ⟨⟨k0,k1,k2,k3⟩,⟨f0,f1,f2,f3⟩,Q⟩:=aX d.o.p;obtain ⟨⟨z0,z1,z2,z3⟩,⟨y0,y1,y2,y3⟩,arP⟩:=aX d.o.R;by_cases V:(G b)<G ks
  ·have X:((G b):Int)<((G ks):Int):=ae;have D:(b++ks.drop (G b))[G b]'aN=ks[G b]:=aq;have L:=Dp (b++ks.drop (G b)) (G b) aN;rw [D] at L;have HKG:=I L;have e0:=(d.o.own.cellAt (G b*4) ae).t L.1;have e1:=(d.o.own.cellAt (G b*4+1) ae).t L.2.1;have e2:=(d.o.own.cellAt (G b*4+2) ae).t L.2.2.1;have e3:=(d.o.own.cellAt (G b*4+3) ae).t L.2.2.2;obtain ⟨hg1,B⟩:=d.o.own.lt f rfl;have m:=I (λW (E:zB wr W)=>HI.o (G b) V W (d.o.bS.t (E.m d.o.bS.size)));clear L D;generalize R:ks[G b]=kj at *;obtain ⟨kp,ka,kl,kc⟩:=kj;have HKS:=I R;clear R;simp only at e0 e1 e2 e3;have BI:=I (show ∀ W,zB wr W->zC prog 222 #[.agg #[zI kp.k,zG kp.nm,zI kp.n,.slice ka kl kc],zG x,zG y] W (Iw x y kp W) from m.o);have H:=I (show ∀ w2,zB wr w2->w2.cell? ⟨w.heap.size,3,none⟩=some (zS f (G ks) l)/\(w2.cell? ⟨f,G b*4,none⟩=some (zI kp.k)/\w2.cell? ⟨f,G b*4+1,none⟩=some (zG kp.nm)/\w2.cell? ⟨f,G b*4+2,none⟩=some (zI kp.n)/\w2.cell? ⟨f,G b*4+3,none⟩=some (.slice ka kl kc))/\(∀ o,w2.frozen? ⟨f,o,none⟩=false) from λw2 E=>by
    have ho:=aZ d.o.own E;exact ⟨(E.cell (p:=⟨w.heap.size,3,none⟩) (by show w.heap.size<_;omega)).t k3,⟨(E.cell (p:=⟨f,G b*4,none⟩) B).t e0,(E.cell (p:=⟨f,G b*4+1,none⟩) B).t e1,(E.cell (p:=⟨f,G b*4+2,none⟩) B).t e2,(E.cell (p:=⟨f,G b*4+3,none⟩) B).t e3⟩,λo=>ho.frozenAt o⟩)
   have z:=I (show zB wr (wr.alloc (.cells #[zI kp.k,zG kp.nm,zI kp.n,.slice ka kl kc] 87)).drew from (bZ _).drew);have hnl:(G b)<=3:=ae;clear m;go_wp2_with fail
   go_region_with (first|(go_at_call 222;refine (BI.o _ z.o).m ?_;rintro e w2 ⟨a',l',c',rfl,hP,F⟩;obtain ⟨m0,⟨m1,m2,m3,m4⟩,r⟩:=H.o _ (z.o.t (F.m z.o.size));have n0:=r (G b*4);have n1:=r (G b*4+1);have n2:=r (G b*4+2);have n3:=r (G b*4+3);have B1:=I hP;have B2:=I F;clear hP F r))
   all_goals go_wp2_with fail
   all_goals go_roundg (G ks - (G b+1))
   all_goals try (case measure=>omega)
   all_goals exact ⟨b++[(aR x y kp,a',l',c')],aq,aN,I (d.o.step z.o B2.o (aR x y kp,a',l',c') V (by rw [HKS.o]) B1.o)⟩
  ·have P:(G b)=(G ks):=ae;have X:¬ ((G b):Int)<((G ks):Int):=ae;have hne:w.heap.size≠w.heap.size+1:=ae;go_wp2;refine aK (v:=.agg #[zI k,zG h,zI n,zS f (G ks) l]) (by simp [results,results222,go_sem,z0,z1,z2,z3]) rfl ?_;exact ⟨f,l,b,wr,rfl,d.o,P,λq hq=>lx wr (w.heap.size+1) _ _ _ _ hq,(((d.o.bS.setCell (p:=⟨w.heap.size+1,0,none⟩) vC _).setCell (p:=⟨w.heap.size+1,1,none⟩) vC _).setCell (p:=⟨w.heap.size+1,2,none⟩) vC _).setCell (p:=⟨w.heap.size+1,3,none⟩) vC _,aq⟩
def Lb (x y:By) {w0:zW} {S:Nat->Prop} {p:Pt} {a:Option zD} {l c:Nat} (hP:dR w0 S p a l c):∀ w,Shape p->(∀ q,S q->q<w.heap.size/\w.heap[q]?=w0.heap[q]?) ->
  zC prog 222 #[.agg #[zI p.k,zG p.nm,zI p.n,.slice a l c],zG x,zG y] w (Iw x y p w):=by
 induction hP with
 | leaf p F=>
  intro w _ _;cases p with
  | atom k nm n=>
   refine (UN x y (k:Int) (n:Int) nm (if k=2/\nm=x then y else nm) w ?_).m ?_
   ·by_cases h2:k=2
    ·by_cases hx:nm=x
     ·exact Or.inl ⟨ae,hx,by simp [h2,hx]⟩
     ·exact Or.inr (Or.inl ⟨ae,hx,iE⟩)
    ·exact Or.inr (Or.inr ⟨ae,by simp [h2]⟩)
   ·rintro e w' ⟨rfl,Y⟩;exact ⟨none,0,0,rfl,dR.leaf _ rfl,Y⟩
  | un k a=>simp [Pt.kids] at F
  | bin k a b=>simp [Pt.kids] at F
  | ifs a b c=>simp [Pt.kids] at F
 | node p g Z A L C hg F hc _ ih=>
  intro w B O;have d:p.k≠2/\p.nm=[]/\(aR x y p).nm=[]:=by
   cases p with
   | atom k nm n=>simp [Pt.kids] at F
   | un k a=>exact ⟨by have:=B.1;show k≠2;omega,rfl,rfl⟩
   | bin k a b=>exact ⟨by have:=B.1;show k≠2;omega,rfl,rfl⟩
   | ifs a b c=>exact ⟨by show (3:Nat)≠2;omega,rfl,rfl⟩
  have hl3:(G p.kids)<=3:=NR;have hl1:1<=(G p.kids):=BB.2 F;obtain ⟨ks,J⟩:∃ ks:List KR,ks=(List.range (G p.kids)).map λj=>((p.kids[j]?).getD (.atom 1 [] 0),A j,L j,C j):=⟨_,rfl⟩;have m:(G ks)=(G p.kids):=by rw [J];simp
  have f:∀ j (h:j<G ks),ks[j]=(p.kids[j]'ae,A j,L j,C j):=λj h=>by
   have h':j<(G p.kids):=ae;simp [J,h']
  have N:=B.get;have:=UO x y (p.k:Int) (p.n:Int) p.nm p.nm w ⟨by have:=d.1;omega,rfl⟩ ks g Z ae ae (O g hg).1 (λj u E=>?_) (λj E W hW=>?_)
  ·rw [m] at this;refine this.m ?_;rintro e w' ⟨g',H,ns,w2,rfl,T,r,M,Y,U⟩;obtain ⟨hg1,X⟩:=T.own.lt g' rfl;obtain ⟨e1,e2,e3⟩:=afq x y p;refine ⟨some ⟨g',0,none⟩,G p.kids,H,by rw [e1,e2,d.2.1,d.2.2,m],?_,Y⟩;have hd:ks.drop (G ns)=[]:=List.drop_eq_nil_of_le ae;have t:=T.own;rw [hd,iq,<- r] at t;have s:=dR.row (S:=λq=>w.heap.size+1<q/\q<w2.heap.size) t (λz hz=>?_) ⟨ae,X⟩ (aR x y p) ?_ (by intro h;rw [h] at r;simp at r;omega)
   ·rw [r,m] at s;exact (s.next λq P=>M q ae).wide λq P=>⟨ae,by rw [U];exact P.2⟩
   ·obtain ⟨i,R,rfl⟩:=e9 hz;exact (T.kid i R).2.wide λq P=>⟨P.1,P.2.1⟩
   ·rw [e3];refine rC aN λi h1 h2=>?_;simp only [kJ];rw [(T.kid i tI).1,f]
  ·rw [aS (O g hg).2];have V:j<(ky ks).length:=(fI.1 E).1;rw [ur] at V;have R:j / 4<(G ks):=ae;have o:=Dp ks (j / 4) R;have c4:=hc (j / 4) ae;rw [f _ R] at o;rcases (show j=j / 4*4\/j=j / 4*4+1\/j=j / 4*4+2\/j=j / 4*4+3 from ae) with D|D|D|D
   ·rw [<- D] at o c4;rw [c4.1,<- E];exact o.1.symm
   ·rw [<- D] at o c4;rw [c4.2.1,<- E];exact o.2.1.symm
   ·rw [<- D] at o c4;rw [c4.2.2.1,<- E];exact o.2.2.1.symm
   ·rw [<- D] at o c4;rw [c4.2.2.2,<- E];exact o.2.2.2.symm
  ·rw [f j E];have K:j<(G p.kids):=ae;exact ih j K W (N j K) λQ v=>⟨bG (O Q v).1 hW.size,(hW.block Q (O Q v).1).t (O Q v).2⟩
def Aa {fs:List (Nat × Fd)} {x:By} {f:Nat × Fd} (h:findF fs x=some f):iQ fs x=some ⟨f.1,0,none⟩:=by simp [iQ,h]
def aeg {S:Nat->Prop} (e c:Nat) (a:Option zD) (fs:List (Nat × Fd)) (f:Nat × Fd) (x:By) (p:Pt) (n:Option zD) (s t:Nat) (w:zW) (Q:Option zD->Nat->Nat->zV->Int->zW->Prop) (hs:Sh w S a fs) (L:w.cell? ⟨e,0,none⟩=some (.slice a (G fs) c)) (y:e<w.heap.size) (V:(G fs)<=100) (h:findF fs x=some f) (U:f.1≠e)
  (m:∀ d b w1,w1.heap[f.1]?=some (.cells #[.string ⟨f.2.nm.toArray⟩,zI p.k,zG p.nm,zI p.n,.slice n s t,zI f.2.v.1,zI f.2.v.2] 223 (0,0))->Ks (λq=>q=f.1) w w1 ->
   (∃ (i:Option zD) (k l:Nat),w.heap[f.1]?=some (.cells #[.string ⟨f.2.nm.toArray⟩,zI (f.2.p.k:Int),.string ⟨f.2.p.nm.toArray⟩,zI (f.2.p.n:Int),.slice i k l,zI f.2.v.1,zI f.2.v.2] 223 (0,0))/\w.heap.size<=d/\w.heap.size<=b/\d≠b/\w1.heap[d]?=some (.cells #[.pointer (some ⟨f.1,1,none⟩)] 251 (0,0))/\w1.heap[b]?=some (.cells #[zI (f.2.p.k:Int),.string ⟨f.2.p.nm.toArray⟩,zI (f.2.p.n:Int),.slice i k l] 89 (0,0))) ->
   zC prog 161 #[zJ e,.pointer (some ⟨f.1,0,none⟩),.func (.func 191) #[] #[zJ d,zJ b]] w1 λr w'=>∃ (g:Option zD) (ln cn:Nat) (bk:zV) (er:Int),r=.returned (.tuple #[.slice g ln cn,bk,zI er])/\Q g ln cn bk er w') :
  zC prog 133 #[zJ e,zG x,.agg #[zI p.k,zG p.nm,zI p.n,.slice n s t]] w λr w'=>∃ (g:Option zD) (ln cn:Nat) (bk:zV) (er:Int),r=.returned (.tuple #[.slice g ln cn,bk,zI er])/\Q g ln cn bk er w':=by
 have A:=I (λW (F:zB w W)=>kQ x e c a fs W (hs.next F) ((F.cell (p:=⟨e,0,none⟩) y).t L) ae);rw [Aa h] at A;have E:=hs.bX f (fE h).1;obtain ⟨_,_,_,_,i,k,l,u,_⟩:=E;have B:=(cz.1 u).1;have j:=I (λW (o:zB w W)=>(JO f.1 (.string ⟨f.2.nm.toArray⟩) (zI f.2.v.1) (zI f.2.v.2) f.2.p.k f.2.p.nm f.2.p.n i k l p.k p.nm p.n n s t 223 W ((o.block f.1 B).t u)).m (R':=λC w1=>∃ d b,C=.returned (.func (.func 191) #[] #[zJ d,zJ b])/\Hid (zC prog 161 #[zJ e,.pointer (some ⟨f.1,0,none⟩),.func (.func 191) #[] #[zJ d,zJ b]] w1 λr w'=>∃ (g:Option zD) (ln cn:Nat) (bk:zV) (er:Int),r=.returned (.tuple #[.slice g ln cn,bk,zI er])/\Q g ln cn bk er w')) (by
  rintro C w1 ⟨d,b,rfl,N,O,T,P,M,R,K⟩;exact ⟨d,b,rfl,m d b w1 R ((Ks.of o).t K) ⟨i,k,l,u,bf o.size N,bf o.size O,T,P,M⟩⟩))
 clear hs u m h;go_in;go_wp2_with (go_at_call 137;refine mo (A.o _ (bZ _)) ?_;rintro r w1 ⟨rfl,rfl⟩);apply I;clear A;have z:=I (j.o (w.alloc (.cells #[zI p.k,zG p.nm,zI p.n,.slice n s t] 89)).drew (bZ _).drew);clear j;go_wp2_with fail
 go_region_with (first
  | (go_at_call 162;refine z.o.m ?_;rintro C w2 ⟨d,b,rfl,D⟩)
  | (go_at_call 161;refine D.o.m ?_;rintro r w3 ⟨g,ln,cn,bk,er,rfl,H⟩;have J:=I H;clear H))
 all_goals go_wp2
 all_goals refine aK (v:=.tuple #[.slice g ln cn,bk,zI er]) ND gN ?_
 all_goals exact ⟨g,ln,cn,bk,er,rfl,J.o⟩
def qo (g:Nat) (t:TypeId):∀ (e:List zV) (o:Nat) (w:zW) (a:Array zV),w.heap[g]?=some (.cells a t (0,0))->o+G e<=a.size->∃ b,(w.setCells g o e).heap[g]?=some (.cells b t (0,0))/\b.size=a.size/\b.toList=a.toList.take o++e++a.toList.drop (o+G e)
 | [],o,w,a,h,f=>⟨a,h,rfl,aq⟩
 | v::r,o,w,a,h,f=>by
  simp only [gS] at f;obtain ⟨b,k,h2,l⟩:=qo g t r (o+1) (w.setCell ⟨g,o,none⟩ v) (a.setIfInBounds o v) (aj h o v) aN;refine ⟨b,k,tI,?_⟩;rw [l];have i:o<(G a.toList):=aN;have c:(a.setIfInBounds o v).toList=a.toList.take o++v::a.toList.drop (o+1):=by
   rw [Array.toList_setIfInBounds,List.set_eq_take_append_cons_drop,aB i]
  have d:(a.toList.take o).length=o:=by simp at i ⊢;omega
  have e1:(a.setIfInBounds o v).toList.take (o+1)=a.toList.take o++[v]:=by
   rw [c,List.take_append,d,qy ae];simp
  have j:(a.setIfInBounds o v).toList.drop (o+1+G r)=a.toList.drop (o+(v::r).length):=by
   rw [c,List.drop_append,d,nY ae,ko,show o+1+G r - o=G r+1 from ae,List.drop_succ_cons,List.drop_drop];congr 1;simp;omega
  rw [e1,j];simp
def mn (g:Nat):∀ (a:List zV) (o:Nat) (w:zW),Ks (λq=>q=g) w (w.setCells g o a)/\(w.setCells g o a).heap.size=w.heap.size
 | [],o,w=>⟨Ks.refl _ _,rfl⟩
 | v::r,o,w=>by
  obtain ⟨b,c⟩:=mn g r (o+1) (w.setCell ⟨g,o,none⟩ v);exact ⟨((Ks.refl (λq=>q=g) w).set g o v rfl).t b,by show ((w.setCell ⟨g,o,none⟩ v).setCells g (o+1) r).heap.size=_;rw [c];simp⟩
def o9 (g:Nat):∀ (a:List zV) (o:Nat) (w:zW),w.drew.setCells g o a=(w.setCells g o a).drew
 | [],_,_=>rfl
 | v::r,o,w=>o9 g r (o+1) (w.setCell ⟨g,o,none⟩ v)
def zf (B g b i m:Nat) (xs:List zV) (w:zW) (ho:w.ownsRow B 151 1 (zS g (m+1) b) (m+1) xs) (hi:i<=m) (hm:m<=1000) (hx:∀ v,v∈xs->v.oneCell'=true) :
  zC prog 136 #[zS g (m+1) b,zI i,zI ((i:Int)+1)] w λr w'=>r=.returned (zS g m b)/\Ks (λq=>q=g) w w'/\w'.ownsRow B 151 1 (zS g m b) m (xs.eraseIdx i):=by
 obtain ⟨i1,Z,V,J,pD⟩:=fe mV;obtain ⟨JL,S⟩:=ho;rcases S with ⟨M,_⟩|⟨g',cap',F,M,hB,o,hmc,Y,Q,s⟩
 ·cases M
 cases M;simp only [nL] at JL Q s;have f:∀ j,j<m+1->w.cell? ⟨g,j,none⟩=xs[j]?:=λj x=>by
  rw [bq w g j _ _ _ o,<- s];simp [x]
 have L:∀ j,w.frozen? ⟨g,j,none⟩=false:=λj=>bF o j;have p:∀ j,j<m+1->(w.cell? ⟨g,j,none⟩).isSome=true:=λj x=>by
  rw [f j x];simp [JL,x]
 have z:∃ a,(w.setCells g i (xs.drop (i+1))).heap[g]?=some (.cells a 151 (0,0))/\a.size=b/\a.toList.take m=xs.eraseIdx i/\∃ u,a.toList[m]?=some u:=by
  obtain ⟨a,H,k2,k3⟩:=qo g 151 (xs.drop (i+1)) i w F o Oc;refine ⟨a,H,ae,?_,?_⟩
  ·rw [k3,EB];have e1:F.toList.take i=xs.take i:=by rw [<- s,List.take_take,show min i (m+1)=i from ae]
   rw [e1,F6 Oc];exact qy Oc
  ·have:m<(G a.toList):=aN;exact ⟨a.toList[m],cU this⟩
 have l:∀ (W:zW) (c:Nat),W.heap=(w.setCells g i (xs.drop (i+1))).heap->(Builtin.clear_ #[104] 0 #[.slice (some ⟨g,m,none⟩) 1 c]).run prog W=.ok (.tuple #[]) (W.setCells g m [.nilFunc]):=λW c hW=>by
  obtain ⟨a,H,k2,_,u,k4⟩:=z;have t:W.heap[g]?=some (.cells a 151 (0,0)):=by rw [hW];exact H
  have:=Lib.run_clear_slice (P:=prog) W 104 151 0 .nilFunc underlying104 (λW=>by simp [zeroValue,typeInfo,Z,V]) rfl rfl g m 1 c ae (λj x=>by
   obtain rfl:j=0:=ae;rw [k7,bq W g m _ _ _ t];rw [show a[m]?=a.toList[m]? from aq,k4];rfl) (λj x=>bF t _)
  exact this
 have n:=I (show ∀ W:zW,W.os=w.os->W.tape=w.tape->W.output=w.output->W.heap=(w.setCells g i (xs.drop (i+1))).heap->Ks (λq=>q=g) w (W.setCells g m [.nilFunc])/\(W.setCells g m [.nilFunc]).ownsRow B 151 1 (zS g m b) m (xs.eraseIdx i) from λW M h2 R h4=>by
  obtain ⟨a,H,k2,k3,_⟩:=z;have t:W.heap[g]?=some (.cells a 151 (0,0)):=by rw [h4];exact H
  obtain ⟨a1,a2⟩:=mn g (xs.drop (i+1)) i w;have hkW:Ks (λq=>q=g) w W:=⟨M,h2,R,by rw [h4,a2];exact aG _,λk hk hn=>by rw [h4];exact a1.block k hk hn⟩;obtain ⟨b1,b2⟩:=mn g [.nilFunc] m W;refine ⟨hkW.t b1,by simp [List.length_eraseIdx,JL];omega,Or.inr ?_⟩;obtain ⟨K,c1,c2,c3⟩:=qo g 151 [.nilFunc] m W a t aN;refine ⟨g,b,K,rfl,hB,c1,ae,Y,ae,?_⟩;rw [nL,c3,kI,F6 aN,List.take_take,Nat.min_self];exact k3)
 have q1:(i:Int)<=(i:Int)+1:=ae;have q2:(i:Int)+1<=(m:Int)+1:=ae;have q3:(m:Int)+1<=(b:Int):=ae;have q4:(i:Int)<=(b:Int):=ae;have q5:(i:Int)+1<=(b:Int):=ae;have q6:((i:Int) == (i:Int)+1)=false:=bo.2 ae;have q7:(i:Int)<=(m:Int)+1:=ae;have q8:(0:Int)<=(i:Int)+1:=ae;have q9:(0:Int)<=(m:Int)+1:=ae;have q10:(m:Int)<=(m:Int)+1:=ae;have q11:(m:Int)<=(b:Int):=ae;have q12:¬ b=m:=ae;have HCE:=I f;have X:=I p;have U:=I L;have A:=I JL;have HX:=I hx;clear o f p L s Q JL z hx;go_in;go_wp2_with fail;have N:(xs.drop (i+1)).length=m+1 - (i+1):=by simp [A.o]
 have E:=I N;clear N;have hwr:IntKind.i64.wrap ((m:Int))=(m:Int):=GD;by_cases D:b=i+1
 ·obtain rfl:i=m:=ae;subst D
  go_region_law (refine step_append_room dr (.tmp 22) (.tmp 25) 104 dr 151 i1 1 underlying104 Z J g 0 i (i+1) dr ⟨g,0,none⟩ 0 0 [] dr rfl (λj u h=>oV) (λu h=>oV) ae (λj h=>oV) ?_)
  all_goals go_wp2_with fail
  all_goals have e:(w.drew.setCells g i []).heap=(w.setCells g i (xs.drop (i+1))).heap:=by rw [o9,nY (by rw [A.o];exact aG _)];rfl
  all_goals have C:=l _ 1 e
  all_goals have d:=(mn g [] i w.drew).1
  all_goals obtain ⟨f1,f2⟩:=n.o _ d.os d.tape d.output e
  all_goals have F1:=I f1
  all_goals have T:=I f2
  all_goals clear e d f1 f2 l n
  all_goals rw [C]
  all_goals go_wp2
  all_goals refine aK (v:=zS g i (i+1)) aap gN ?_
  all_goals exact ⟨rfl,F1.o,T.o⟩
 ·have y1:¬ b=i+1:=D;have y:=I (show ∀ j u,(xs.drop (i+1))[j]?=some u->w.drew.cell? ((⟨g,i+1,none⟩:zD).add j)=some u from λj u h=>by
   rw [qz] at h;have x:i+1+j<m+1:=by
    have:=(fI.1 h).1;have:=A.o;omega
   have R:=HCE.o (i+1+j) x;rw [h] at R;have O:(⟨g,i+1,none⟩:zD).add j=⟨g,i+1+j,none⟩:=by unfold Addr.add;split<;>simp_all
   rw [O];exact R)
  go_region_law (refine step_append_room dr (.tmp 22) (.tmp 25) 104 dr 151 i1 1 underlying104 Z J g 0 i b dr ⟨g,i+1,none⟩ (m - i) (b - (i+1)) (xs.drop (i+1)) dr (by rw [E.o];omega) y.o (λu h=>HX.o u (lD h)) ae (λj h=>by rw [E.o] at h;simp only [nL,cS];exact ⟨X.o (i+j) ae,U.o _⟩) ?_)
  all_goals go_wp2_with fail
  all_goals have e:(w.drew.setCells g i (xs.drop (i+1))).heap=(w.setCells g i (xs.drop (i+1))).heap:=by rw [o9];rfl
  all_goals have C:=l _ (b - m) e
  all_goals have d:=(mn g (xs.drop (i+1)) i w.drew).1
  all_goals obtain ⟨f1,f2⟩:=n.o _ d.os d.tape d.output e
  all_goals have F1:=I f1
  all_goals have T:=I f2
  all_goals clear e d f1 f2 l n
  all_goals rw [C]
  all_goals go_wp2
  all_goals refine aK (v:=zS g m b) aap gN ?_
  all_goals exact ⟨rfl,F1.o,T.o⟩
section
section
def eN (fs:List Fd) (x:By):Vl:=match fs.find? (λf=>f.nm == x) with|some f=>f.v|none=>(3,3)
section
variable {Ed:zW->Nat->List Fd->Prop}
end
def acS (m:Nat) (h:m<=gP):∃ c r,Lib.decDigits m=c::r/\c≠32/\kv (c::r)/\di (c::r)=true/\ij (c::r) 1/\ej (c::r)=[]/\fw (c::r)=m/\(c::r).length<=19:=by
 obtain ⟨b,d,i⟩:=UX m;have e:(Lib.decDigits m).length<=19:=Sb 18 m (by unfold gP at h;omega);cases f:Lib.decDigits m with
 | nil=>exact absurd f i
 | cons c r=>
  rw [f] at b d e;have g:cT c=true:=b c il;have a:headD (c::r)=true:=g;refine ⟨c,r,rfl,?_,b,?_,Or.inl ⟨a,rfl⟩,?_,?_,e⟩
  ·rintro rfl;revert g;decide
  ·simp only [di,a,jq,d];simp [h];simpa using e
  ·simp [ej,a]
  ·simp only [fw,a,jq];exact d
end
end
def xZ (e:Nat) (Q:Int->Option zD->Nat->Nat->zW->Prop) (q:Nat) (row:Obj) (r:Ending) (w1:zW):Prop:=
 ∃ (bn:Option zD) (ln cn:Nat) (bk:zV) (er:Int),r=.returned (.tuple #[.slice bn ln cn,bk,zI er])/\w1.heap[q]?=some row /\
  ((er=0/\∃ N cs,bk=.func (.func N) #[] cs/\zC prog 99 #[.pointer (some ⟨e,1,none⟩),.func (.func N) #[] cs] w1 λr w2=>r=.returned (.tuple #[])/\w2.heap[q]?=some row/\Q 0 bn ln cn w2)\/(er≠0/\bk=.nilFunc/\Q er bn ln cn w1))
def acf (e:Nat) (z:Int) (B:Option zD) (ln cn:Nat) (k:Int) (nm:By) (n:Int) (t:Option zD) (x y:Nat) (w:zW) (Q:Int->Option zD->Nat->Nat->zW->Prop) (D:∀ er a l c w1 j u,Q er a l c w1->Q er a l c (w1.setCell ⟨w.heap.size+1,j,none⟩ u))
  (F:∀ W,zB w W->w.heap.size+1<W.heap.size->W.heap[w.heap.size+1]?=some bM->zC prog 98 #[zJ e,.agg #[zI z,.slice B ln cn,zI k,zG nm,zI n,.slice t x y]] W (xZ e Q (w.heap.size+1) bM) ) :
  zC prog 65 #[zJ e,.agg #[zI z,.slice B ln cn,zI k,zG nm,zI n,.slice t x y]] w λr w'=>∃ er bn b d,r=.returned (.agg #[zI er,zI 0,zG [],.slice bn b d,zI 0,zI 0])/\Q er bn b d w':=by
 have f:=I D;have p:=I ((F ((w.alloc (.cells #[zI z,.slice B ln cn,zI k,zG nm,zI n,.slice t x y] 97)).alloc (.cells #[zI 0,zI 0,zG [],zN,zI 0,zI 0] 39)) (aY _ _ _) aq (bc w _ _ _)).m (R':=λr w1=>∃ (bn:Option zD) (ln cn:Nat) (bk:zV) (er:Int),r=.returned (.tuple #[.slice bn ln cn,bk,zI er])/\Hid (w1.heap[w.heap.size+1]?=some bM)/\Hid ((er=0/\∃ N cs,bk=.func (.func N) #[] cs/\zC prog 99 #[.pointer (some ⟨e,1,none⟩),.func (.func N) #[] cs] w1 λr w2=>r=.returned (.tuple #[])/\w2.heap[w.heap.size+1]?=some bM/\Q 0 bn ln cn w2)\/(er≠0/\bk=.nilFunc/\Q er bn ln cn w1))) (by
  rintro r w1 ⟨bn,ln,cn,bk,er,O,q,Y⟩;exact ⟨bn,ln,cn,bk,er,O,q,Y⟩))
 clear F D;go_in;go_wp2_with (go_at_call 98;refine mo p.o ?_;rintro r w1 ⟨bn,b,d,bk,er,rfl,V,A⟩);apply I;clear p;obtain ⟨⟨G,H,J,U,L,T⟩,⟨f0,f1,f2,f3,f4,f5⟩,s⟩:=bJ V.o;rcases A.o with ⟨rfl,N,cs,rfl,g⟩|⟨her,rfl,E⟩
 ·have m:=I g;clear g A;go_wp2_with (go_at_call 99;refine mo m.o ?_;rintro r w2 ⟨rfl,q,i⟩);obtain ⟨⟨S,X,P,K,M,R⟩,⟨n0,Z,n2,n3,n4,n5⟩,o⟩:=bJ q;have h:=I i;clear q i m;apply I;go_wp2;refine aK (v:=.agg #[zI 0,zI 0,zG [],.slice bn b d,zI 0,zI 0]) (by simp [results,results65,go_sem,S,X,P,K,M,R,o]) rfl ?_;exact ⟨0,bn,b,d,rfl,f.o _ _ _ _ _ _ _ (f.o _ _ _ _ _ _ _ (f.o _ _ _ _ _ _ _ (f.o _ _ _ _ _ _ _ (f.o _ _ _ _ _ _ _ (f.o _ _ _ _ _ _ _ h.o)))))⟩
 ·have C:(er == 0)=false:=Ot;have h:=I E;clear E A her;go_wp2;refine aK (v:=.agg #[zI er,zI 0,zG [],.slice bn b d,zI 0,zI 0]) (by simp [results,results65,go_sem,G,H,J,U,L,T,s]) rfl ?_;exact ⟨er,bn,b,d,rfl,f.o _ _ _ _ _ _ _ (f.o _ _ _ _ _ _ _ (f.o _ _ _ _ _ _ _ (f.o _ _ _ _ _ _ _ (f.o _ _ _ _ _ _ _ (f.o _ _ _ _ _ _ _ h.o)))))⟩
def Il (Q:Ending->zW->Prop) (r:Ending) (w':zW):Prop:=∃ (bn:Option zD) (ln cn:Nat) (bk:zV) (er:Int),r=.returned (.tuple #[.slice bn ln cn,bk,zI er])/\Q r w'
def KT (e c cn:Nat) (x:By) (k:Int) (nm:By) (n:Int) (d:Option zD) (f h:Nat) (w:zW) (Q:Ending->zW->Prop) (o:w.cell? ⟨c,0,none⟩=some (zG x)) (m:c<w.heap.size)
  (i:∀ W,zB w W->zC prog 133 #[zJ e,zG x,.agg #[zI k,zG nm,zI n,.slice d f h]] W (Il Q)) :
  zC prog 98 #[zJ e,.agg #[zI 1,zS c 1 cn,zI k,zG nm,zI n,.slice d f h]] w (Il Q):=by
 have g:=I (i (w.alloc (.cells #[zI 1,zS c 1 cn,zI k,zG nm,zI n,.slice d f h] 97)).drew (bZ _).drew);clear i;go_in;go_wp2_with fail
 go_region_with (first|(go_at_call 133;refine g.o.m ?_;rintro r w3 ⟨bn,a,b,bk,er,rfl,j⟩;have l:=I j;clear j))
 all_goals go_wp2
 all_goals refine aK (v:=.tuple #[.slice bn a b,bk,zI er]) NI gN ?_
 all_goals exact ⟨bn,a,b,bk,er,rfl,l.o⟩
def KU (e c cn:Nat) (x:By) (k:Int) (nm:By) (n:Int) (g:Option zD) (h j:Nat) (w:zW) (Q:Ending->zW->Prop) (o:w.cell? ⟨c,0,none⟩=some (zG x)) (m:c<w.heap.size)
  (f:∀ W,zB w W->zC prog 134 #[zJ e,zG x] W (Il Q)) :
  zC prog 98 #[zJ e,.agg #[zI 2,zS c 1 cn,zI k,zG nm,zI n,.slice g h j]] w (Il Q):=by
 have d:=I (f (w.alloc (.cells #[zI 2,zS c 1 cn,zI k,zG nm,zI n,.slice g h j] 97)).drew (bZ _).drew);clear f;go_in;go_wp2_with fail
 go_region_with (first|(go_at_call 134;refine d.o.m ?_;rintro r w3 ⟨bn,a,b,bk,er,rfl,i⟩;have l:=I i;clear i))
 all_goals go_wp2
 all_goals refine aK (v:=.tuple #[.slice bn a b,bk,zI er]) NI gN ?_
 all_goals exact ⟨bn,a,b,bk,er,rfl,l.o⟩
def KV (e b cn:Nat) (x y:By) (k:Int) (nm:By) (n:Int) (g:Option zD) (h j:Nat) (w:zW) (Q:Ending->zW->Prop) (p:w.cell? ⟨b,0,none⟩=some (zG x)) (l:w.cell? ⟨b,1,none⟩=some (zG y)) (o:b<w.heap.size)
  (f:∀ W,zB w W->zC prog 135 #[zJ e,zG x,zG y] W (Il Q)) :
  zC prog 98 #[zJ e,.agg #[zI 3,zS b 2 cn,zI k,zG nm,zI n,.slice g h j]] w (Il Q):=by
 have d:=I (f (w.alloc (.cells #[zI 3,zS b 2 cn,zI k,zG nm,zI n,.slice g h j] 97)).drew (bZ _).drew);clear f;go_in;go_wp2_with fail
 go_region_with (first|(go_at_call 135;refine d.o.m ?_;rintro r w3 ⟨bn,a,c,bk,er,rfl,i⟩;have m:=I i;clear i))
 all_goals go_wp2
 all_goals refine aK (v:=.tuple #[.slice bn a c,bk,zI er]) NI gN ?_
 all_goals exact ⟨bn,a,c,bk,er,rfl,m.o⟩
end Go.Proofs.YtihgojcfpnhelaaGreatDoor
