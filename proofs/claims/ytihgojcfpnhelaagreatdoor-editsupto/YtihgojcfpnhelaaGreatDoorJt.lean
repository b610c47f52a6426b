import Derived.Test.YtihgojcfpnhelaaGreatDoorHl
import Derived.Test.YtihgojcfpnhelaaGreatDoorUa
import Derived.Test.YtihgojcfpnhelaaGreatDoorDa
import Derived.Test.YtihgojcfpnhelaaGreatDoorNc
set_option maxRecDepth 100000
set_option maxHeartbeats 4000000
set_option linter.all false
namespace Go.Proofs.YtihgojcfpnhelaaGreatDoor
open Value renaming slice->B,agg->zd,tuple->zp,bool->zF,pointer->zK
open Obj renaming cells->zM
open Ending renaming returned->zP
open Option renaming some->A
open Go renaming World->zW,Value->zV,Calls->zC,Addr->zD
open Go.RowKit Go.Proofs.Tryz
open List renaming length→G
def Cf (r:zV) (p:Pt) (a:Option zD) (l c:Nat) (q:Nat->Pt) (Q0:Nat->Option zD) (L C:Nat->Nat) (v:Nat->Vl) (w:zW) (n:l=3) (h:p.k=3) (t:ib w a l q Q0 L C) (o:kG r w l q Q0 L C v) :
  zC prog 220 #[zd #[bH r],zd #[J 3,Q p.nm,J p.n,B a l c]] w (dx (fQ (v 0) (v 1) (v 2)) w):=by
 have N:=I o;have H:=I t;clear t o;obtain ⟨i,b⟩:∃ i,i=(((w.alloc (zM #[bH r] 306)).alloc (zM #[J 3,Q p.nm,J p.n,B a l c] 87)).alloc (zM #[J 0,J 0] 177)):=⟨_,rfl⟩;have d:W3 r 3 (p.n:Int) p.nm (B a l c) w i:=by rw [b];exact W3.start r 3 (p.n:Int) p.nm _ w
 have z:=I d;have m:=I b;obtain ⟨⟨F,y,G,D⟩,_,O⟩:=aX d.p;obtain ⟨⟨K,M⟩,⟨f0,f1⟩,zn⟩:=cq d.R;have x:=d.c0;have k:=I (show ∀ W,zB i W->zC prog 246 #[zd #[bH r],zd #[J 3,Q p.nm,J p.n,B a l c]] W (dx (fQ (v 0) (v 1) (v 2)) W) from λW E=>by
  have f:=d.bS.t (E.m d.bS.size);have:=P7 r p a l c W q Q0 L C v n (H.o.next f) (N.o.next f);rw [h] at this;exact this)
 clear n h;clear d b;go_in;go_wp2_with (go_at_call 246;rw [<- m.o];refine mo (k.o _ (aM _ _)) ?_;rintro e P ⟨rfl,g⟩);have s:=I (z.o.next g);clear K M f0 f1 x F y G D g;obtain ⟨⟨K,M⟩,⟨f0,f1⟩,u⟩:=cq s.o.R;generalize fQ (v 0) (v 1) (v 2)=j at *;apply I;go_wp2;refine aK (v:=zd #[J j.1,J j.2]) (by simp [results,results220,go_sem,K,M]) rfl ?_;exact s.o.fin j
def Ci (r:zV) (p:Pt) (a:Option zD) (l c:Nat) (q:Nat->Pt) (Q0:Nat->Option zD) (L C:Nat->Nat) (v:Nat->Vl) (w:zW) (m:l=2) (D:p.k≠1/\p.k≠7/\p.k≠8/\p.k≠2/\p.k≠9/\p.k≠14/\p.k≠6/\p.k≠4/\p.k≠5/\p.k≠3) (s:ib w a l q Q0 L C) (n:kG r w l q Q0 L C v) :
  zC prog 220 #[zd #[bH r],zd #[J p.k,Q p.nm,J p.n,B a l c]] w (dx (fR p.k (v 0) (v 1)) w):=by
 have z:=I n;have Z:=I s;clear s n;obtain ⟨h,b⟩:∃ h,h=(((w.alloc (zM #[bH r] 306)).alloc (zM #[J p.k,Q p.nm,J p.n,B a l c] 87)).alloc (zM #[J 0,J 0] 177)):=⟨_,rfl⟩;have d:W3 r (p.k:Int) (p.n:Int) p.nm (B a l c) w h:=by rw [b];exact W3.start r (p.k:Int) (p.n:Int) p.nm _ w
 have y:=I d;have k:=I b;obtain ⟨⟨G,x,H,Y⟩,_,t⟩:=aX d.p;obtain ⟨⟨K,V⟩,⟨f0,f1⟩,zn⟩:=cq d.R;have u:=d.c0;have j:=I (show ∀ W,zB h W->zC prog 247 #[zd #[bH r],zd #[J p.k,Q p.nm,J p.n,B a l c]] W (dx (fR p.k (v 0) (v 1)) W) from λW F=>by
  have f:=d.bS.t (F.m d.bS.size);have:=UI r p a l c W q Q0 L C v m (Z.o.next f) (z.o.next f);exact this)
 have e:((p.k:Int) == 1)=false:=bo.2 (by omega);have S:((p.k:Int) == 7)=false:=bo.2 (by omega);have O:((p.k:Int) == 8)=false:=bo.2 (by omega);have R:((p.k:Int) == 2)=false:=bo.2 (by omega);have P:((p.k:Int) == 9)=false:=bo.2 (by omega);have E:((p.k:Int) == 14)=false:=bo.2 (by omega);have T:((p.k:Int) == 6)=false:=bo.2 (by omega);have N:((p.k:Int) == 4)=false:=bo.2 (by omega);have U:((p.k:Int) == 5)=false:=bo.2 (by omega);have M:((p.k:Int) == 3)=false:=bo.2 (by omega);clear m D;clear d b;go_in;go_wp2_with (go_at_call 247;rw [<- k.o];refine mo (j.o _ (aM _ _)) ?_;rintro k0 w1 ⟨rfl,g⟩);have o:=I (y.o.next g);clear K V f0 f1 u G x H Y g;obtain ⟨⟨K,V⟩,⟨f0,f1⟩,k1⟩:=cq o.o.R;generalize fR p.k (v 0) (v 1)=i at *;apply I;go_wp2;refine aK (v:=zd #[J i.1,J i.2]) (by simp [results,results220,go_sem,K,V]) rfl ?_;exact o.o.fin i
def Cj (r:zV) (p:Pt) (a:Option zD) (l c:Nat) (q:Nat->Pt) (Q0:Nat->Option zD) (L C:Nat->Nat) (v:Nat->Vl) (w:zW) (x:l=2) (k:p.k=4) (s:ib w a l q Q0 L C) (o:kG r w l q Q0 L C v) :
  zC prog 220 #[zd #[bH r],zd #[J 4,Q p.nm,J p.n,B a l c]] w (dx (dH (2,0) (v 0) (v 1)) w):=by
 have E:=I o;have F:=I s;clear s o;obtain ⟨b,f⟩:∃ b,b=(((w.alloc (zM #[bH r] 306)).alloc (zM #[J 4,Q p.nm,J p.n,B a l c] 87)).alloc (zM #[J 0,J 0] 177)):=⟨_,rfl⟩;have g:W3 r 4 (p.n:Int) p.nm (B a l c) w b:=by rw [f];exact W3.start r 4 (p.n:Int) p.nm _ w
 have D:=I g;have i:=I f;obtain ⟨⟨Y,m0,Q5,m1⟩,_,G⟩:=aX g.p;obtain ⟨⟨u,Z⟩,⟨f0,f1⟩,zn⟩:=cq g.R;have O:=g.c0;have n:=I (show ∀ W,zB b W->zC prog 245 #[zd #[bH r],zd #[J 2,J 0],zd #[J 4,Q p.nm,J p.n,B a l c]] W (dx (dH (2,0) (v 0) (v 1)) W) from λW z=>by
  have h:=g.bS.t (z.m g.bS.size);have:=Dl r (2,0) p a l c W q Q0 L C v (by omega) (by omega) (F.o.next h) (E.o.next h);rw [k] at this;exact this)
 have K:=I (show ∀ W,zC prog 241 #[zF false] W λe U=>e=zP (zd #[J 2,J 0])/\zB W U from λW=>lK false W);clear x k;clear g f;go_in
 go_upto_region 16 with fail
 rw [<- i.o];clear i
 go_region_with (first|(go_at_call 241;refine (K.o _).m ?_;rintro e w1 ⟨rfl,d⟩;have y:=I ((aM b.heap.size b).drew.t d);have m:=I (D.o.next ((aM b.heap.size b).drew.t d));have P:=m.o.c0;obtain ⟨⟨N,R,V,w'⟩,_,H⟩:=aX m.o.p;clear d)|(go_at_call 245;refine (n.o _ y.o).m ?_;rintro e w2 ⟨rfl,j⟩;have t:=I (m.o.next j);obtain ⟨⟨S,T⟩,⟨Q4,M⟩,Q6⟩:=cq t.o.R;clear j))
 all_goals go_wp2
 all_goals refine aK (v:=zd #[J (dH (2,0) (v 0) (v 1)).1,J (dH (2,0) (v 0) (v 1)).2]) (by simp [results,results220,go_sem,S,T]) rfl ?_
 all_goals exact t.o.fin (dH (2,0) (v 0) (v 1))
def Ck (r:zV) (p:Pt) (a:Option zD) (l c:Nat) (q:Nat->Pt) (Q0:Nat->Option zD) (L C:Nat->Nat) (v:Nat->Vl) (w:zW) (x:l=2) (k:p.k=5) (s:ib w a l q Q0 L C) (o:kG r w l q Q0 L C v) :
  zC prog 220 #[zd #[bH r],zd #[J 5,Q p.nm,J p.n,B a l c]] w (dx (dH (2,1) (v 0) (v 1)) w):=by
 have E:=I o;have F:=I s;clear s o;obtain ⟨b,f⟩:∃ b,b=(((w.alloc (zM #[bH r] 306)).alloc (zM #[J 5,Q p.nm,J p.n,B a l c] 87)).alloc (zM #[J 0,J 0] 177)):=⟨_,rfl⟩;have g:W3 r 5 (p.n:Int) p.nm (B a l c) w b:=by rw [f];exact W3.start r 5 (p.n:Int) p.nm _ w
 have D:=I g;have i:=I f;obtain ⟨⟨Y,m0,Q5,m1⟩,_,G⟩:=aX g.p;obtain ⟨⟨u,Z⟩,⟨f0,f1⟩,zn⟩:=cq g.R;have O:=g.c0;have n:=I (show ∀ W,zB b W->zC prog 245 #[zd #[bH r],zd #[J 2,J 1],zd #[J 5,Q p.nm,J p.n,B a l c]] W (dx (dH (2,1) (v 0) (v 1)) W) from λW z=>by
  have h:=g.bS.t (z.m g.bS.size);have:=Dl r (2,1) p a l c W q Q0 L C v (by omega) (by omega) (F.o.next h) (E.o.next h);rw [k] at this;exact this)
 have K:=I (show ∀ W,zC prog 241 #[zF true] W λe U=>e=zP (zd #[J 2,J 1])/\zB W U from λW=>lK true W);clear x k;clear g f;go_in
 go_upto_region 18 with fail
 rw [<- i.o];clear i
 go_region_with (first|(go_at_call 241;refine (K.o _).m ?_;rintro e w1 ⟨rfl,d⟩;have y:=I ((aM b.heap.size b).drew.t d);have m:=I (D.o.next ((aM b.heap.size b).drew.t d));have P:=m.o.c0;obtain ⟨⟨N,R,V,w'⟩,_,H⟩:=aX m.o.p;clear d)|(go_at_call 245;refine (n.o _ y.o).m ?_;rintro e w2 ⟨rfl,j⟩;have t:=I (m.o.next j);obtain ⟨⟨S,T⟩,⟨Q4,M⟩,Q6⟩:=cq t.o.R;clear j))
 all_goals go_wp2
 all_goals refine aK (v:=zd #[J (dH (2,1) (v 0) (v 1)).1,J (dH (2,1) (v 0) (v 1)).2]) (by simp [results,results220,go_sem,S,T]) rfl ?_
 all_goals exact t.o.fin (dH (2,1) (v 0) (v 1))
def Dm (p:Pt) (j:Nat):Pt:=(p.kids[j]?).getD (.atom 1 [] 0)
def Fs (p:Pt) (j:Nat) (h:j<G p.kids):Dm p j=p.kids[j]:=by
 simp [Dm,h]
def UJ (r:zV) (O:By->Vl) {F:zW} {S:Nat->Prop} {p:Pt} {a:Option zD} {l c:Nat} (QV:dR F S p a l c):∀ w,az p->(∀ q,S q->q<w.heap.size/\w.heap[q]?=F.heap[q]?)->(∀ x W,zB w W->zC prog 198 #[r,Q (x:By)] W (dx (O x) W)) ->
  zC prog 220 #[zd #[bH r],zd #[J p.k,Q p.nm,J p.n,B a l c]] w (dx (cD O p) w):=by
 induction QV with
 | leaf p s=>
  intro w d _ P;cases p with
  | atom k x n=>
   rcases d with rfl|rfl|rfl|rfl
   .exact cb r x n none 0 0 w
   .exact kC r x n none 0 0 (O x) w (P x)
   .exact kM r x n none 0 0 w
   .exact k9 r x n none 0 0 w
  | un=>simp [Pt.kids] at s
  | bin=>simp [Pt.kids] at s
  | ifs=>simp [Pt.kids] at s
 | node p g b K L C o s M _ R=>
  intro w d f P;have i:ib w (A (yh g)) (G p.kids) (Dm p) K L C:=λj m=>by
   refine ⟨g,rfl,(f g o).1,?_⟩;rw [Fs p j m,aS (f g o).2,aS (f g o).2,aS (f g o).2,aS (f g o).2];exact M j m
  have h:kG r w (G p.kids) (Dm p) K L C (λj=>cD O (Dm p j)):=λj m W t=>by
   have:=R j m W (d.get j m) (λq D=>⟨bG (f q D).1 t.size,(t.block q (f q D).1).t (f q D).2⟩) (λx N v=>P x N (t.t (v.m t.size)));rw [<- Fs p j m] at this;exact this
  cases p with
  | atom k x n=>exact absurd rfl s
  | un k y=>
   rcases d.1 with rfl|rfl|rfl
   .exact la r [] 0 _ 1 b _ K L C _ w (by omega) (by omega) i h
   .exact lc r [] 0 _ 1 b _ K L C _ w (by omega) (by omega) i h
   .exact lw r [] 0 _ 1 b _ K L C _ w (by omega) (by omega) i h
  | bin k y z=>
   by_cases H:k=4
   .subst H;exact Cj r (.bin 4 y z) _ 2 b _ K L C _ w rfl rfl i h
   .by_cases E:k=5
    .subst E;exact Ck r (.bin 5 y z) _ 2 b _ K L C _ w rfl rfl i h
    .have e:cD O (.bin k y z)=fR k (cD O y) (cD O z):=by simp only [cD,aA H,aA E]
     rw [e];exact Ci r (.bin k y z) _ 2 b _ K L C _ w rfl (by have:=d.1;show k≠1/\k≠7/\k≠8/\k≠2/\k≠9/\k≠14/\k≠6/\k≠4/\k≠5/\k≠3;omega) i h
  | ifs y z u=>exact Cf r (.ifs y z u) _ 3 b _ K L C _ w rfl rfl i h
section
open Go.RowKit Go.Shelf Go.Sort
def U1 (d c:Nat) (a b:By) (W:zW) (c1:W.cell? (yh d)=A (Q a)) (c2:W.cell? (yh c)=A (Q b)) :
  zC prog 140 #[zJ d,zJ c] W λe C=>e=zP (J (Lib.compareBytes a b))/\∃ q,C=W.drewN q:=by
 have H:=λW=>Any.strings_Compare lays106 ⟨a.toArray⟩ ⟨b.toArray⟩ W;change ∀ W,zC prog 141 _ _ _ at H;simp only [] at H;generalize Lib.compareBytes a b=z at H ⊢;go_in;go_wp2_with fail
 go_region_with (first|(go_at_call 141;refine (H _).m ?_;rintro e C ⟨rfl,rfl⟩))
 all_goals go_wp2
 all_goals refine aK (v:=J z) (by simp [results,results140,go_sem]) (by simp [go_sem]) ?_
 all_goals exact ⟨rfl,1,rfl⟩
def AX {D:Type} [Inhabited D] (enc:D->zV) (w:zW) (C a m:Nat) (c:Array D) (b:Array Obj) (q:Nat) (d:q≠C) (E:q<w.heap.size):(sortWorld enc w C a m c b).heap[q]?=w.heap[q]?:=by
 unfold sortWorld Sort.grow Sort.putRow Sort.mapBlock Sort.ahead;show ((w.heap.modify C _)++b)[q]?=_;rw [Array.getElem?_append_left (by simpa using E),Array.getElem?_modify];simp [nM d]
def IG {D:Type} [Inhabited D] (enc:D->zV) (w:zW) (C a:Nat) (d:Array D) (q:Nat) (b:q≠C):(putRow enc w C a d).heap[q]?=w.heap[q]?:=by
 unfold Sort.putRow Sort.mapBlock;show (w.heap.modify C _)[q]?=_;rw [Array.getElem?_modify];simp [nM b]
def U2:∀ n:Nat,n<13->IntKind.u64.wrap (n:Int)=(n:Int):=by decide
abbrev bz (fs:List (Nat × Fd)):Type:={ f:Nat × Fd // f∈fs }
def n9 {fs:List (Nat × Fd)} (x:bz fs):zV:=zK (A (yh x.1.1))
def ux {fs:List (Nat × Fd)} (x y:bz fs):Int:=Lib.compareBytes x.1.2.nm y.1.2.nm
def Cl (fs:List (Nat × Fd)) [Inhabited (bz fs)] (C a c:Nat) (h:Int) (d:Array (bz fs)) (w:zW) (b:CmpReads prog 140 #[] (n9 (fs:=fs)) ux C a d.size w) (i:Holds (n9 (fs:=fs)) w C a d) (g:d.size<=12) :
  zC prog 202 #[B (A (X C a)) d.size c,J 0,J d.size,J h,.func (.func 140) #[] #[]] w λe D=>e=zP (zp #[])/\∃ n,D=(putRow (n9 (fs:=fs)) w C a (Sort.insertionSort (ltOf (ux (fs:=fs))) d 0 d.size)).drewN n:=by
 have f:=Any.insertionSortCmpFunc_one lays20 (n9 (fs:=fs)) (λ_=>rfl) ux 140 #[] C a c 0 d.size d w (oK func140 (by kernel_rfl) rfl) b i (bE _) (aG _) (by omega);replace f:zC prog 223 #[B (A (X C a)) d.size c,J 0,J d.size,.func (.func 140) #[] #[]] w λe D=>e=zP (zp #[])/\∃ n,D=(putRow (n9 (fs:=fs)) w C a (Sort.insertionSort (ltOf (ux (fs:=fs))) d 0 d.size)).drewN n:=f;clear b i;generalize Sort.insertionSort (ltOf (ux (fs:=fs))) d 0 d.size=E at f ⊢;generalize d.size=n at f g ⊢;have j:(n:Int)<=12:=(by omega);go_in;go_wp2;refine wp_loop_rounds 1 ?_;rw [rounds_succ];go_wp2_with (go_at_call 223;refine f.m ?_;rintro e D ⟨rfl,n,rfl⟩)
 (try simp only [Exit.inBlock,Exit.then]);refine aK (results_none rfl _ _ _) rfl ?_
 exact ⟨rfl,n,rfl⟩
def Cn (fs:List (Nat × Fd)) [Inhabited (bz fs)] (C a f:Nat) (d:Array (bz fs)) (w:zW) (b:CmpReads prog 140 #[] (n9 (fs:=fs)) ux C a d.size w) (j:Holds (n9 (fs:=fs)) w C a d) (c:d.size<=12) :
  zC prog 170 #[B (A (X C a)) d.size f,.func (.func 140) #[] #[]] w λe D=>e=zP (zp #[])/\∃ n,D=(putRow (n9 (fs:=fs)) w C a (Sort.insertionSort (ltOf (ux (fs:=fs))) d 0 d.size)).drewN n:=by
 have h:=λi=>Cl fs C a f i d w b j c;have g:=Any.bits_Len lays125 (d.size:Int) w (by omega) (by omega);change zC prog 203 _ _ _ at g;clear b j;generalize Sort.insertionSort (ltOf (ux (fs:=fs))) d 0 d.size=E at h ⊢;generalize Lib.bitLen (d.size:Int).toNat=z at g;have k:IntKind.u64.wrap (d.size:Int)=(d.size:Int):=U2 d.size (by omega);generalize d.size=n at h g c k ⊢;go_in;go_wp2_with (first|(go_at_call 203;refine g.m ?_;rintro e D ⟨rfl,rfl⟩)|(go_at_call 202;refine (h _).m ?_;rintro e D ⟨rfl,n,rfl⟩))
 go_end0
 exact ⟨rfl,n,rfl⟩
end
def rW (er at_:Int):Obj:=zM #[J er,J at_,Q [],zN,J 0,J 0] 39 (0,0)
def Co (E:Int->Int->zW->Prop) (e:Nat) (w:zW) (r:Ending) (w1:zW):Prop:=
 Below (w.heap.size+1) (w.alloc bM) w1/\∃ a C D Z,C≠0/\r=zP (zp #[j7 a none 0 0 0 [] 0 none 0 0,J C,J D])/\(∀ W j u,Z W->Z (W.setCell (X w.heap.size j) u)) /\
  Z ((w1.alloc (jx a none 0 0 0 [] 0 none 0 0)).alloc (rW C D))/\ii e w.heap.size (w1.heap.size+1) Z a C (E C D)
def PW (e:Nat) (s:By) (w:zW) (z:Int->Int->zW->Prop)
  (hR:zC prog 46 #[Q s] (w.alloc bM) (Co z e w)) :
  zC prog 20 #[zJ e,Q s] w λr w'=>∃ K N,r=zP (Ik K N [] none 0 0 0 0)/\z K N w':=by
 have T:=I hR;clear hR;unfold bM at T;go_in;go_wp2_with (go_at_call 46;refine T.o.m ?_;rintro r R ⟨Z,a,K,N,ad,er,hr,hA,hZ,U⟩;unfold j7 at hr;subst hr;apply Hid.o);have s4:w.heap.size<R.heap.size:=(by have:=Z.size;simp at this;omega);have af:(K == 0)=false:=(by simpa using er);have p:R.heap[w.heap.size]?=A bM:=(Z.block _ (by omega)).t (bL w bM);have D:((R.alloc (jx a none 0 0 0 [] 0 none 0 0)).alloc (rW K N)).heap[w.heap.size]?=A bM:=by
  rw [cj _ _ _ (by simp;omega),cj _ _ _ s4];exact p
 have C:((R.alloc (jx a none 0 0 0 [] 0 none 0 0)).alloc (rW K N)).heap[R.heap.size+1]?=A (rW K N):=by
  have:=bL (R.alloc (jx a none 0 0 0 [] 0 none 0 0)) (rW K N);simpa using this
 have s1:((R.alloc (jx a none 0 0 0 [] 0 none 0 0)).alloc (rW K N)).heap[R.heap.size]?=A (jx a none 0 0 0 [] 0 none 0 0):=by
  rw [cj _ _ _ (by simp)];exact bL R _
 have l:=I D;have i:=I C;have s2:=I s1;have q:=I hA;have L:=I hZ;have m:=I U;have g:=I U.1;obtain ⟨⟨k0,k1,k2,k3,k4,k5⟩,⟨f0,f1,f2,f3,f4,f5⟩,Q0⟩:=bJ p;have w1:w.heap.size≠R.heap.size+1:=(by omega);have aa:R.heap.size+1≠w.heap.size:=(by omega);have ac:w.heap.size≠R.heap.size:=(by omega);have Q5:R.heap.size≠w.heap.size:=(by omega);clear Z hA hZ U T D C s1 p;apply I;by_cases f:rT a=true
 .have b:(a == 1||(a == 2||a == 3))=true:=f;have c:=I (λW=>rV a W);rw [b] at c;have j:=m.o.2;rw [aB ⟨er,f⟩] at j;have y:=I (j _ L.o);clear j f b m q L;go_wp2_with (go_at_call 48;refine mo (c.o _) ?_;rintro r w3 ⟨rfl,rfl⟩);obtain ⟨⟨H,Y,V,F,G,M⟩,⟨P,h,t,u,x,O⟩,d⟩:=bJ l.o;obtain ⟨⟨u0,u1,u2,u3,u4,u5⟩,⟨t0,t1,t2,t3,t4,t5⟩,k⟩:=bJ i.o;have e1:jx a none 0 0 0 [] 0 none 0 0=zM #[J a,zN,J 0,Q [],J 0,zN] 97 (0,0):=rfl;have S:rW K N=zM #[J K,J N,Q [],zN,J 0,J 0] 39 (0,0):=rfl;rw [e1,S] at H Y V F G M P h t u x O d u0 u1 u2 u3 u4 u5 t0 t1 t2 t3 t4 t5 k l i s2 y;generalize o:((R.alloc (zM #[J a,zN,J 0,Q [],J 0,zN] 97 (0,0))).alloc (zM #[J K,J N,Q [],zN,J 0,J 0] 39 (0,0)))=w6 at *;clear o c e1 S;apply I;go_wp2_with (go_at_call 49;refine mo y.o ?_;rintro r w3 ⟨⟨ag,rfl⟩,E,QT,QV⟩);obtain ⟨⟨k0,k1,k2,k3,k4,k5⟩,⟨f0,f1,f2,f3,f4,f5⟩,Q0⟩:=bJ (E.t l.o);obtain ⟨⟨j0,j1,j2,j3,j4,j5⟩,⟨g0,g1,g2,g3,g4,g5⟩,Q6⟩:=bJ (QT.t i.o);have s3:=I QV;clear E QT QV;apply I;go_wp2;refine aK (v:=zd #[J K,J N,Q [],zN,J 0,J 0]) (by simp [results,results20,go_sem,k0,k1,k2,k3,k4,k5,Q0,w1]) (by simp [go_sem]) ?_;refine ⟨K,N,rfl,?_⟩;exact g.o _ _ _ (g.o _ _ _ (g.o _ _ _ (g.o _ _ _ (g.o _ _ _ (g.o _ _ _ s3.o)))))
 .have b:(a == 1||(a == 2||a == 3))=false:=by simpa [rT] using f
  have c:=I (λW=>rV a W);rw [b] at c;have n:=m.o.2;rw [aA (λQ4=>f Q4.2)] at n;have PL:=I n;clear n f b m;go_wp2_with (go_at_call 48;refine mo (c.o _) ?_;rintro r w3 ⟨rfl,rfl⟩);obtain ⟨⟨H,Y,V,F,G,M⟩,⟨P,h,t,u,x,O⟩,d⟩:=bJ l.o;obtain ⟨⟨u0,u1,u2,u3,u4,u5⟩,⟨t0,t1,t2,t3,t4,t5⟩,k⟩:=bJ i.o;have e1:jx a none 0 0 0 [] 0 none 0 0=zM #[J a,zN,J 0,Q [],J 0,zN] 97 (0,0):=rfl;have S:rW K N=zM #[J K,J N,Q [],zN,J 0,J 0] 39 (0,0):=rfl;rw [e1,S] at H Y V F G M P h t u x O d u0 u1 u2 u3 u4 u5 t0 t1 t2 t3 t4 t5 k l i s2 L;generalize o:((R.alloc (zM #[J a,zN,J 0,Q [],J 0,zN] 97 (0,0))).alloc (zM #[J K,J N,Q [],zN,J 0,J 0] 39 (0,0)))=w6 at *;clear o c e1 S;apply I;go_wp2;refine aK (v:=zd #[J K,J N,Q [],zN,J 0,J 0]) (by simp [results,results20,go_sem,H,Y,V,F,G,M,d,w1]) (by simp [go_sem]) ?_;refine ⟨K,N,rfl,PL.o _ ?_⟩;exact q.o _ _ _ (q.o _ _ _ (q.o _ _ _ (q.o _ _ _ (q.o _ _ _ (q.o _ _ _ L.o)))))
def II (e:Nat) (a:Int) (p:a=9\/a=10\/a=11\/a=12) (o:Option zD) (ln cn:Nat) (k:Int) (nm:By) (n:Int) (i:Option zD) (l m:Nat) (w:zW) (er at_:Int) (tx:By) (bn:Option zD) (b c:Nat) (kd nn:Int) (H:zW->Prop) (d:∀ w1 j u,H w1->H (w1.setCell (X (w.heap.size+1) j) u))
  (t:∀ W,zB w W->w.heap.size+1<W.heap.size->zC prog 70 #[zJ e,zd #[J a,B o ln cn,J k,Q nm,J n,B i l m]] W λr K=>r=zP (zd #[J er,J at_,Q tx,B bn b c,J kd,J nn])/\(∀ q,q=w.heap.size+1->K.heap[q]?=W.heap[q]?)/\H K) :
  zC prog 47 #[zJ e,zd #[J a,B o ln cn,J k,Q nm,J n,B i l m]] w λr K=>r=zP (zd #[J er,J at_,Q tx,B bn b c,J kd,J nn])/\H K:=by
 have s:=I t;have z:(a == 1)=false:=(by simp;omega);have T:(a == 2)=false:=(by simp;omega);have C:(a == 3)=false:=(by simp;omega);have E:(a == 4)=false:=(by simp;omega);have G:(a == 5)=false:=(by simp;omega);have D:(a == 6)=false:=(by simp;omega);have F:(a == 7)=false:=(by simp;omega);have U:(a == 8)=false:=(by simp;omega);clear t p;go_in;have h:=I (s.o ((w.alloc (zM #[J a,B o ln cn,J k,Q nm,J n,B i l m] 97)).alloc (zM #[J 0,J 0,Q [],zN,J 0,J 0] 39)) (aY _ _ _) (by simp));have f:=I (bc w (zM #[J a,B o ln cn,J k,Q nm,J n,B i l m] 97) #[J 0,J 0,Q [],zN,J 0,J 0] 39);clear s;go_wp2_with (go_at_call 70;refine mo h.o ?_;rintro r w1 ⟨rfl,g,x⟩);obtain ⟨⟨M,N,O,P,R,S⟩,⟨f0,f1,f2,f3,f4,f5⟩,L⟩:=bJ ((g (w.heap.size+1) rfl).t f.o);have y:=I x;clear g x h;apply I;go_wp2;refine aK (v:=zd #[J er,J at_,Q tx,B bn b c,J kd,J nn]) (by simp [results,results47,go_sem,M,N,O,P,R,S,L]) rfl ?_;exact ⟨rfl,d _ _ _ (d _ _ _ (d _ _ _ (d _ _ _ (d _ _ _ (d _ _ _ y.o)))))⟩
def KX (e:Nat) (f:Int) (x:f=1\/f=2\/f=3) (t:Option zD) (ln cn:Nat) (k:Int) (nm:By) (n:Int) (o:Option zD) (p s:Nat) (w:zW) (D:Int->Option zD->Nat->Nat->zW->Prop) (g:∀ er a l c w1 j u,D er a l c w1->D er a l c (w1.setCell (X (w.heap.size+1) j) u))
  (z:∀ W,zB w W->w.heap.size+1<W.heap.size->zC prog 65 #[zJ e,zd #[J f,B t ln cn,J k,Q nm,J n,B o p s]] W λr E=>∃ er C b d,r=zP (zd #[J er,J 0,Q [],B C b d,J 0,J 0])/\(∀ q,q=w.heap.size+1->E.heap[q]?=W.heap[q]?)/\D er C b d E) :
  zC prog 47 #[zJ e,zd #[J f,B t ln cn,J k,Q nm,J n,B o p s]] w λr E=>∃ er C b d,r=zP (zd #[J er,J 0,Q [],B C b d,J 0,J 0])/\D er C b d E:=by
 have y:=I z;clear z;have m:=I (y.o ((w.alloc (zM #[J f,B t ln cn,J k,Q nm,J n,B o p s] 97)).alloc (zM #[J 0,J 0,Q [],zN,J 0,J 0] 39)) (aY _ _ _) (by simp));have h:=I (bc w (zM #[J f,B t ln cn,J k,Q nm,J n,B o p s] 97) #[J 0,J 0,Q [],zN,J 0,J 0] 39);clear y;rcases x with rfl|rfl|rfl<;>go_in
 all_goals go_wp2_with (go_at_call 65;refine mo m.o ?_;rintro r w1 ⟨er,C,b,d,rfl,i,F⟩)
 all_goals obtain ⟨⟨L,M,N,O,P,R⟩,⟨f0,f1,f2,f3,f4,f5⟩,K⟩:=bJ ((i (w.heap.size+1) rfl).t h.o)
 all_goals have H:=I F
 all_goals clear i F m
 all_goals apply I
 all_goals go_wp2
 all_goals refine aK (v:=zd #[J er,J 0,Q [],B C b d,J 0,J 0]) (by simp [results,results47,go_sem,L,M,N,O,P,R,K]) rfl ?_
 all_goals exact ⟨er,C,b,d,rfl,g _ _ _ _ _ _ _ (g _ _ _ _ _ _ _ (g _ _ _ _ _ _ _ (g _ _ _ _ _ _ _ (g _ _ _ _ _ _ _ (g _ _ _ _ _ _ _ H.o)))))⟩
def Cp (x:By) {S:Nat->Prop} (e c:Nat) (a:Option zD) (fs:List (Nat × Fd)) (w:zW) (hs:Sh w S a fs) (o:w.cell? (yh e)=A (B a (G fs) c)) (k:e<w.heap.size) (n:G fs<=1000) :
  zC prog 102 #[zJ e,Q x] w λr K=>r=zP (zp #[zd #[J (match ah fs x with|some f=>f.2.v.1|none=>0),J (match ah fs x with|some f=>f.2.v.2|none=>0)],J (match ah fs x with|some _=>0|none=>5)])/\zB w K:=by
 have H:=I (λW (d:zB w W)=>kQ x e c a fs W (hs.next d) ((d.cell (p:=yh e) k).t o) n);have F:=I hs;clear hs;cases E:ah fs x with
 | some f=>
  have b:iQ fs x=A (yh f.1):=(by simp [iQ,E]);rw [b] at H;obtain ⟨_,_,_,_,N,M,c1,d,_⟩:=F.o.bX f (fE E).1;have m:=I d;clear d;go_in;go_wp2_with (go_at_call 137;refine mo (H.o _ (bZ _)) ?_;rintro r L ⟨rfl,rfl⟩);obtain ⟨⟨s,t,u,D,z,C,y⟩,g,l⟩:=fP ((cj w (zM #[J 0,J 0] 177) _ (F.o.bX f (fE E).1).lt).t m.o);have i:f.1≠w.heap.size:=(by have:=(F.o.bX f (fE E).1).lt;omega);have j:w.heap.size≠f.1:=λh=>i h.symm;generalize f.1=q at *;clear g H E b;apply I;go_wp2;refine aK (v:=zp #[zd #[J f.2.v.1,J f.2.v.2],J 0]) (by simp [results,results102,go_sem]) rfl ?_;exact ⟨rfl,(aM _ _).alloc (aG _) _⟩
 | none=>
  have b:iQ fs x=none:=(by simp [iQ,E]);rw [b] at H;go_in;go_wp2_with (go_at_call 137;refine (H.o _ (bZ _)).m ?_;rintro r L ⟨rfl,rfl⟩);refine aK (v:=zp #[zd #[J 0,J 0],J 5]) (by simp [results,results102,go_sem]) rfl ?_;exact ⟨rfl,(aM _ _).alloc (aG _) _⟩
def Sp (fs:List (Nat × Fd)) (x:By) (w:zW) (r:Ending) (w':zW):Prop:=
 zB w w'/\match ah fs x with|some f=>r=zP (zp #[Q (ai f.2.p),J 0])|none=>r=zP (zp #[Q [],J 5])
def Cq (x:By) {S:Nat->Prop} (e c:Nat) (a:Option zD) (fs:List (Nat × Fd)) (w:zW) (hs:Sh w S a fs) (m:Env w) (s:w.cell? (yh e)=A (B a (G fs) c)) (y:e<w.heap.size) (o:G fs<=1000) :
  zC prog 103 #[zJ e,Q x] w (Sp fs x w):=by
 have H:=I (kQ x e c a fs w hs s o);unfold Sp;cases E:ah fs x with
 | some f=>
  have b:iQ fs x=A (yh f.1):=(by simp [iQ,E]);rw [b] at H;obtain ⟨_,j,d,h,q,p,c1,l,k⟩:=hs.bX f (fE E).1;have i:=I (uy f.2.p q p c1 w k hs.still m d (by omega));obtain ⟨⟨u,v,z,D,L,C,K⟩,t,n⟩:=fP l;clear l hs m k j d h;go_in;go_wp2_with (first|(go_at_call 137;refine H.o.m ?_;rintro r F ⟨rfl,rfl⟩)|(go_at_call 44;refine i.o.m ?_;rintro r M ⟨rfl,g⟩));go_ret2;exact ⟨g,rfl⟩
 | none=>
  have b:iQ fs x=none:=(by simp [iQ,E]);rw [b] at H;go_in;go_wp2_with (go_at_call 137;refine H.o.m ?_;rintro r F ⟨rfl,rfl⟩);go_ret2;exact ⟨aM _ _,rfl⟩
def Cs {S:Nat->Prop} (e c:Nat) (a:Option zD) (fs:List (Nat × Fd)) (w:zW) (hs:Sh w S a fs) (g:w.cell? (yh e)=A (B a (G fs) c)) (d:G fs<=1000) :
  zC prog 105 #[zJ e] w λr C=>∃ v,r=zP v/\C.ownsRow w.heap.size 9 1 v (G fs) (ab (cJ fs))/\zB w C:=by
 have H:=I (uK a c fs w hs d);clear hs;go_in;go_wp2_with (go_at_call 142;refine H.o.m ?_;rintro r D ⟨v,rfl,f,b⟩);go_ret;exact ⟨v,rfl,f,b⟩
section
variable {fs Z:List Fd} {x y:By} {p:Pt} {aJ:List By}
def oY (E d:By->Vl):∀ p,az p->(∀ z,aC z p=true->E z=d z)->cD E p=cD d p
 | .atom k F n,D,h=>by
  unfold cD;split
  .rfl
  .split
   .rfl
   .split
    .rfl
    .refine h F ?_;have g:k=2:=by simp only [az] at D;omega
     simp [aC,g]
 | .un k a,D,h=>by
  have e:=oY E d a D.2 λz C=>h z (by simp [aC,C]);unfold cD;rw [e]
 | .bin k a b,D,h=>by
  have e1:=oY E d a D.2.1 λz C=>h z (by simp [aC,C]);have f:=oY E d b D.2.2 λz C=>h z (by simp [aC,C]);unfold cD;rw [e1,f]
 | .ifs a b c,D,h=>by
  have e1:=oY E d a D.1 λz C=>h z (by simp [aC,C]);have f:=oY E d b D.2.1 λz C=>h z (by simp [aC,C]);have i:=oY E d c D.2.2 λz C=>h z (by simp [aC,C]);unfold cD;rw [e1,f,i]
end
end Go.Proofs.YtihgojcfpnhelaaGreatDoor
