import Derived.Test.YtihgojcfpnhelaaGreatDoorHl
import Derived.Test.YtihgojcfpnhelaaGreatDoorUa
import Derived.Test.YtihgojcfpnhelaaGreatDoorDa
import Derived.Test.YtihgojcfpnhelaaGreatDoorNc
set_option maxRecDepth 100000
set_option maxHeartbeats 4000000
set_option linter.all false
namespace Go.Proofs.YtihgojcfpnhelaaGreatDoor
open Go renaming World->zW,Value->zV,Calls->zC,Addr->zD
open Go.RowKit Go.Proofs.Tryz
open List renaming length→G
def amA (r:zV) (p:Pt) (a:Option zD) (l c:Nat) (q:Nat->Pt) (A:Nat->Option zD) (L C:Nat->Nat) (v:Nat->Vl) (w:zW) (n:l=3) (h:p.k=3) (t:ib w a l q A L C) (o:kG r w l q A L C v) :
  zC prog 220 #[.agg #[bH r],.agg #[zI 3,zG p.nm,zI p.n,.slice a l c]] w (dx (fQ (v 0) (v 1) (v 2)) w):=by
 have B:=I o;have H:=I t;clear t o;obtain ⟨i,b⟩:∃ i,i=(((w.alloc (.cells #[bH r] 306)).alloc (.cells #[zI 3,zG p.nm,zI p.n,.slice a l c] 87)).alloc (.cells #[zI 0,zI 0] 177)):=⟨_,rfl⟩;have d:W3 r 3 (p.n:Int) p.nm (.slice a l c) w i:=by rw [b];exact W3.start r 3 (p.n:Int) p.nm _ w
 have z:=I d;have m:=I b;obtain ⟨⟨F,y,G,D⟩,_,J⟩:=aX d.p;obtain ⟨⟨k0,k1⟩,⟨f0,f1⟩,zn⟩:=cq d.R;have x:=d.c0;have k:=I (show ∀ W,zB i W->zC prog 246 #[.agg #[bH r],.agg #[zI 3,zG p.nm,zI p.n,.slice a l c]] W (dx (fQ (v 0) (v 1) (v 2)) W) from λW E=>by
  have f:=d.bS.t (E.m d.bS.size);have:=P7 r p a l c W q A L C v n (H.o.next f) (B.o.next f);rw [h] at this;exact this)
 clear n h;clear d b;go_in;go_wp2_with (go_at_call 246;rw [<- m.o];refine mo (k.o _ (aM _ _)) ?_;rintro e w1 ⟨rfl,g⟩);have s:=I (z.o.next g);clear k0 k1 f0 f1 x F y G D g;obtain ⟨⟨k0,k1⟩,⟨f0,f1⟩,u⟩:=cq s.o.R;generalize fQ (v 0) (v 1) (v 2)=j at *;apply I;go_wp2;refine aK (v:=.agg #[zI j.1,zI j.2]) EG rfl ?_;exact s.o.fin j
def aji (r:zV) (p:Pt) (a:Option zD) (l c:Nat) (q:Nat->Pt) (A:Nat->Option zD) (L C:Nat->Nat) (v:Nat->Vl) (w:zW) (m:l=2) (D:p.k≠1/\p.k≠7/\p.k≠8/\p.k≠2/\p.k≠9/\p.k≠14/\p.k≠6/\p.k≠4/\p.k≠5/\p.k≠3) (s:ib w a l q A L C) (n:kG r w l q A L C v) :
  zC prog 220 #[.agg #[bH r],.agg #[zI p.k,zG p.nm,zI p.n,.slice a l c]] w (dx (fR p.k (v 0) (v 1)) w):=by
 have z:=I n;have J:=I s;clear s n;obtain ⟨h,b⟩:∃ h,h=(((w.alloc (.cells #[bH r] 306)).alloc (.cells #[zI p.k,zG p.nm,zI p.n,.slice a l c] 87)).alloc (.cells #[zI 0,zI 0] 177)):=⟨_,rfl⟩;have d:W3 r (p.k:Int) (p.n:Int) p.nm (.slice a l c) w h:=by rw [b];exact W3.start r (p.k:Int) (p.n:Int) p.nm _ w
 have y:=I d;have k:=I b;obtain ⟨⟨G,x,H,B⟩,_,K⟩:=aX d.p;obtain ⟨⟨k0,k1⟩,⟨f0,f1⟩,zn⟩:=cq d.R;have u:=d.c0;have j:=I (show ∀ W,zB h W->zC prog 247 #[.agg #[bH r],.agg #[zI p.k,zG p.nm,zI p.n,.slice a l c]] W (dx (fR p.k (v 0) (v 1)) W) from λW F=>by
  have f:=d.bS.t (F.m d.bS.size);have:=UI r p a l c W q A L C v m (J.o.next f) (z.o.next f);exact this)
 have Q:((p.k:Int) == 1)=false:=bo.2 ae;have S:((p.k:Int) == 7)=false:=bo.2 ae;have O:((p.k:Int) == 8)=false:=bo.2 ae;have R:((p.k:Int) == 2)=false:=bo.2 ae;have P:((p.k:Int) == 9)=false:=bo.2 ae;have E:((p.k:Int) == 14)=false:=bo.2 ae;have T:((p.k:Int) == 6)=false:=bo.2 ae;have N:((p.k:Int) == 4)=false:=bo.2 ae;have U:((p.k:Int) == 5)=false:=bo.2 ae;have M:((p.k:Int) == 3)=false:=bo.2 ae;clear m D;clear d b;go_in;go_wp2_with (go_at_call 247;rw [<- k.o];refine mo (j.o _ (aM _ _)) ?_;rintro e w1 ⟨rfl,g⟩);have o:=I (y.o.next g);clear k0 k1 f0 f1 u G x H B g;obtain ⟨⟨k0,k1⟩,⟨f0,f1⟩,t⟩:=cq o.o.R;generalize fR p.k (v 0) (v 1)=i at *;apply I;go_wp2;refine aK (v:=.agg #[zI i.1,zI i.2]) EG rfl ?_;exact o.o.fin i
def ajj (r:zV) (p:Pt) (a:Option zD) (l c:Nat) (q:Nat->Pt) (A:Nat->Option zD) (L C:Nat->Nat) (v:Nat->Vl) (w:zW) (x:l=2) (k:p.k=4) (s:ib w a l q A L C) (o:kG r w l q A L C v) :
  zC prog 220 #[.agg #[bH r],.agg #[zI 4,zG p.nm,zI p.n,.slice a l c]] w (dx (dH (2,0) (v 0) (v 1)) w):=by
 have E:=I o;have F:=I s;clear s o;obtain ⟨b,f⟩:∃ b,b=(((w.alloc (.cells #[bH r] 306)).alloc (.cells #[zI 4,zG p.nm,zI p.n,.slice a l c] 87)).alloc (.cells #[zI 0,zI 0] 177)):=⟨_,rfl⟩;have g:W3 r 4 (p.n:Int) p.nm (.slice a l c) w b:=by rw [f];exact W3.start r 4 (p.n:Int) p.nm _ w
 have D:=I g;have i:=I f;obtain ⟨⟨X,T,Y,U⟩,_,G⟩:=aX g.p;obtain ⟨⟨J,K⟩,⟨f0,f1⟩,zn⟩:=cq g.R;have O:=g.c0;have n:=I (show ∀ W,zB b W->zC prog 245 #[.agg #[bH r],.agg #[zI 2,zI 0],.agg #[zI 4,zG p.nm,zI p.n,.slice a l c]] W (dx (dH (2,0) (v 0) (v 1)) W) from λW z=>by
  have h:=g.bS.t (z.m g.bS.size);have:=Dl r (2,0) p a l c W q A L C v ae ae (F.o.next h) (E.o.next h);rw [k] at this;exact this)
 have B:=I (show ∀ W,zC prog 241 #[.bool false] W λe w'=>e=.returned (.agg #[zI 2,zI 0])/\zB W w' from λW=>lK false W);clear x k;clear g f;go_in
 go_upto_region 16 with fail
 rw [<- i.o];clear i
 go_region_with (first|(go_at_call 241;refine (B.o _).m ?_;rintro e w1 ⟨rfl,d⟩;have y:=I ((aM b.heap.size b).drew.t d);have m:=I (D.o.next ((aM b.heap.size b).drew.t d));have P:=m.o.c0;obtain ⟨⟨N,R,Q,V⟩,_,H⟩:=aX m.o.p;clear d)|(go_at_call 245;refine (n.o _ y.o).m ?_;rintro e w2 ⟨rfl,j⟩;have t:=I (m.o.next j);obtain ⟨⟨m0,m1⟩,⟨S,M⟩,u⟩:=cq t.o.R;clear j))
 all_goals go_wp2
 all_goals refine aK (v:=.agg #[zI (dH (2,0) (v 0) (v 1)).1,zI (dH (2,0) (v 0) (v 1)).2]) JE rfl ?_
 all_goals exact t.o.fin (dH (2,0) (v 0) (v 1))
def amB (r:zV) (p:Pt) (a:Option zD) (l c:Nat) (q:Nat->Pt) (A:Nat->Option zD) (L C:Nat->Nat) (v:Nat->Vl) (w:zW) (x:l=2) (k:p.k=5) (s:ib w a l q A L C) (o:kG r w l q A L C v) :
  zC prog 220 #[.agg #[bH r],.agg #[zI 5,zG p.nm,zI p.n,.slice a l c]] w (dx (dH (2,1) (v 0) (v 1)) w):=by
 have E:=I o;have F:=I s;clear s o;obtain ⟨b,f⟩:∃ b,b=(((w.alloc (.cells #[bH r] 306)).alloc (.cells #[zI 5,zG p.nm,zI p.n,.slice a l c] 87)).alloc (.cells #[zI 0,zI 0] 177)):=⟨_,rfl⟩;have g:W3 r 5 (p.n:Int) p.nm (.slice a l c) w b:=by rw [f];exact W3.start r 5 (p.n:Int) p.nm _ w
 have D:=I g;have i:=I f;obtain ⟨⟨X,T,Y,U⟩,_,G⟩:=aX g.p;obtain ⟨⟨J,K⟩,⟨f0,f1⟩,zn⟩:=cq g.R;have O:=g.c0;have n:=I (show ∀ W,zB b W->zC prog 245 #[.agg #[bH r],.agg #[zI 2,zI 1],.agg #[zI 5,zG p.nm,zI p.n,.slice a l c]] W (dx (dH (2,1) (v 0) (v 1)) W) from λW z=>by
  have h:=g.bS.t (z.m g.bS.size);have:=Dl r (2,1) p a l c W q A L C v ae ae (F.o.next h) (E.o.next h);rw [k] at this;exact this)
 have B:=I (show ∀ W,zC prog 241 #[.bool true] W λe w'=>e=.returned (.agg #[zI 2,zI 1])/\zB W w' from λW=>lK true W);clear x k;clear g f;go_in
 go_upto_region 18 with fail
 rw [<- i.o];clear i
 go_region_with (first|(go_at_call 241;refine (B.o _).m ?_;rintro e w1 ⟨rfl,d⟩;have y:=I ((aM b.heap.size b).drew.t d);have m:=I (D.o.next ((aM b.heap.size b).drew.t d));have P:=m.o.c0;obtain ⟨⟨N,R,Q,V⟩,_,H⟩:=aX m.o.p;clear d)|(go_at_call 245;refine (n.o _ y.o).m ?_;rintro e w2 ⟨rfl,j⟩;have t:=I (m.o.next j);obtain ⟨⟨m0,m1⟩,⟨S,M⟩,u⟩:=cq t.o.R;clear j))
 all_goals go_wp2
 all_goals refine aK (v:=.agg #[zI (dH (2,1) (v 0) (v 1)).1,zI (dH (2,1) (v 0) (v 1)).2]) JE rfl ?_
 all_goals exact t.o.fin (dH (2,1) (v 0) (v 1))
def Dm (p:Pt) (j:Nat):Pt:=(p.kids[j]?).getD (.atom 1 [] 0)
def Fs (p:Pt) (j:Nat) (h:j<G p.kids):Dm p j=p.kids[j]:=by
 simp [Dm,h]
def UJ (r:zV) (ρ:By->Vl) {F:zW} {S:Nat->Prop} {p:Pt} {a:Option zD} {l c:Nat} (J:dR F S p a l c):∀ w,Shape p->(∀ q,S q->q<w.heap.size/\w.heap[q]?=F.heap[q]?)->(∀ x W,zB w W->zC prog 198 #[r,.string ⟨(x:By).toArray⟩] W (dx (ρ x) W)) ->
  zC prog 220 #[.agg #[bH r],.agg #[zI p.k,zG p.nm,zI p.n,.slice a l c]] w (dx (cD ρ p) w):=by
 induction J with
 | leaf p s=>
  intro w d _ B;cases p with
  | atom k x n=>
   rcases d with rfl|rfl|rfl|rfl
   ·exact w_num r x n none 0 0 w
   ·exact afn r x n none 0 0 (ρ x) w (B x)
   ·exact afo r x n none 0 0 w
   ·exact acA r x n none 0 0 w
  | un=>simp [Pt.kids] at s
  | bin=>simp [Pt.kids] at s
  | ifs=>simp [Pt.kids] at s
 | node p g b A L C o s M _ K=>
  intro w d f B;have i:ib w (some ⟨g,0,none⟩) (G p.kids) (Dm p) A L C:=λj m=>by
   refine ⟨g,rfl,(f g o).1,?_⟩;rw [Fs p j m,aS (f g o).2,aS (f g o).2,aS (f g o).2,aS (f g o).2];exact M j m
  have h:kG r w (G p.kids) (Dm p) A L C (λj=>cD ρ (Dm p j)):=λj m W t=>by
   have:=K j m W (d.get j m) (λq D=>⟨bG (f q D).1 t.size,(t.block q (f q D).1).t (f q D).2⟩) (λx N v=>B x N (t.t (v.m t.size)));rw [<- Fs p j m] at this;exact this
  cases p with
  | atom k x n=>exact absurd rfl s
  | un k y=>
   rcases d.1 with rfl|rfl|rfl
   ·exact afp r [] 0 _ 1 b _ A L C _ w ae ae i h
   ·exact ajg r [] 0 _ 1 b _ A L C _ w ae ae i h
   ·exact ajh r [] 0 _ 1 b _ A L C _ w ae ae i h
  | bin k y z=>
   by_cases H:k=4
   ·subst H;exact ajj r (.bin 4 y z) _ 2 b _ A L C _ w rfl rfl i h
   ·by_cases E:k=5
    ·subst E;exact amB r (.bin 5 y z) _ 2 b _ A L C _ w rfl rfl i h
    ·have e:cD ρ (.bin k y z)=fR k (cD ρ y) (cD ρ z):=by simp only [cD,aA H,aA E]
     rw [e];exact aji r (.bin k y z) _ 2 b _ A L C _ w rfl (by have:=d.1;show k≠1/\k≠7/\k≠8/\k≠2/\k≠9/\k≠14/\k≠6/\k≠4/\k≠5/\k≠3;omega) i h
  | ifs y z u=>exact amA r (.ifs y z u) _ 3 b _ A L C _ w rfl rfl i h
section
open Go.RowKit Go.Shelf Go.Sort
def U1 (d c:Nat) (a b:By) (W:zW) (c1:W.cell? ⟨d,0,none⟩=some (zG a)) (c2:W.cell? ⟨c,0,none⟩=some (zG b)) :
  zC prog 140 #[zJ d,zJ c] W λe w'=>e=.returned (zI (Lib.compareBytes a b))/\∃ q,w'=W.drewN q:=by
 have H:=λW=>Any.strings_Compare lays106 ⟨a.toArray⟩ ⟨b.toArray⟩ W;change ∀ W,zC prog 141 _ _ _ at H;simp only [] at H;generalize Lib.compareBytes a b=z at H ⊢;go_in;go_wp2_with fail
 go_region_with (first|(go_at_call 141;refine (H _).m ?_;rintro e w' ⟨rfl,rfl⟩))
 all_goals go_wp2
 all_goals refine aK (v:=zI z) (by simp [results,results140,go_sem]) gN ?_
 all_goals exact ⟨rfl,1,rfl⟩
def AX {α:Type} [Inhabited α] (enc:α->zV) (w:zW) (blk a m:Nat) (c:Array α) (b:Array Obj) (q:Nat) (d:q≠blk) (h2:q<w.heap.size):(sortWorld enc w blk a m c b).heap[q]?=w.heap[q]?:=by
 unfold sortWorld Sort.grow Sort.putRow Sort.mapBlock Sort.ahead;show ((w.heap.modify blk _)++b)[q]?=_;rw [Array.getElem?_append_left tI,Array.getElem?_modify];simp [nM d]
def IG {α:Type} [Inhabited α] (enc:α->zV) (w:zW) (blk a:Nat) (d:Array α) (q:Nat) (b:q≠blk):(putRow enc w blk a d).heap[q]?=w.heap[q]?:=by
 unfold Sort.putRow Sort.mapBlock;show (w.heap.modify blk _)[q]?=_;rw [Array.getElem?_modify];simp [nM b]
def U2:∀ n:Nat,n<13->IntKind.u64.wrap (n:Int)=(n:Int):=ai
abbrev Mem (fs:List (Nat × Fd)):Type:={ f:Nat × Fd // f∈fs }
def n9 {fs:List (Nat × Fd)} (x:Mem fs):zV:=.pointer (some ⟨x.1.1,0,none⟩)
def ux {fs:List (Nat × Fd)} (x y:Mem fs):Int:=Lib.compareBytes x.1.2.nm y.1.2.nm
def amF (fs:List (Nat × Fd)) [Inhabited (Mem fs)] (blk a c:Nat) (h:Int) (d:Array (Mem fs)) (w:zW) (b:CmpReads prog 140 #[] (n9 (fs:=fs)) ux blk a d.size w) (i:Holds (n9 (fs:=fs)) w blk a d) (g:d.size<=12) :
  zC prog 202 #[.slice (some ⟨blk,a,none⟩) d.size c,zI 0,zI d.size,zI h,.func (.func 140) #[] #[]] w λe w'=>e=.returned (.tuple #[])/\∃ n,w'=(putRow (n9 (fs:=fs)) w blk a (Sort.insertionSort (ltOf (ux (fs:=fs))) d 0 d.size)).drewN n:=by
 have f:=Any.insertionSortCmpFunc_one lays20 (n9 (fs:=fs)) (λ_=>rfl) ux 140 #[] blk a c 0 d.size d w (oK func140 aD rfl) b i (bE _) (aG _) ae;replace f:zC prog 223 #[.slice (some ⟨blk,a,none⟩) d.size c,zI 0,zI d.size,.func (.func 140) #[] #[]] w λe w'=>e=.returned (.tuple #[])/\∃ n,w'=(putRow (n9 (fs:=fs)) w blk a (Sort.insertionSort (ltOf (ux (fs:=fs))) d 0 d.size)).drewN n:=f;clear b i;generalize Sort.insertionSort (ltOf (ux (fs:=fs))) d 0 d.size=d' at f ⊢;generalize d.size=n at f g ⊢;have j:(n:Int)<=12:=ae;go_in;go_wp2;refine wp_loop_rounds 1 ?_;rw [rounds_succ];go_wp2_with (go_at_call 223;refine f.m ?_;rintro e w' ⟨rfl,n,rfl⟩)
 (try simp only [Exit.inBlock,Exit.then]);refine aK (results_none rfl _ _ _) rfl ?_
 exact ⟨rfl,n,rfl⟩
def ajm (fs:List (Nat × Fd)) [Inhabited (Mem fs)] (blk a f:Nat) (d:Array (Mem fs)) (w:zW) (b:CmpReads prog 140 #[] (n9 (fs:=fs)) ux blk a d.size w) (j:Holds (n9 (fs:=fs)) w blk a d) (c:d.size<=12) :
  zC prog 170 #[.slice (some ⟨blk,a,none⟩) d.size f,.func (.func 140) #[] #[]] w λe w'=>e=.returned (.tuple #[])/\∃ n,w'=(putRow (n9 (fs:=fs)) w blk a (Sort.insertionSort (ltOf (ux (fs:=fs))) d 0 d.size)).drewN n:=by
 have h:=λi=>amF fs blk a f i d w b j c;have g:=Any.bits_Len lays125 (d.size:Int) w ae ae;change zC prog 203 _ _ _ at g;clear b j;generalize Sort.insertionSort (ltOf (ux (fs:=fs))) d 0 d.size=d' at h ⊢;generalize Lib.bitLen (d.size:Int).toNat=z at g;have k:IntKind.u64.wrap (d.size:Int)=(d.size:Int):=U2 d.size ae;generalize d.size=n at h g c k ⊢;go_in;go_wp2_with (first|(go_at_call 203;refine g.m ?_;rintro e w' ⟨rfl,rfl⟩)|(go_at_call 202;refine (h _).m ?_;rintro e w' ⟨rfl,n,rfl⟩))
 go_end0
 exact ⟨rfl,n,rfl⟩
end
def rW (er at_:Int):Obj:=.cells #[zI er,zI at_,zG [],zN,zI 0,zI 0] 39 (0,0)
def ai4 (Q:Int->Int->zW->Prop) (e:Nat) (w:zW) (r:Ending) (w1:zW):Prop:=
 Below (w.heap.size+1) (w.alloc bM) w1/\∃ a er at_ Z,er≠0/\r=.returned (.tuple #[j7 a none 0 0 0 [] 0 none 0 0,zI er,zI at_])/\(∀ W j u,Z W->Z (W.setCell ⟨w.heap.size,j,none⟩ u)) /\
  Z ((w1.alloc (jx a none 0 0 0 [] 0 none 0 0)).alloc (rW er at_))/\ace e w.heap.size (w1.heap.size+1) Z a er (Q er at_)
def PW (e:Nat) (s:By) (w:zW) (Q:Int->Int->zW->Prop)
  (hR:zC prog 46 #[zG s] (w.alloc bM) (ai4 Q e w)) :
  zC prog 20 #[zJ e,zG s] w λr w'=>∃ er at_,r=.returned (Ik er at_ [] none 0 0 0 0)/\Q er at_ w':=by
 have T:=I hR;clear hR;unfold bM at T;go_in;go_wp2_with (go_at_call 46;refine T.o.m ?_;rintro r w1 ⟨hb1,a,er,at_,Z,her,hr,hA,hZ,U⟩;unfold j7 at hr;subst hr;apply Hid.o);have R:w.heap.size<w1.heap.size:=vM;have amk:(er == 0)=false:=Ot;have p:w1.heap[w.heap.size]?=some bM:=(hb1.block _ ae).t (bL w bM);have D:((w1.alloc (jx a none 0 0 0 [] 0 none 0 0)).alloc (rW er at_)).heap[w.heap.size]?=some bM:=by
  rw [cj _ _ _ aN,cj _ _ _ R];exact p
 have C:((w1.alloc (jx a none 0 0 0 [] 0 none 0 0)).alloc (rW er at_)).heap[w1.heap.size+1]?=some (rW er at_):=by
  have:=bL (w1.alloc (jx a none 0 0 0 [] 0 none 0 0)) (rW er at_);simpa using this
 have y:((w1.alloc (jx a none 0 0 0 [] 0 none 0 0)).alloc (rW er at_)).heap[w1.heap.size]?=some (jx a none 0 0 0 [] 0 none 0 0):=by
  rw [cj _ _ _ aq];exact bL w1 _
 have l:=I D;have i:=I C;have z:=I y;have q:=I hA;have L:=I hZ;have m:=I U;have g:=I U.1;obtain ⟨⟨k0,k1,k2,k3,k4,k5⟩,⟨f0,f1,f2,f3,f4,f5⟩,hsz⟩:=bJ p;have hne:w.heap.size≠w1.heap.size+1:=ae;have V:w1.heap.size+1≠w.heap.size:=ae;have Y:w.heap.size≠w1.heap.size:=ae;have S:w1.heap.size≠w.heap.size:=ae;clear hb1 hA hZ U T D C y p;apply I;by_cases f:rT a=true
 ·have b:(a == 1||(a == 2||a == 3))=true:=f;have c:=I (λW=>rV a W);rw [b] at c;have j:=m.o.2;rw [aB ⟨her,f⟩] at j;have B:=I (j _ L.o);clear j f b m q L;go_wp2_with (go_at_call 48;refine mo (c.o _) ?_;rintro r w3 ⟨rfl,rfl⟩);obtain ⟨⟨H,J,K,F,G,M⟩,⟨P,s1,s2,s3,s4,O⟩,d⟩:=bJ l.o;obtain ⟨⟨u0,u1,u2,u3,u4,u5⟩,⟨t0,t1,t2,t3,t4,t5⟩,k⟩:=bJ i.o;have e1:jx a none 0 0 0 [] 0 none 0 0=.cells #[zI a,zN,zI 0,zG [],zI 0,zN] 97 (0,0):=rfl;have A:rW er at_=.cells #[zI er,zI at_,zG [],zN,zI 0,zI 0] 39 (0,0):=rfl;rw [e1,A] at H J K F G M P s1 s2 s3 s4 O d u0 u1 u2 u3 u4 u5 t0 t1 t2 t3 t4 t5 k l i z B;generalize o:((w1.alloc (.cells #[zI a,zN,zI 0,zG [],zI 0,zN] 97 (0,0))).alloc (.cells #[zI er,zI at_,zG [],zN,zI 0,zI 0] 39 (0,0)))=w6 at *;clear o c e1 A;apply I;go_wp2_with (go_at_call 49;refine mo B.o ?_;rintro r w3 ⟨⟨x,rfl⟩,E,t,u⟩);obtain ⟨⟨k0,k1,k2,k3,k4,k5⟩,⟨f0,f1,f2,f3,f4,f5⟩,hsz⟩:=bJ (E.t l.o);obtain ⟨⟨j0,j1,j2,j3,j4,j5⟩,⟨g0,g1,g2,g3,g4,g5⟩,X⟩:=bJ (t.t i.o);have N:=I u;clear E t u;apply I;go_wp2;refine aK (v:=.agg #[zI er,zI at_,zG [],zN,zI 0,zI 0]) Re gN ?_;refine ⟨er,at_,rfl,?_⟩;exact g.o _ _ _ (g.o _ _ _ (g.o _ _ _ (g.o _ _ _ (g.o _ _ _ (g.o _ _ _ N.o)))))
 ·have b:(a == 1||(a == 2||a == 3))=false:=by simpa [rT] using f
  have c:=I (λW=>rV a W);rw [b] at c;have n:=m.o.2;rw [aA (λh=>f h.2)] at n;have PL:=I n;clear n f b m;go_wp2_with (go_at_call 48;refine mo (c.o _) ?_;rintro r w3 ⟨rfl,rfl⟩);obtain ⟨⟨H,J,K,F,G,M⟩,⟨P,s1,s2,s3,s4,O⟩,d⟩:=bJ l.o;obtain ⟨⟨u0,u1,u2,u3,u4,u5⟩,⟨t0,t1,t2,t3,t4,t5⟩,k⟩:=bJ i.o;have e1:jx a none 0 0 0 [] 0 none 0 0=.cells #[zI a,zN,zI 0,zG [],zI 0,zN] 97 (0,0):=rfl;have A:rW er at_=.cells #[zI er,zI at_,zG [],zN,zI 0,zI 0] 39 (0,0):=rfl;rw [e1,A] at H J K F G M P s1 s2 s3 s4 O d u0 u1 u2 u3 u4 u5 t0 t1 t2 t3 t4 t5 k l i z L;generalize o:((w1.alloc (.cells #[zI a,zN,zI 0,zG [],zI 0,zN] 97 (0,0))).alloc (.cells #[zI er,zI at_,zG [],zN,zI 0,zI 0] 39 (0,0)))=w6 at *;clear o c e1 A;apply I;go_wp2;refine aK (v:=.agg #[zI er,zI at_,zG [],zN,zI 0,zI 0]) (by simp [results,results20,go_sem,H,J,K,F,G,M,d,hne]) gN ?_;refine ⟨er,at_,rfl,PL.o _ ?_⟩;exact q.o _ _ _ (q.o _ _ _ (q.o _ _ _ (q.o _ _ _ (q.o _ _ _ (q.o _ _ _ L.o)))))
def ag8 (e:Nat) (a:Int) (p:a=9\/a=10\/a=11\/a=12) (o:Option zD) (ln cn:Nat) (k:Int) (nm:By) (n:Int) (i:Option zD) (l m:Nat) (w:zW) (er at_:Int) (tx:By) (bn:Option zD) (b c:Nat) (kd nn:Int) (Q:zW->Prop) (d:∀ w1 j u,Q w1->Q (w1.setCell ⟨w.heap.size+1,j,none⟩ u))
  (t:∀ W,zB w W->w.heap.size+1<W.heap.size->zC prog 70 #[zJ e,.agg #[zI a,.slice o ln cn,zI k,zG nm,zI n,.slice i l m]] W λr w'=>r=.returned (.agg #[zI er,zI at_,zG tx,.slice bn b c,zI kd,zI nn])/\(∀ q,q=w.heap.size+1->w'.heap[q]?=W.heap[q]?)/\Q w') :
  zC prog 47 #[zJ e,.agg #[zI a,.slice o ln cn,zI k,zG nm,zI n,.slice i l m]] w λr w'=>r=.returned (.agg #[zI er,zI at_,zG tx,.slice bn b c,zI kd,zI nn])/\Q w':=by
 have s:=I t;have z:(a == 1)=false:=aN;have A:(a == 2)=false:=aN;have C:(a == 3)=false:=aN;have E:(a == 4)=false:=aN;have G:(a == 5)=false:=aN;have D:(a == 6)=false:=aN;have F:(a == 7)=false:=aN;have B:(a == 8)=false:=aN;clear t p;go_in;have h:=I (s.o ((w.alloc (.cells #[zI a,.slice o ln cn,zI k,zG nm,zI n,.slice i l m] 97)).alloc (.cells #[zI 0,zI 0,zG [],zN,zI 0,zI 0] 39)) (aY _ _ _) aq);have f:=I (bc w (.cells #[zI a,.slice o ln cn,zI k,zG nm,zI n,.slice i l m] 97) #[zI 0,zI 0,zG [],zN,zI 0,zI 0] 39);clear s;go_wp2_with (go_at_call 70;refine mo h.o ?_;rintro r w1 ⟨rfl,g,x⟩);obtain ⟨⟨k0,k1,k2,k3,k4,k5⟩,⟨f0,f1,f2,f3,f4,f5⟩,hsz⟩:=bJ ((g (w.heap.size+1) rfl).t f.o);have y:=I x;clear g x h;apply I;go_wp2;refine aK (v:=.agg #[zI er,zI at_,zG tx,.slice bn b c,zI kd,zI nn]) Q0 rfl ?_;exact ⟨rfl,d _ _ _ (d _ _ _ (d _ _ _ (d _ _ _ (d _ _ _ (d _ _ _ y.o)))))⟩
def KX (e:Nat) (f:Int) (x:f=1\/f=2\/f=3) (t:Option zD) (ln cn:Nat) (k:Int) (nm:By) (n:Int) (o:Option zD) (p s:Nat) (w:zW) (Q:Int->Option zD->Nat->Nat->zW->Prop) (g:∀ er a l c w1 j u,Q er a l c w1->Q er a l c (w1.setCell ⟨w.heap.size+1,j,none⟩ u))
  (z:∀ W,zB w W->w.heap.size+1<W.heap.size->zC prog 65 #[zJ e,.agg #[zI f,.slice t ln cn,zI k,zG nm,zI n,.slice o p s]] W λr w'=>∃ er bn b d,r=.returned (.agg #[zI er,zI 0,zG [],.slice bn b d,zI 0,zI 0])/\(∀ q,q=w.heap.size+1->w'.heap[q]?=W.heap[q]?)/\Q er bn b d w') :
  zC prog 47 #[zJ e,.agg #[zI f,.slice t ln cn,zI k,zG nm,zI n,.slice o p s]] w λr w'=>∃ er bn b d,r=.returned (.agg #[zI er,zI 0,zG [],.slice bn b d,zI 0,zI 0])/\Q er bn b d w':=by
 have y:=I z;clear z;have m:=I (y.o ((w.alloc (.cells #[zI f,.slice t ln cn,zI k,zG nm,zI n,.slice o p s] 97)).alloc (.cells #[zI 0,zI 0,zG [],zN,zI 0,zI 0] 39)) (aY _ _ _) aq);have h:=I (bc w (.cells #[zI f,.slice t ln cn,zI k,zG nm,zI n,.slice o p s] 97) #[zI 0,zI 0,zG [],zN,zI 0,zI 0] 39);clear y;rcases x with rfl|rfl|rfl<;>go_in
 all_goals go_wp2_with (go_at_call 65;refine mo m.o ?_;rintro r w1 ⟨er,bn,b,d,rfl,i,A⟩)
 all_goals obtain ⟨⟨k0,k1,k2,k3,k4,k5⟩,⟨f0,f1,f2,f3,f4,f5⟩,hsz⟩:=bJ ((i (w.heap.size+1) rfl).t h.o)
 all_goals have B:=I A
 all_goals clear i A m
 all_goals apply I
 all_goals go_wp2
 all_goals refine aK (v:=.agg #[zI er,zI 0,zG [],.slice bn b d,zI 0,zI 0]) Q0 rfl ?_
 all_goals exact ⟨er,bn,b,d,rfl,g _ _ _ _ _ _ _ (g _ _ _ _ _ _ _ (g _ _ _ _ _ _ _ (g _ _ _ _ _ _ _ (g _ _ _ _ _ _ _ (g _ _ _ _ _ _ _ B.o)))))⟩
def ack (x:By) {S:Nat->Prop} (e c:Nat) (a:Option zD) (fs:List (Nat × Fd)) (w:zW) (hs:Sh w S a fs) (o:w.cell? ⟨e,0,none⟩=some (.slice a (G fs) c)) (k:e<w.heap.size) (n:(G fs)<=1000) :
  zC prog 102 #[zJ e,zG x] w λr w'=>r=.returned (.tuple #[.agg #[zI (match findF fs x with|some f=>f.2.v.1|none=>0),zI (match findF fs x with|some f=>f.2.v.2|none=>0)],zI (match findF fs x with|some _=>0|none=>5)])/\zB w w':=by
 have H:=I (λW (d:zB w W)=>kQ x e c a fs W (hs.next d) ((d.cell (p:=⟨e,0,none⟩) k).t o) n);have HS:=I hs;clear hs;cases hf:findF fs x with
 | some f=>
  have b:iQ fs x=some ⟨f.1,0,none⟩:=yK;rw [b] at H;obtain ⟨_,_,_,_,B,A,c1,d,_⟩:=HS.o.bX f (fE hf).1;have m:=I d;clear d;go_in;go_wp2_with (go_at_call 137;refine mo (H.o _ (bZ _)) ?_;rintro r w1 ⟨rfl,rfl⟩);obtain ⟨⟨s,t,u,D,z,C,y⟩,g,l⟩:=fP ((cj w (.cells #[zI 0,zI 0] 177) _ (HS.o.bX f (fE hf).1).lt).t m.o);have i:f.1≠w.heap.size:=ZY;have j:w.heap.size≠f.1:=λh=>i h.symm;generalize f.1=q at *;clear g H hf b;apply I;go_wp2;refine aK (v:=.tuple #[.agg #[zI f.2.v.1,zI f.2.v.2],zI 0]) aat rfl ?_;exact ⟨rfl,(aM _ _).alloc (aG _) _⟩
 | none=>
  have b:iQ fs x=none:=yK;rw [b] at H;go_in;go_wp2_with (go_at_call 137;refine (H.o _ (bZ _)).m ?_;rintro r w1 ⟨rfl,rfl⟩);refine aK (v:=.tuple #[.agg #[zI 0,zI 0],zI 5]) aat rfl ?_;exact ⟨rfl,(aM _ _).alloc (aG _) _⟩
def Sp (fs:List (Nat × Fd)) (x:By) (w:zW) (r:Ending) (w':zW):Prop:=
 zB w w'/\match findF fs x with|some f=>r=.returned (.tuple #[.string ⟨(txt f.2.p).toArray⟩,zI 0])|none=>r=.returned (.tuple #[zG [],zI 5])
def aff (x:By) {S:Nat->Prop} (e c:Nat) (a:Option zD) (fs:List (Nat × Fd)) (w:zW) (hs:Sh w S a fs) (m:Env w) (s:w.cell? ⟨e,0,none⟩=some (.slice a (G fs) c)) (y:e<w.heap.size) (o:(G fs)<=1000) :
  zC prog 103 #[zJ e,zG x] w (Sp fs x w):=by
 have H:=I (kQ x e c a fs w hs s o);unfold Sp;cases hf:findF fs x with
 | some f=>
  have b:iQ fs x=some ⟨f.1,0,none⟩:=yK;rw [b] at H;obtain ⟨_,j,d,h,q,p,c1,l,k⟩:=hs.bX f (fE hf).1;have i:=I (uy f.2.p q p c1 w k hs.still m d ae);obtain ⟨⟨u,v,z,D,B,C,A⟩,t,n⟩:=fP l;clear l hs m k j d h;go_in;go_wp2_with (first|(go_at_call 137;refine H.o.m ?_;rintro r w1 ⟨rfl,rfl⟩)|(go_at_call 44;refine i.o.m ?_;rintro r w2 ⟨rfl,g⟩));go_ret2;exact ⟨g,rfl⟩
 | none=>
  have b:iQ fs x=none:=yK;rw [b] at H;go_in;go_wp2_with (go_at_call 137;refine H.o.m ?_;rintro r w1 ⟨rfl,rfl⟩);go_ret2;exact ⟨aM _ _,rfl⟩
def acm {S:Nat->Prop} (e c:Nat) (a:Option zD) (fs:List (Nat × Fd)) (w:zW) (hs:Sh w S a fs) (g:w.cell? ⟨e,0,none⟩=some (.slice a (G fs) c)) (d:(G fs)<=1000) :
  zC prog 105 #[zJ e] w λr w'=>∃ v,r=.returned v/\w'.ownsRow w.heap.size 9 1 v (G fs) (strs (cJ fs))/\zB w w':=by
 have H:=I (uK a c fs w hs d);clear hs;go_in;go_wp2_with (go_at_call 142;refine H.o.m ?_;rintro r w1 ⟨v,rfl,f,b⟩);go_ret;exact ⟨v,rfl,f,b⟩
section
variable {fs Z:List Fd} {x y:By} {p:Pt} {aJ:List By}
def oY (ρ d:By->Vl):∀ p,Shape p->(∀ z,aC z p=true->ρ z=d z)->cD ρ p=cD d p
 | .atom k nm n,hs,h=>by
  unfold cD;split
  ·rfl
  ·split
   ·rfl
   ·split
    ·rfl
    ·refine h nm ?_;have g:k=2:=by simp only [Shape] at hs;omega
     simp [aC,g]
 | .un k a,hs,h=>by
  have e:=oY ρ d a hs.2 λz hz=>h z yG;unfold cD;rw [e]
 | .bin k a b,hs,h=>by
  have e1:=oY ρ d a hs.2.1 λz hz=>h z yG;have f:=oY ρ d b hs.2.2 λz hz=>h z yG;unfold cD;rw [e1,f]
 | .ifs a b c,hs,h=>by
  have e1:=oY ρ d a hs.1 λz hz=>h z yG;have f:=oY ρ d b hs.2.1 λz hz=>h z yG;have i:=oY ρ d c hs.2.2 λz hz=>h z yG;unfold cD;rw [e1,f,i]
end
end Go.Proofs.YtihgojcfpnhelaaGreatDoor
