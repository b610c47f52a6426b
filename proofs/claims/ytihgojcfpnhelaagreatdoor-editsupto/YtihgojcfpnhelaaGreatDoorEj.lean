import Derived.Test.YtihgojcfpnhelaaGreatDoorJc
set_option maxRecDepth 100000
set_option maxHeartbeats 4000000
set_option linter.all false
namespace Go.Proofs.YtihgojcfpnhelaaGreatDoor
open Go renaming World->zW,Value->zV,Calls->zC,Addr->zD
open Go.RowKit Go.Proofs.Tryz
open List renaming length→G
section
def FA (f:Fd):By × By:=(f.nm,txt f.p)
def amI (k:By × By):By:=k.1++[32,61,32]++k.2++[10]
def Lh:∀ {l:List (By × By)},(l.map Prod.fst).Nodup->∀ {a b:By × By},a∈l->b∈l->a.1=b.1->a=b
 | [],_,_,_,h,_,_=>oV
 | c::r,f,a,b,g,d,e=>by
  simp only [fL,jB] at f;rcases bQ.1 g with rfl|g
  ·rcases bQ.1 d with rfl|d
   ·rfl
   ·exact absurd (e▸iJ d) f.1
  ·rcases bQ.1 d with i|d
   ·exact absurd (i▸e▸iJ g) f.1
   ·exact Lh f.2 g d e
def U5 {A B:List (By × By)} (c:A.Perm B) (e:A.Pairwise λf g=>¬ g.1<f.1) (h:B.Pairwise λf g=>¬ g.1<f.1) (k:(A.map Prod.fst).Nodup):A=B:=
 List.Perm.eq_of_pairwise (le:=λf g=>¬ g.1<f.1) (λa b l i d j=>Lh k l (c.mem_iff.2 i) (List.le_antisymm (List.not_lt.1 d) (List.not_lt.1 j))) e h c
def Li (fs:List (Nat × Fd)):sK fs=((kS fs).map λg=>FA g.2).flatMap amI:=by
 unfold sK;rw [List.flatMap_map];rfl
def U6 {fs a:List (Nat × Fd)} (h:(fs.map λg=>g.2.nm).Nodup) (e:(fs.map λg=>FA g.2).Perm (a.map λg=>FA g.2)):sK fs=sK a:=by
 obtain ⟨b,s1⟩:=nE fs;obtain ⟨f,s2⟩:=nE a;have d:=b.map λg=>FA g.2;have c:=f.map λg=>FA g.2;rw [Li,Li];congr 1;refine U5 ((d.t e).t c.symm) ?_ ?_ ?_
 ·rw [jz];exact s1
 ·rw [jz];exact s2
 ·have:((kS fs).map λg=>g.2.nm).Nodup:=((b.map λg=>g.2.nm).nodup_iff).2 h;rw [fM];exact this
noncomputable def Pu (fs:List Fd):By:=sK (aT fs)
def E8 {β:Type} (f:Fd->β) (fs:List Fd):(aT fs).map (λg=>f g.2)=fs.map f:=by
 have:=eL (List.map f) (cW fs);rw [fM] at this;exact this
def afz {gs:List (Nat × Fd)} (a:(gs.map λg=>g.2.nm).Nodup):sK gs=Pu (gs.map Prod.snd):=by
 refine U6 a (List.Perm.of_eq ?_);rw [E8 FA,fM];rfl
variable {e k:Nat} {F:Nat->Prop} {w w' W w1 w2 w3 Z:zW} {a:Ab}
def eG.xW (h:eG w e F k a):kt a.fs:=by
 obtain ⟨S,D,σ,l,g,f,d,b,n,c,h2,m,i,j⟩:=h;rw [h2.fs];exact ⟨h2.gs.gf,Z0,h2.gs.xX⟩
def kt.nd {fs:List Fd} (h:kt fs):(fs.map λg=>g.nm).Nodup:=by
 exact h.gf.nn
def eG.list (h:eG W e F k a) (p:Env W) (i:Option zD) (d j:Nat):zC prog 70 #[zJ e,j7 11 i d j 0 [] 0 none 0 0] W (uY 0 (Pu a.fs) 0 0 [] W):=by
 refine (UF e i d j (Pu a.fs) W λo b=>?_).m ?_
 ·have g:=h.xW;obtain ⟨S,u,c,fs,n,l,v,q,s⟩:=(h.next b).ui;refine (ajo e c u fs o n (p.next b) q s ae λf t=>?_).m ?_
  ·have:=(g.xX f.2 (l▸iJ t)).2;omega
  ·rintro r w' ⟨rfl,hb⟩;have m:=g.nd;rw [<- l,fM] at m;rw [afz m,l];exact ⟨rfl,hb⟩
 ·exact MR
end
section
structure Rp where
 er:Int
 at_:Int
 tx:By
 nm:List By
 kd:Int
 nn:Int
def vE (a:Ab) (b:AR):Rp × Ab:=(⟨(b.code:Int),0,[],b.names,0,0⟩,PZ a b)
def zn (x:Nat × Ab):Rp × Ab:=(⟨(x.1:Int),0,[],[],0,0⟩,x.2)
noncomputable def bT (a:Ab):Ln->Rp × Ab
 | .err b er p=>(⟨er,p,[],[],0,0⟩,if rT b=true then ma a else a)
 | .set x p=>vE a (mK a.fs x p)
 | .del x=>vE a (mL a.fs x)
 | .ren x y=>vE a (kr a.fs x y)
 | .begin=>zn (oq a)
 | .kW=>zn (mh a)
 | .cancel=>zn (mg a)
 | .pS=>zn (mb a)
 | .pT=>zn (mf a)
 | .value x=>(⟨(pX a.fs x).1,0,[],[],(pX a.fs x).2.1,(pX a.fs x).2.2⟩,a)
 | .rule x=>(⟨(vU a.fs x).1,0,(vU a.fs x).2,[],0,0⟩,a)
 | .list=>(⟨0,0,Pu a.fs,[],0,0⟩,a)
 | .order=>(⟨0,0,[],a.fs.map λf=>f.nm,0,0⟩,a)
variable {e k:Nat} {F T:Nat->Prop} {w w' W w1 w2 w3 Z:zW} {a:Ab} {nm:List By} {bn:Option zD} {ln cn:Nat} {s:By}
def jI.more {b:Nat} (h:jI F T e k a nm w bn ln cn w') (j:k<=b):jI F T e b a nm w bn ln cn w':=by
 obtain ⟨d,g,l,c,f,i⟩:=h;exact ⟨d,g,l,c,f.more j,i⟩
def sf (F:Nat->Prop) (e k:Nat) (a:Ab) (l:Ln) (w:zW) (r:Ending) (w':zW):Prop:=
 ∃ bn ln cn,r=.returned (Ik (bT a l).1.er (bT a l).1.at_ (bT a l).1.tx bn ln cn (bT a l).1.kd (bT a l).1.nn)/\jI F (λ_=>False) e (k+1) (bT a l).2 (bT a l).1.nm w bn ln cn w'
def eG.aml (h:eG w e F k a) (hk:k+1<1000000000000) (J:Env Z) (T:jZ Z) (B:zB Z w) (hF:∀ q,F q->Z.heap.size<=q) (s:By) (l:Ln) (E:l.Ok) (hs:∀ r,ew s r->r=l.r) :
  zC prog 20 #[zJ e,zG s] w (sf F e k a l w):=by
 have D:=h.xW;have X:=J.next B;have V:=T.next J B;have H:zB w (w.alloc bM):=(aM _ _).alloc (aG _) bM;have e1:(w.alloc bM).heap.size=w.heap.size+1:=aq;have f:zC prog 46 #[zG s] (w.alloc bM) λr w1=>sL l.r (w.alloc bM) r w1/\Below (w.alloc bM).heap.size (w.alloc bM) w1:=by
  refine (Dt s (w.alloc bM) (X.next H) (V.next X H)).m ?_;rintro r w1 ⟨Y,o,h2,P⟩;rw [hs Y o] at h2;exact ⟨h2,P⟩
 have O:∀ {w1 W:zW},Below (w.alloc bM).heap.size (w.alloc bM) w1->zB w1 W->Env W:=λo h2=>((X.next H).next o).next h2;have A:∀ (K:AR) (j:bT a l=vE a K),(∀ fs n,K=.ok fs n->kt fs)->(∀ c n,K=.err c n->c≠0)->(∀ r w1,sL l.r (w.alloc bM) r w1->Below (w.alloc bM).heap.size (w.alloc bM) w1->x6 e F a K w r w1)->zC prog 20 #[zJ e,zG s] w (sf F e k a l w):=λK j o h2 P=>by
  refine (h.afb hk s K o h2 (f.m λr w1 C=>P r w1 C.1 C.2)).m ?_;rintro r w' ⟨bn,ln,cn,rfl,d⟩;unfold sf;rw [j];exact ⟨bn,ln,cn,rfl,d⟩
 have m:∀ (t:Int) (N:Nat) (x:Nat × Ab),l.r=.ok t [] none->bT a l=zn x->rT t=false->pk t N->(∀ W,eG W e F k a->zC prog N #[.pointer (some ⟨e,1,none⟩)] W (uk e k F x W))->zC prog 20 #[zJ e,zG s] w (sf F e k a l w):=λt N x U j L hf hX=>by
  refine (h.afd s t L N hf x hX (f.m ?_)).m ?_
  ·rintro r w1 ⟨o,h2⟩;rw [U] at o;obtain ⟨i,ln,cn,rfl,_⟩:=o;exact ⟨N9,i,ln,cn,rfl⟩
  ·rintro r w' ⟨rfl,d⟩;unfold sf;rw [j];exact ⟨none,0,0,rfl,d.more ae⟩
 have v:∀ (t:Int) (R:List By) (er:Int) (tx:By) (kd nn:Int) (nm:List By),l.r=.ok t R none->bT a l=(⟨er,0,tx,nm,kd,nn⟩,a)->(t=9\/t=10\/t=11\/t=12)->(∀ w1 i ln cn,w1.ownsRow (w.alloc bM).heap.size 9 1 (.slice i ln cn) (G R) (strs R)->Below (w.alloc bM).heap.size (w.alloc bM) w1->∀ W,zB w1 W->eG W e F k a->zC prog 70 #[zJ e,j7 t i ln cn 0 [] 0 none 0 0] W (uY er tx kd nn nm W))->zC prog 20 #[zJ e,zG s] w (sf F e k a l w):=λt R er tx kd nn nm U j L hT=>by
  refine (h.afe s t L er tx kd nn nm (f.m ?_)).m ?_
  ·rintro r w1 ⟨o,h2⟩;rw [U] at o;obtain ⟨i,ln,cn,rfl,b⟩:=o;exact ⟨N9,i,ln,cn,rfl,hT w1 i ln cn b h2⟩
  ·rintro r w' ⟨bn,ln,cn,rfl,d⟩;unfold sf;rw [j];exact ⟨bn,ln,cn,rfl,d.more ae⟩
 have one:∀ (x:By) (w1:zW) (i:Option zD) (ln cn:Nat),w1.ownsRow (w.alloc bM).heap.size 9 1 (.slice i ln cn) [x].length (strs [x])->∃ g,i=some ⟨g,0,none⟩/\ln=1/\g<w1.heap.size/\w1.cell? ⟨g,0,none⟩=some (zG x):=λx w1 i ln cn b=>by
  obtain ⟨g,cap,L,Q,S⟩:=b.form aq;simp at L;obtain ⟨rfl,rfl,rfl⟩:=L;have M:=b.cellAt 0 aq;exact ⟨g,rfl,rfl,S,by simpa [strs] using M⟩
 cases l with
 | err t er p=>
  refine (h.PW ae s t er p E (f.m ?_)).m ?_
  ·rintro r w1 ⟨o,h2⟩;exact ⟨N9,o⟩
  ·rintro r w' ⟨rfl,d⟩;exact ⟨none,0,0,rfl,d.more ae⟩
 | set x p=>
  obtain ⟨o,h2,P,h4⟩:=E;exact A _ rfl (λfs n j=>D.set h2 o j) (λc n j=>UC j) λr w1 C z=>KY C z h2 P h4
 | del x=>exact A _ rfl (λfs n j=>D.del j) (λc n j=>UD j) λr w1 C z=>KZ C z
 | ren x y=>
  obtain ⟨o,h2⟩:=E;exact A _ rfl (λfs n j=>D.ren h2 j) (λc n j=>UE j) λr w1 C z=>K0 J B hF C z o.1 (by have:=h2.2;omega)
 | begin=>exact m 4 _ _ rfl rfl rfl Ip λW hW=>hW.afc
 | kW=>exact m 5 _ _ rfl rfl rfl Em λW hW=>hW.aci ae
 | cancel=>exact m 6 _ _ rfl rfl rfl Eo λW hW=>hW.ach ae
 | pS=>exact m 7 _ _ rfl rfl rfl K1 λW hW=>hW.pS
 | pT=>exact m 8 _ _ rfl rfl rfl K2 λW hW=>hW.pT
 | value x=>
  refine v 9 [x] _ _ _ _ _ rfl rfl (Or.inl rfl) λw1 i ln cn b z W hW u=>?_;obtain ⟨g,rfl,rfl,Q,M⟩:=one x w1 i ln cn b;exact u.value ((nu (a:=⟨g,0,none⟩) (hW.block g Q)).t M) GL
 | rule x=>
  refine v 10 [x] _ _ _ _ _ rfl rfl (Or.inr (Or.inl rfl)) λw1 i ln cn b z W hW u=>?_;obtain ⟨g,rfl,rfl,Q,M⟩:=one x w1 i ln cn b;exact u.rule (O z hW) ((nu (a:=⟨g,0,none⟩) (hW.block g Q)).t M) GL
 | list=>exact v 11 [] _ _ _ _ _ rfl rfl (Or.inr (Or.inr (Or.inl rfl))) λw1 i ln cn b z W hW u=>u.list (O z hW) i ln cn
 | order=>exact v 12 [] _ _ _ _ _ rfl rfl (Or.inr (Or.inr (Or.inr rfl))) λw1 i ln cn b z W hW u=>u.order i ln cn
def Fe (a:Env Z) (b:jZ Z) (s:By):∃ l:Ln,ew s l.r/\l.Ok/\∀ r,ew s r->r=l.r:=by
 obtain ⟨_,_,_,⟨r,d,_⟩,_⟩:=Dt s Z a b [];obtain ⟨l,rfl,c⟩:=acO d;exact ⟨l,d,c,λr h=>h.uniq d⟩
end
section
structure En where
 e:Nat
 k:Nat
 a:Ab
structure jH (Z:zW) (T:Nat->Prop) (E:List En) (w:zW):Prop where
 low:zB Z w
 P5:∀ q,T q->q<w.heap.size
 y9:∃ F:Nat->Nat->Prop,(∀ i (h:i<G E),eG w E[i].e (F i) E[i].k E[i].a)/\(∀ i j q,F i q->F j q->i=j)/\∀ i q,F i q->Z.heap.size<=q/\¬ T q/\q<w.heap.size
structure Kt (T:Nat->Prop) (w w':zW):Prop where
 size:w.heap.size<=w'.heap.size
 block:∀ q,T q->w'.heap[q]?=w.heap[q]?
variable {Z w w' W w1 w2:zW} {T U:Nat->Prop} {E:List En} {e k i:Nat} {a:Ab} {s:By} {l:Ln}
def Kt.refl (T:Nat->Prop) (w:zW):Kt T w w:=⟨aG _,λ_ _=>rfl⟩
def Kt.t (h:Kt T w w1) (a:Kt T w1 w2):Kt T w w2:=⟨bf h.size a.size,λq b=>(a.block q b).t (h.block q b)⟩
def jH.empty (Z:zW):jH Z (λ_=>False) [] Z:=⟨aM _ _,λ_ h=>h.elim,λ_ _=>False,λi h=>oV,λ_ _ _ h=>h.elim,λ_ _ h=>h.elim⟩
def jH.keep {P:Nat->Prop} (h:jH Z T E w) (c:Ks P w w') (f:∀ q,P q->T q\/w.heap.size<=q) (k:∀ q,P q->Z.heap.size<=q):jH Z T E w':=by
 obtain ⟨e,g,F,j,l,b⟩:=h;refine ⟨e.t (c.low k e.size),λq a=>bG (g q a) c.size,F,λi n=>(j i n).keep c λq a m=>?_,l,λi q a=>⟨(b i q a).1,(b i q a).2.1,bG (b i q a).2.2 c.size⟩⟩;rcases f q m with d|d
 ·exact (b i q a).2.1 d
 ·have:=(b i q a).2.2;omega
def jH.next (h:jH Z T E w) (a:zB w w'):jH Z T E w':=h.keep (P:=λ_=>False) (Ks.of a) (λ_ h=>h.elim) λ_ h=>h.elim
def jH.less (h:jH Z T E w) (c:∀ q,U q->T q):jH Z U E w:=by
 obtain ⟨j,d,F,e,g,b⟩:=h;exact ⟨j,λq a=>d q (c q a),F,e,g,λi q a=>⟨(b i q a).1,λf=>(b i q a).2.1 (c q f),(b i q a).2.2⟩⟩
def jH.xW (h:jH Z T E w) (b:i<G E):kt (E[i].a).fs:=by
 obtain ⟨e,d,F,a,c,f⟩:=h;exact (a i b).xW
def afh {α:Type} (l:List α) (i:Nat) (x:α) (j:Nat) (h:j<(l.set i x).length):(l.set i x)[j]=if i=j then x else l[j]'jP:=tj ..
def jH.res {F:Nat->Nat->Prop} {nm:List By} {bn:Option zD} {ln cn:Nat} (h:jH Z T E w) (D:i<G E) (y:∀ i (h:i<G E),eG w E[i].e (F i) E[i].k E[i].a) (r:∀ i j q,F i q->F j q->i=j) (f:∀ i q,F i q->Z.heap.size<=q/\¬ T q/\q<w.heap.size) (A:jI (F i) (λ_=>False) E[i].e k a nm w bn ln cn w') :
  ln=G nm/\w'.ownsRow w.heap.size 9 1 (.slice bn ln cn) ln (strs nm)/\Kt T w w'/\jH Z (λq=>T q\/(Value.slice bn ln cn).ownBlock=some q) (E.set i ⟨E[i].e,k,a⟩) w':=by
 obtain ⟨x,p,u,B,v,o,z,C⟩:=A;have l:=p.size;refine ⟨x,u,⟨l,λq b=>p.block q (h.P5 q b) λt=>(f i q t).2.1 b⟩,h.low.t (p.low (λq b=>(f i q b).1) h.low.size),λq b=>?_,λj q=>if j=i then B q else F j q,λj hj=>?_,λj n q b c=>?_,λj q b=>?_⟩
 ·rcases b with b|b
  ·exact bG (h.P5 q b) l
  ·exact (u.lt q b).2
 ·have s:j<(G E):=oT;rw [afh];by_cases g:i=j
  ·subst g;simp only [jq];exact v
  ·rw [aA g];simp only [aA (nM g)];exact (y j s).keep p λq b t=>g (r i j q t b)
 ·by_cases e1:j=i
  ·by_cases m:n=i
   ·rw [e1,m]
   ·simp only [aB e1,aA m] at b c;rcases o q b with e|e
    ·exact absurd (r i n q e c) (nM m)
    ·have:=(f n q c).2.2;omega
  ·by_cases m:n=i
   ·simp only [aA e1,aB m] at b c;rcases o q c with e|e
    ·exact absurd (r i j q e b) (nM e1)
    ·have:=(f j q b).2.2;omega
   ·simp only [aA e1,aA m] at b c;exact r j n q b c
 ·by_cases e1:j=i
  ·simp only [aB e1] at b;refine ⟨?_,λd=>?_,v.lt q b⟩
   ·rcases o q b with e|e
    ·exact (f i q e).1
    ·exact bf h.low.size e
   ·rcases d with d|d
    ·rcases o q b with e|e
     ·exact (f i q e).2.1 d
     ·have:=h.P5 q d;omega
    ·exact (z q d).1 b
  ·simp only [aA e1] at b;refine ⟨(f j q b).1,λd=>?_,bG (f j q b).2.2 l⟩;rcases d with d|d
   ·exact (f j q b).2.1 d
   ·have:=(u.lt q d).1;have:=(f j q b).2.2;omega
def DoS (Z:zW) (T:Nat->Prop) (E:List En) (i:Nat) (a:i<G E) (l:Ln) (w:zW) (r:Ending) (w':zW):Prop:=
 ∃ bn ln cn,r=.returned (.agg #[zI (bT E[i].a l).1.er,zI (bT E[i].a l).1.at_,.string ⟨(bT E[i].a l).1.tx.toArray⟩,.slice bn ln cn,zI (bT E[i].a l).1.kd,zI (bT E[i].a l).1.nn])/\ln=(bT E[i].a l).1.nm.length/\w'.ownsRow w.heap.size 9 1 (.slice bn ln cn) ln (strs (bT E[i].a l).1.nm)/\Kt T w w'/\jH Z (λq=>T q\/(Value.slice bn ln cn).ownBlock=some q) (E.set i ⟨E[i].e,E[i].k+1,(bT E[i].a l).2⟩) w'
def jH.do (h:jH Z T E w) (n:Env Z) (j:jZ Z) (b:i<G E) (p:E[i].k+1<1000000000000) (d:abP s l) :
  zC prog 20 #[.pointer (some ⟨E[i].e,0,none⟩),zG s] w (DoS Z T E i b l w):=by
 obtain ⟨F,c,m,e⟩:=h.y9;refine ((c i b).aml p n j h.low (λq o=>(e i q o).1) s l d.1 d.2).m ?_;rintro r w' ⟨bn,ln,cn,rfl,a⟩;obtain ⟨f,g,t,k⟩:=h.res b c m e a;exact ⟨bn,ln,cn,rfl,f,g,t,k⟩
def jH.new (h:jH Z T E w) (M:Nat) (p:M<=6):zC prog 45 #[zI M] w λr w'=>∃ e,r=.returned (.tuple #[zJ e,zI 0])/\Kt T w w'/\jH Z T (E++[⟨e,0,⟨M,[],[],[],none⟩⟩]) w':=by
 refine (afg M p w).m ?_;rintro r w' ⟨e,rfl,k,l⟩;obtain ⟨F,n,o,i⟩:=h.y9;have f:=k.size;refine ⟨e,rfl,⟨f,λq b=>k.block q (h.P5 q b)⟩,h.low.t (k.m h.low.size),λq b=>bG (h.P5 q b) f,λj q=>if j<(G E) then F j q else if j=(G E) then (w.heap.size<=q/\q<w'.heap.size) else False,λj hj=>?_,λj g q b a=>?_,λj q b=>?_⟩
 ·rcases cC j (G E) with e1|e1
  ·rw [yj e1];simp only [aB e1];exact (n j e1).next k
  ·have d:j=(G E):=G0;subst d;simp only [iC,k8,jq];simpa using l
 ·by_cases e1:j<G E
  ·simp only [aB e1] at b;by_cases d:g<G E
   ·simp only [aB d] at a;exact o j g q b a
   ·simp only [aA d] at a;by_cases c:g=G E
    ·rw [aB c] at a;have:=(i j q b).2.2;omega
    ·rw [aA c] at a;exact a.elim
  ·simp only [aA e1] at b;by_cases c:j=G E
   ·rw [aB c] at b;by_cases d:g<G E
    ·simp only [aB d] at a;have:=(i g q a).2.2;omega
    ·simp only [aA d] at a;by_cases m:g=G E
     ·rw [c,m]
     ·rw [aA m] at a;exact a.elim
   ·rw [aA c] at b;exact b.elim
 ·by_cases e1:j<G E
  ·simp only [aB e1] at b;exact ⟨(i j q b).1,(i j q b).2.1,bG (i j q b).2.2 f⟩
  ·simp only [aA e1] at b;by_cases c:j=G E
   ·rw [aB c] at b;exact ⟨bf h.low.size b.1,λs=>by have:=h.P5 q s;omega,b.2⟩
   ·rw [aA c] at b;exact b.elim
end
section
variable {a b:Ab} {fs Z:List Fd} {x y:By} {p:Pt} {aJ:List By}
def NF (X:By->Prop) (fs:List Fd):Prop:=∀ q,q∈fs.map (λg=>(g.nm,g.p))->X q.1/\MF q.2
variable {X:By->Prop}
def NF.m {Y:By->Prop} (h:NF X fs) (a:∀ x,X x->Y x):NF Y fs:=λq b=>⟨a _ (h q b).1,(h q b).2⟩
end
section
attribute [local go_sem] idx_eq app_eq
variable {w w' W:zW}
abbrev gH (v:Vl):zV:=.agg #[zI v.1,zI v.2]
def zy (n:Int) (w:zW):zC prog 262 #[zI n] w λe w'=>e=.returned (gH (1,n))/\zB w w':=by
 go_in;go_wp2;refine aK (v:=.agg #[zI 1,zI n]) (by simp [results,results262,go_sem]) rfl ?_;exact tz
def mR (n:Int) (w:zW):zC prog 211 #[zI n] w λe w'=>e=.returned (gH (cL n))/\zB w w':=by
 go_in;go_wp2;refine aK (v:=.agg #[zI 3,zI n]) (by simp [results,results211,go_sem]) rfl ?_;exact tz
def vq (b:Bool) (w:zW):zC prog 254 #[.bool b] w λe w'=>e=.returned (gH (bD b))/\zB w w':=by
 cases b
 ·go_in;go_wp2;refine aK (v:=.agg #[zI 2,zI 0]) aav rfl ?_;exact tz
 ·go_in;go_wp2;refine aK (v:=.agg #[zI 2,zI 1]) aav rfl ?_;exact tz
def dK (a:Vl) (s:By) (b:Vl):Vl:=
 if s=[61]/\a.1=b.1 then bD (a.2 == b.2) else if ¬ (a.1=1/\b.1=1) then cL 2 else if s=[60] then bD (decide (a.2<b.2))
 else if s=[43] then (1,wrap64 (a.2+b.2)) else if s=[45] then (1,wrap64 (a.2 - b.2)) else if s=[42] then (1,wrap64 (a.2*b.2))
 else if b.2=0 then cL 1 else if s=[47] then (1,wrap64 (a.2.tdiv b.2)) else (1,a.2.tmod b.2)
inductive xx:Int->Int->By->Int->Int->Vl->Prop
 | eq1 x y:xx 1 x [61] 1 y (bD (x == y))
 | eq2 k x y:(k == 1)=false->(k == k)=true->xx k x [61] k y (bD (x == y))
 | eqm x l y:((1:Int) == l)=false->(l == 1)=false->xx 1 x [61] l y (cL 2)
 | eqn k x l y:(k == l)=false->(k == 1)=false->xx k x [61] l y (cL 2)
 | no k x s l y:(s=[60]\/s=[43]\/s=[45]\/s=[42]\/s=[47]\/s=[37])->(k == 1)=false->xx k x s l y (cL 2)
 | not x s l y:(s=[60]\/s=[43]\/s=[45]\/s=[42]\/s=[47]\/s=[37])->(l == 1)=false->xx 1 x s l y (cL 2)
 | lt x y:xx 1 x [60] 1 y (bD (decide (x<y)))
 | add x y:xx 1 x [43] 1 y (1,wrap64 (x+y))
 | sub x y:xx 1 x [45] 1 y (1,wrap64 (x - y))
 | mul x y:xx 1 x [42] 1 y (1,wrap64 (x*y))
 | zero x s:(s=[47]\/s=[37])->xx 1 x s 1 0 (cL 1)
 | quo x y:(y == 0)=false->¬ y=0->xx 1 x [47] 1 y (1,wrap64 (x.tdiv y))
 | rem x y:(y == 0)=false->¬ y=0->xx 1 x [37] 1 y (1,x.tmod y)
def boW (k x l y:Int) (s:By) (hs:s=[61]\/s=[60]\/s=[43]\/s=[45]\/s=[42]\/s=[47]\/s=[37]):xx k x s l y (dK (k,x) s (l,y)):=by
 have d:∀ {a b:Int},a≠b->(a == b)=false:=λh=>bo.2 h;rcases hs with rfl|hs
 ·by_cases h:k=1
  ·by_cases h2:k=l
   ·subst h2;subst h;rw [show dK (1,x) [61] (1,y)=bD (x == y) from tM];exact .eq1 x y
   ·rw [show dK (k,x) [61] (l,y)=cL 2 from agE];subst h;exact .eqm x l y (d h2) (d (nM h2))
  ·by_cases h2:k=l
   ·subst h2;rw [show dK (k,x) [61] (k,y)=bD (x == y) from tM];exact .eq2 k x y (d h) aq
   ·rw [show dK (k,x) [61] (l,y)=cL 2 from agE];exact .eqn k x l y (d h2) (d h)
 ·have f:s≠[61]:=by rcases hs with rfl|rfl|rfl|rfl|rfl|rfl<;>decide
  by_cases h:k=1
  ·by_cases h2:l=1
   ·subst h;subst h2;rcases hs with rfl|rfl|rfl|rfl|rfl|rfl
    ·rw [show dK (1,x) [60] (1,y)=bD (decide (x<y)) from tM];exact .lt x y
    ·rw [show dK (1,x) [43] (1,y)=(1,wrap64 (x+y)) from tM];exact .add x y
    ·rw [show dK (1,x) [45] (1,y)=(1,wrap64 (x - y)) from tM];exact .sub x y
    ·rw [show dK (1,x) [42] (1,y)=(1,wrap64 (x*y)) from tM];exact .mul x y
    ·by_cases c:y=0
     ·subst c;rw [show dK (1,x) [47] (1,0)=cL 1 from tM];exact .zero x _ (Or.inl rfl)
     ·rw [show dK (1,x) [47] (1,y)=(1,wrap64 (x.tdiv y)) by simp [dK,c]];exact .quo x y (d c) c
    ·by_cases c:y=0
     ·subst c;rw [show dK (1,x) [37] (1,0)=cL 1 from tM];exact .zero x _ (Or.inr rfl)
     ·rw [show dK (1,x) [37] (1,y)=(1,x.tmod y) by simp [dK,c]];exact .rem x y (d c) c
   ·rw [show dK (k,x) s (l,y)=cL 2 by unfold dK;rw [aA (λe=>f e.1),aB (λe=>h2 e.2)]];subst h;exact .not x s l y hs (d h2)
  ·rw [show dK (k,x) s (l,y)=cL 2 by unfold dK;rw [aA (λe=>f e.1),aB (λe=>h e.1)]];exact .no k x s l y hs (d h)
def Vt {k x l y:Int} {s:By} {f:Vl} (h:xx k x s l y f) (w:zW):zC prog 256 #[gH (k,x),zG s,gH (l,y)] w λe w'=>e=.returned (gH f)/\zB w w':=by
 obtain ⟨u,d⟩:∃ u,u=f:=⟨_,rfl⟩;rw [<- d];have m:=I d;clear d;rcases h with _|⟨_,_,_,b,c⟩|⟨_,_,_,b,c⟩|⟨_,_,_,_,b,c⟩|⟨_,_,_,_,_,rfl|rfl|rfl|rfl|rfl|rfl,b⟩|⟨_,_,_,_,rfl|rfl|rfl|rfl|rfl|rfl,b⟩|_|_|_|_|⟨_,_,rfl|rfl⟩|⟨_,_,b,c⟩|⟨_,_,b,c⟩
 all_goals
  go_in;go_wp2_with (first|(go_at_call 254;refine mo (vq _ _) ?_;rintro e w1 ⟨rfl,a⟩)|(go_at_call 211;refine mo (mR _ _) ?_;rintro e w1 ⟨rfl,a⟩)|(go_at_call 262;refine mo (zy _ _) ?_;rintro e w1 ⟨rfl,a⟩));obtain ⟨⟨g,i⟩,⟨f0,f1⟩,j⟩:=cq ((a.block (w.heap.size+1+1) aq).t (fZ w _ _ _ _));have n:=I a;clear a;rw [<- m.o] at *;apply I;go_wp2;refine aK (v:=.agg #[zI u.1,zI u.2]) (by simp [results,results256,go_sem,g,i]) rfl ?_;exact ⟨rfl,dJ ((og w _ _ _).t (n.o.m aN)) _ ae _ _⟩
def DM (a:Vl) (s:By) (b:Vl) (hs:s=[61]\/s=[60]\/s=[43]\/s=[45]\/s=[42]\/s=[47]\/s=[37]) (w:zW):zC prog 256 #[gH a,zG s,gH b] w λe w'=>e=.returned (gH (dK a s b))/\zB w w':=Vt (boW a.1 a.2 b.1 b.2 s hs) w
variable {F w1 w2:zW} {T Z:Nat->Prop} {E:List En} {a b:Ab}
def eJ {n j gk:Nat} (h:j<n) (a:n<=j+gk):n<=j+1+(n - (j+1))/\n - (j+1)<gk/\j+1<=n:=ae
def eu {n j:Nat} (h:j<n):(j:Int)<(n:Int):=ae
def eH {n j:Nat} (h:n<=j):¬ (j:Int)<(n:Int):=ae
variable {v:zV}
def gC (s x:By):Bool:=(aI s).1.any (λt=>t.1 == x)&&bm x
def Vp {s x:By} {j:Nat} (a:j<(aI s).1.length) (he:(aI s).1[j].1=x):gC s x=bm x:=by
 unfold gC;have:(aI s).1.any (λt=>t.1 == x)=true:=by
  rw [rD];exact ⟨_,bt a,rh⟩
 rw [this,Bool.true_and]
def Vq {s x:By} (h:∀ i (a:i<(aI s).1.length),(aI s).1[i].1≠x):gC s x=false:=by
 unfold gC;have:(aI s).1.any (λt=>t.1 == x)=false:=by
  rw [List.any_eq_false];intro t b;obtain ⟨i,a,rfl⟩:=e9 b;simpa using h i a
 rw [this,Bool.false_and]
def ot (s x:By) (y:(G s)<=1000) (hs:(aI s).2=none) (J:(G x)<=1000):zC prog 154 #[zG s,zG x] w λr w'=>r=.returned (.bool (gC s x))/\zB w w':=by
 have q:=I (λj z=>Vp (s:=s) (x:=x) (j:=j) z);have t:=I (Vq (s:=s) (x:=x));have d:(aI s).1.length<=(G s):=fT _ _ _;have m:=I (show aI s=((aI s).1,none) from Prod.ext rfl hs);generalize (aI s).1=ts at *;have F:((G ts):Int)<=1000:=a6.2 (bf d y);clear hs d;go_in;go_wp2_with (go_at_call 51;refine mo (iU s _ ts y m.o) ?_;rintro e w1 ⟨v,rfl,b,f⟩);apply I;obtain ⟨K,H,rfl,l⟩:=pQ b;have D:=I l;have u:=I f;clear l b f;go_wp2_with fail;go_loopg [7] (G ts) (λgk i wr=>∃ j:Nat,j<=G ts/\(G ts)<=j+gk/\i=zI j/\wr=w1/\Hid (∀ i (c:i<G ts),i<j->ts[i].1≠x))
 case atStart=>exact ⟨0,bE _,jD (cS _).symm,rfl,rfl,I λi _ c=>absurd c (pH i)⟩
 case round=>
  obtain ⟨j,z,n,rfl,rfl,A⟩:=hrel;rcases cC j (G ts) with a|a
  ·have E:=eu a;have eQ:=I (eJ a n);obtain ⟨g,rfl,c0,c1⟩:=D.o j a;by_cases he:ts[j].1=x
   ·have iL:=I (q.o j a he);rw [he] at c0;have p:(x == x)=true:=aq;clear he;go_wp2_with (go_at_call 76;refine (dD x _).m ?_;rintro e w2 ⟨rfl,k⟩;have o:=I k;clear k);go_ret;exact ⟨G1,u.o.t (o.o.m u.o.size)⟩
   ·have p:(ts[j].1 == x)=false:=G3;have HN:Hid (∀ i (c:i<G ts),i<j+1->ts[i].1≠x):=I λi c C=>by
     rcases cC i j with h|h
     ·exact A.o i c h
     ·obtain rfl:i=j:=ae;exact he
    clear he;go_wp2_with fail;go_roundg (G ts - (j+1))
    case measure=>exact eQ.o.2.1
    case rel=>exact Nc
  ·have B:=eH a;have iL:=I (t.o λi c=>A.o i c (bG c a));go_wp2_with fail;go_ret;exact ⟨G1,u.o⟩
structure RF where
 nm:By
 rl:By
 kd:Int
 n:Int
def dU (w:zW) (v:zV) (fs:List RF):Prop:=G fs<=1000/\∃ a c,v=.slice a (G fs) c/\(fs=[]\/∃ g o,a=some ⟨g,o,none⟩/\g<w.heap.size/\∀ i f,fs[i]?=some f ->
 w.cell? ⟨g,o+i*4,none⟩=some (zG f.nm)/\w.cell? ⟨g,o+i*4+1,none⟩=some (zG f.rl)/\w.cell? ⟨g,o+i*4+2,none⟩=some (zI f.kd)/\w.cell? ⟨g,o+i*4+3,none⟩=some (zI f.n))
def dU.next {fs:List RF} (h:dU w v fs) (d:zB w w'):dU w' v fs:=by
 obtain ⟨n,a,c,rfl,h⟩:=h;refine ⟨n,a,c,rfl,h.imp id ?_⟩;rintro ⟨g,o,rfl,b,j⟩;refine ⟨g,o,rfl,bG b d.size,λi f m=>?_⟩;obtain ⟨k,e,l,q⟩:=j i f m;exact ⟨(d.cell (p:=⟨g,_,none⟩) b).t k,(d.cell (p:=⟨g,_,none⟩) b).t e,(d.cell (p:=⟨g,_,none⟩) b).t l,(d.cell (p:=⟨g,_,none⟩) b).t q⟩
def bK (fs:List RF) (x:By):Int:=match fs.findIdx? (λf=>f.nm == x) with|some i=>(i:Int)|none=>-1
def E6 {fs:List RF} {x:By} {j:Nat} (a:j<G fs) (h:∀ i,i<j->∀ f,fs[i]?=some f->f.nm≠x) (he:fs[j].nm=x):bK fs x=(j:Int):=by
 unfold bK;have:fs.findIdx? (λf=>f.nm == x)=some j:=by
  rw [FZ];refine ⟨a,rh,λi b=>?_⟩;have:=h i b fs[i] (cU ae);simpa using this
 rw [this]
def Vo {fs:List RF} {x:By} (h:∀ i,i<G fs->∀ f,fs[i]?=some f->f.nm≠x):bK fs x = -1:=by
 unfold bK;have:fs.findIdx? (λf=>f.nm == x)=none:=by
  rw [Br];intro f b;obtain ⟨i,a,rfl⟩:=e9 b;have:=h i a fs[i] (cU a);simpa using this
 rw [this]
def find_ok (fs:List RF) (x:By) (h:dU w v fs):zC prog 122 #[v,zG x] w λr w'=>r=.returned (zI (bK fs x))/\w'=w:=by
 obtain ⟨p,a,c,rfl,n⟩:=h;have s:=I n;have u:((G fs):Int)<=1000:=a6.2 p;clear n p;go_in;go_wp2_with fail;go_loopg [5] (G fs) (λgk i wr=>∃ j:Nat,j<=G fs/\(G fs)<=j+gk/\i=zI j/\wr=w/\Hid (∀ i,i<j->∀ f,fs[i]?=some f->f.nm≠x))
 case atStart=>exact ⟨0,bE _,jD (cS _).symm,rfl,rfl,I λi d=>absurd d (pH i)⟩
 case round=>
  obtain ⟨j,A,e,rfl,rfl,l⟩:=hrel;rcases cC j (G fs) with ee|ee
  ·have t:=eu ee;have eQ:=I (eJ ee e);obtain ⟨f,m⟩:∃ f,fs[j]?=some f:=⟨_,cU ee⟩;have HF:=I m;rcases s.o with h0|⟨g,o,rfl,z,b⟩
   ·exact yD
   ·obtain ⟨c0,c1,c2,c3⟩:=b j f m;clear b m;by_cases hx:f.nm=x
    ·have iL:=I (E6 ee l.o (by have:=HF.o;rw [cU ee] at this;rw [dp this];exact hx));subst hx;have k:(f.nm == f.nm)=true:=aq;go_wp2_with fail;go_ret;exact ⟨G1,rfl⟩
    ·have k:(f.nm == x)=false:=tJ;have HN:Hid (∀ i,i<j+1->∀ f,fs[i]?=some f->f.nm≠x):=I λi d y hf'=>by
      rcases cC i j with h|h
      ·exact l.o i h y hf'
      ·exact Y5
     clear hx;go_wp2_with fail;go_roundg (G fs - (j+1))
     case measure=>exact eQ.o.2.1
     case rel=>exact Nc
  ·have q:=eH ee;have iL:=I (Vo (fs:=fs) (x:=x) λi d=>l.o i (bG d ee));go_wp2_with fail;go_ret;exact ⟨G1,rfl⟩
end
section
variable {w w' W:zW} {v:zV} {fs:List RF} {x:By} {V Z:List Bool} {b i j k n:Nat}
inductive rO (fs:List RF) (x:By):Nat->Prop
 | base (i:Nat) (f:RF):fs[i]?=some f->gC f.rl x=true->rO fs x i
 | step (i k:Nat) (f g:RF):fs[i]?=some f->fs[k]?=some g->rO fs x k->gC f.rl g.nm=true->rO fs x i
def zx (fs:List RF) (x:By) (V:List Bool) (i:Nat):Prop:=∃ f,fs[i]?=some f/\(gC f.rl x=true\/∃ (k:Nat) (g:RF),fs[k]?=some g/\V[k]?=some true/\gC f.rl g.nm=true)
def IY (fs:List RF) (x:By) (V:List Bool):Prop:=G V=G fs/\∀ i,V[i]?=some true->rO fs x i
def IY.mk (h:IY fs x V) (j:zx fs x V i):rO fs x i:=by
 obtain ⟨f,a,b|⟨k,g,c,d,e⟩⟩:=j
 ·exact .base i f a b
 ·exact .step i k f g a c (h.2 k d) e
def IY.set (h:IY fs x V) (b:zx fs x V i):IY fs x (V.set i true):=by
 refine ⟨G2,λk a=>?_⟩;by_cases e:i=k
 ·subst e;exact h.mk b
 ·rw [List.getElem?_set_ne e] at a;exact h.2 k a
def ac6:IY fs x (List.replicate (G fs) false):=⟨aq,λi a=>by
 rw [List.getElem?_replicate] at a;split at a
 ·cases a
 ·cases a⟩
def IY.all (h:IY fs x V) (c:∀ i,zx fs x V i->V[i]?=some true) (i:Nat):V[i]?=some true↔rO fs x i:=by
 refine ⟨h.2 i,λj=>?_⟩
 induction j with
 | base i f b a=>exact c i ⟨f,b,Or.inl a⟩
 | step i k f g b e _ a d=>exact c i ⟨f,b,Or.inr ⟨k,g,e,d,a⟩⟩
def ac7 (h:V[i]?=some false):(V.set i true).count false+1=V.count false:=by
 induction V generalizing i with
 | nil=>simp at h
 | cons b r a=>
  cases i with
  | zero=>
   simp at h;subst h;simp
  | succ i=>
   have:=a (i:=i) jP;simp only [List.set_cons_succ,List.count_cons];omega
def ra (w:zW) (b:Nat) (V:List Bool):Prop:=w.heap[b]?=some (.cells (V.map Value.bool).toArray 4 (0,0))
def ra.at (h:ra w b V) (c:i<G V):w.cell? ⟨b,i,none⟩=some (.bool V[i])/\w.frozen? ⟨b,i,none⟩=false/\b<w.heap.size:=by
 have a:w.heap[b]?=some (.cells (V.map Value.bool).toArray 4 (0,0)):=h;refine ⟨?_,by simp [World.frozen?,a],(cz.1 a).1⟩;rw [bq w b i _ _ _ a];simp [c]
def ra.put (h:ra w b V) (i:Nat) (u:Bool):ra (w.setCell ⟨b,i,none⟩ (.bool u)) b (V.set i u):=by
 have:=aj h i (.bool u);unfold ra;rw [this];simp [List.map_set]
end
section
attribute [local go_sem] idx_eq app_eq
variable {w w' W:zW} {v:zV} {fs:List RF} {x:By} {V Z:List Bool} {b i j k n:Nat}
def pP (fs:List RF):Prop:=∀ f∈fs,G f.rl<=1000/\(aI f.rl).2=none/\(G f.nm)<=1000
def ajv:(prog.info? 4).map (λi=>(i.zero,i.size,i.bytes))=some (some (.bool false),1,1):=aD
def afR (n:Nat) (g:n<=1000) (w:zW):(Instr.makeSlice 239 (zI n) (zI n)).run prog w=.ok (zS w.heap.size n n) (w.alloc (.cells (madeCells (Value.cells (.bool false)) n) 4)):=by
 have a:=ajv;cases b:prog.info? 4 with
 | none=>rw [b] at a;cases a
 | some i=>
  rw [b] at a;simp only [oH,rB,mI] at a;obtain ⟨d,e,f⟩:=a;have c:=run_make (P:=prog) w 239 4 i (.bool false) underlying239 b d .i64 .i64 (n:Int) (n:Int) ae ae (by rw [f];omega) ae;simp only [im,e,nL] at c;exact c
def ajw (n:Nat):madeCells (Value.cells (.bool false)) n=((List.replicate n false).map Value.bool).toArray:=by
 apply Array.ext
 ·simp [madeCells,Value.cells]
 ·intro i b a;simp [madeCells,Value.cells];rw [Nat.mod_one];rfl
structure vH (W:zW) (v:zV) (fs:List RF) (x:By) (b:Nat) (w:zW) (V:List Bool):Prop where
 QJ:dU w v fs
 row:ra w b V
 new:W.heap.size<=b
 low:zB W w
 so:IY fs x V
def ra.next (h:ra w b V) (c:zB w w'):ra w' b V:=by
 have a:w.heap[b]?=some (.cells (V.map Value.bool).toArray 4 (0,0)):=h;unfold ra;rw [c.block b (cz.1 a).1];exact a
def vH.next (h:vH W v fs x b w V) (a:zB w w'):vH W v fs x b w' V:=⟨h.QJ.next a,h.row.next a,h.new,h.low.t (a.m h.low.size),h.so⟩
def fA {a:Option zD} {c:Nat} (h:dU w (.slice a (G fs) c) fs) (b:j<G fs):∃ g o,a=some ⟨g,o,none⟩/\g<w.heap.size/\w.cell? ⟨g,o+j*4,none⟩=some (.string ⟨fs[j].nm.toArray⟩)/\w.cell? ⟨g,o+j*4+1,none⟩=some (.string ⟨fs[j].rl.toArray⟩):=by
 obtain ⟨_,k,i,e,h⟩:=h;cases e;rcases h with h|⟨g,o,rfl,d,f⟩
 ·rw [h] at b;exact absurd b (pH j)
 ·obtain ⟨c0,c1,_,_⟩:=f j fs[j] (cU b);exact ⟨g,o,rfl,d,c0,c1⟩
def Ew (fs:List RF) (x:By) (V:List Bool) (j k:Nat) (m:Bool):Prop:=∃ f,fs[j]?=some f/\(m=true->zx fs x V j)/\(m=false->gC f.rl x=false/\∀ a g,a<k->fs[a]?=some g->V[a]?=some true->gC f.rl g.nm=false)
def Ew.start (a:j<G fs):Ew fs x V j 0 (gC fs[j].rl x):=⟨fs[j],cU a,λh=>⟨fs[j],cU a,Or.inl h⟩,λh=>⟨h,λc _ b=>absurd b (pH c)⟩⟩
def Ew.fin {m:Bool} (h:Ew fs x V j k m) (q:j<G fs) (b:k=G fs\/m=true):m=true↔zx fs x V j:=by
 obtain ⟨f,n,d,l⟩:=h;refine ⟨d,λ⟨f',hf',a⟩=>?_⟩;rw [n] at hf';cases hf';cases m with
 | true=>rfl
 | false=>
  obtain ⟨o,i⟩:=l rfl;rcases b with rfl|b
  ·rcases a with a|⟨p,g,c,e,a⟩
   ·rw [o] at a;cases a
   ·rw [i p g (fI.1 c).1 c e] at a;cases a
  ·cases b
def Ew.next (h:Ew fs x V j k false) (t:j<G fs) (q:k<G fs) (o:k<G V):(V[k]=false->Ew fs x V j (k+1) false)/\(V[k]=true->Ew fs x V j (k+1) (gC fs[j].rl fs[k].nm)):=by
 obtain ⟨f,l,u,s⟩:=h;obtain ⟨r,p⟩:=s rfl;have e:fs[j]=f:=by
  rw [cU t] at l;exact dp l
 refine ⟨λb=>⟨f,l,λh=>absurd h ai,λ_=>⟨r,λd g n i a=>?_⟩⟩,λb=>⟨f,l,λh=>⟨f,l,Or.inr ⟨k,fs[k],cU q,by rw [cU o,b],by rw [<- e];exact h⟩⟩,λh=>⟨r,λd g n i a=>?_⟩⟩⟩
 ·rcases cC d k with c|m
  ·exact p d g c i a
  ·obtain rfl:d=k:=ae;rw [cU o,b] at a;cases a
 ·rcases cC d k with c|m
  ·exact p d g c i a
  ·obtain rfl:d=k:=ae;rw [cU q] at i;cases i;rw [<- e];exact h
def I1 (fs:List RF) (x:By) (V:List Bool) (j:Nat) (a:List Bool) (m:Bool):Prop:=(m=true->a.count false+1<=V.count false)/\(m=false->a=V/\∀ i,i<j->zx fs x V i->V[i]?=some true)
def I1.same {a:List Bool} {m:Bool} (h:I1 fs x V j a m) (g:zx fs x a j->a[j]?=some true):I1 fs x V (j+1) a m:=by
 refine ⟨h.1,λe=>?_⟩;obtain ⟨rfl,f⟩:=h.2 e;refine ⟨rfl,λi k c=>?_⟩;rcases cC i j with b|d
 ·exact f i b c
 ·obtain rfl:i=j:=ae;exact g c
def I1.set {a:List Bool} {m:Bool} (h:I1 fs x V j a m) (b:a[j]?=some false):I1 fs x V (j+1) (a.set j true) true:=by
 refine ⟨λ_=>?_,λe=>iM⟩;have c:=ac7 b;cases m with
 | true=>have:=h.1 rfl;omega
 | false=>have:=(h.2 rfl).1;subst this;omega
def I1.fin {a:List Bool} {m:Bool} {gk:Nat} (h:I1 fs x V (G fs) a m) (g:V.count false+1<=gk):a.count false+(if m=true then 1 else 0)<gk/\(m=false->∀ i,zx fs x a i->a[i]?=some true):=by
 cases m with
 | true=>exact ⟨by have:=h.1 rfl;simp;omega,λe=>iM⟩
 | false=>
  obtain ⟨rfl,c⟩:=h.2 rfl;refine ⟨aN,λ_ i b=>?_⟩;obtain ⟨f,d,_⟩:=id b;exact c i (fI.1 d).1 b
def vH.mark (h:vH W v fs x b w V) (r:zx fs x V j) (m:v.ownBlock≠some b):vH W v fs x b (w.setCell ⟨b,j,none⟩ (.bool true)) (V.set j true):=by
 refine ⟨?_,h.row.put j true,h.new,h.low.setCell (p:=⟨b,j,none⟩) h.new _,h.so.set r⟩;obtain ⟨n,a,c,rfl,d⟩:=h.QJ;refine ⟨n,a,c,rfl,d.imp id ?_⟩;rintro ⟨g,o,rfl,hg,s⟩;have k:g≠b:=λe=>m (by rw [e];rfl);refine ⟨g,o,rfl,tH,λi f y=>?_⟩;obtain ⟨t,d,l,z⟩:=s i f y;have e:∀ q,(w.setCell ⟨b,j,none⟩ (.bool true)).cell? ⟨g,q,none⟩=w.cell? ⟨g,q,none⟩:=λq=>by
  have u:(w.setCell ⟨b,j,none⟩ (.bool true)).heap[g]?=w.heap[g]?:=by simp only [World.setCell];rw [Array.getElem?_modify,aA (λe=>k e.symm)]
  simp only [World.cell?,u]
 exact ⟨(e _).t t,(e _).t d,(e _).t l,(e _).t z⟩
def vH.start (h:dU w v fs) (x:By):vH w v fs x w.heap.size (w.alloc (.cells (madeCells #[.bool false] (G fs)) 4)) (List.replicate (G fs) false):=by
 have a:zB w (w.alloc (.cells (madeCells #[.bool false] (G fs)) 4)):=(aM _ _).alloc (aG _) _;refine ⟨h.next a,?_,aG _,a,ac6⟩;unfold ra;rw [show madeCells #[.bool false] (G fs)=madeCells (Value.cells (.bool false)) (G fs) from rfl,ajw];simp only [World.alloc,yi]
def Su (w:zW) (fs:List RF) (x:By) (r:Ending) (w':zW):Prop:=∃ b V,r=.returned (zS b (G fs) (G fs))/\w.heap.size<=b/\ra w' b V/\(G V)=G fs/\(∀ i,V[i]?=some true↔rO fs x i)/\zB w w'
def vH.fin (h:vH W v fs x b w V) (a:∀ i,zx fs x V i->V[i]?=some true):Su W fs x (.returned (zS b (G fs) (G fs))) w:=⟨b,V,rfl,h.new,h.row,h.so.1,h.so.all a,h.low⟩
def Kq (fs:List RF) (x:By) (h:dU w v fs) (B:pP fs) (Y:(G x)<=1000):zC prog 152 #[v,zG x] w (Su w fs x):=by
 have R:=I h;have D:=I B;obtain ⟨F,a,c,rfl,hc⟩:=h;have wR:((G fs):Int)<=1000:=a6.2 F;have K:=λW=>afR (G fs) F W;have HX:=I Y;clear hc F B Y;go_in;go_wp2_with fail;have Q:=I (vH.start R.o x);clear K;go_loopg [6] (G fs+1) (λgk m wr=>∃ (V:List Bool) (mo:Bool),m=.bool mo/\Hid (vH w (.slice a (G fs) c) fs x w.heap.size wr V)/\Hid (V.count false+(if mo then 1 else 0)<=gk)/\Hid (mo=false->∀ i,zx fs x V i->V[i]?=some true))
 case atStart=>exact ⟨_,true,rfl,Q,I aq,I λh=>absurd h ai⟩
 case round=>
  obtain ⟨V,mo,rfl,X,HM,HF⟩:=hrel;cases mo with
  | false=>
   go_wp2_with fail;go_ret;exact X.o.fin (HF.o (by trivial))
  | true=>
   go_wp2_with fail;go_loopg [6,7] (G fs) (λgj m i wj=>∃ (j:Nat) (bj:List Bool) (mj:Bool),j<=G fs/\(G fs)<=j+gj/\i=zI j/\m=.bool mj/\Hid (vH w (.slice a (G fs) c) fs x w.heap.size wj bj)/\Hid (I1 fs x V j bj mj))
   case atStart=>exact ⟨0,V,false,bE _,jD (cS _).symm,rfl,rfl,X,I ⟨λh=>absurd h ai,λ_=>⟨rfl,λi hi=>absurd hi (pH i)⟩⟩⟩
   case round=>
    obtain ⟨j,bj,mj,hj,H,rfl,rfl,p,HD⟩:=hrel;rcases cC j (G fs) with b|b
    ·have hlt:=eu b;have eQ:=I (eJ b H);obtain ⟨g,o,rfl,hg,c0,c1⟩:=fA p.o.QJ b;have HV:Hid ((Value.slice (some ⟨g,o,none⟩) (G fs) c).ownBlock≠some w.heap.size):=I (by
      obtain ⟨S,U,f,L,_⟩:=fA R.o b;cases f;intro f;cases f;exact iC _ L)
     have n:=I (D.o _ (bt b));go_wp2_with (go_at_call 154;refine mo (ot _ x n.o.1 n.o.2.1 HX.o) ?_;rintro e w2 ⟨rfl,z⟩;have N:=I (p.o.next z);clear z);apply I;go_wp2_with fail;have HJL:Hid (j<G bj):=I (by rw [p.o.so.1];exact b);go_loopg [8,9] (G fs) (λgi m i wk=>∃ (k:Nat) (mk:Bool),k<=G fs/\(G fs)<=k+gi/\i=zI k/\m=.bool mk/\Hid (vH w (.slice (some ⟨g,o,none⟩) (G fs) c) fs x w.heap.size wk bj)/\Hid (Ew fs x bj j k mk))
     case atStart=>exact ⟨0,_,bE _,jD (cS _).symm,rfl,rfl,N,I (Ew.start b)⟩
     case round=>
      obtain ⟨k,mk,hk,J,rfl,rfl,D8,Z⟩:=hrel;have s:Hid (k=G fs\/mk=true->(mk=true↔zx fs x bj j)):=I λh=>Z.o.fin b h;obtain ⟨r0,r1,r2⟩:=D8.o.row.at (i:=j) HJL.o;rcases cC k (G fs) with AK|AK
      ·have T:=eu AK;have d:=I (eJ AK J);cases mk with
       | true=>
        have SS:=I (s.o (Or.inr rfl));exact WA
       | false=>
        obtain ⟨S,U,f,hg2,d0,d1⟩:=fA D8.o.QJ AK;cases f;obtain ⟨_,_,f,hg3,d2,d3⟩:=fA D8.o.QJ b;cases f;obtain ⟨M,q1,q2⟩:=D8.o.row.at (i:=k) JH;have y:=I (D.o _ (bt AK));have E:Hid (∀ q,zB wr q->zC prog 154 #[.string ⟨fs[j].rl.toArray⟩,.string ⟨fs[k].nm.toArray⟩] q λr w'=>r=.returned (.bool (gC fs[j].rl fs[k].nm))/\vH w (.slice (some ⟨g,o,none⟩) (G fs) c) fs x w.heap.size w' bj):=I λq u=>by
         refine (ot _ _ n.o.1 n.o.2.1 y.o.2.2).m ?_;rintro e w4 ⟨rfl,l⟩;exact ⟨rfl,(D8.o.next u).next l⟩
        have A:Hid (∀ q,vH w (.slice (some ⟨g,o,none⟩) (G fs) c) fs x w.heap.size q bj->q.cell? ⟨w.heap.size,k,none⟩=some (.bool (bj[k]'JH))/\q.cell? ⟨g,o+k*4,none⟩=some (.string ⟨fs[k].nm.toArray⟩)/\q.cell? ⟨g,o+j*4+1,none⟩=some (.string ⟨fs[j].rl.toArray⟩)):=I λq u=>by
         obtain ⟨S,U,f,_,x0,x1⟩:=fA u.QJ AK;cases f;obtain ⟨_,_,f,_,x2,x3⟩:=fA u.QJ b;cases f;exact ⟨(u.row.at (i:=k) JH).1,x0,x3⟩
        have t:=I (Z.o.next b AK JH);generalize bj[k]'JH=bk at t M A;have hlk:(k:Int)<((G fs):Int):=iD.2 AK;go_wp2_with fail;cases bk with
        | false=>
         go_quiet (fail)
         go_wp2_with fail;go_roundg (G fs - (k+1))
         case measure=>exact d.o.2.1
         case rel=>exact ⟨k+1,false,d.o.2.2,d.o.1,aq,rfl,I (D8.o.next (lG (aM _ _) _)),I (t.o.1 (by trivial))⟩
        | true=>
         go_region_held3 (λw'=>w'.cell? ⟨w.heap.size,k,none⟩=some (.bool true)/\w'.cell? ⟨g,o+k*4,none⟩=some (.string ⟨fs[k].nm.toArray⟩)/\w'.cell? ⟨g,o+j*4+1,none⟩=some (.string ⟨fs[j].rl.toArray⟩)) (first|(with_reducible exact ⟨M,d0,d3⟩)|go_keep) (first|(go_at_call 154;(with_reducible refine (E.o _ (aM _ _).drew).m ?_);rintro e w4 ⟨rfl,l⟩;obtain ⟨M,d0,d3⟩:=A.o _ l;have P:=I l;clear l))
         go_wp2_with fail;go_roundg (G fs - (k+1))
         case measure=>exact d.o.2.1
         case rel=>exact ⟨k+1,_,d.o.2.2,d.o.1,aq,rfl,P,I (t.o.2 (by trivial))⟩
      ·have O:=eH AK;obtain rfl:k=(G fs):=lT hk AK;have SS:=I (s.o (Or.inl rfl));cases mk with
       | true=>
        exact WA
       | false=>
        have HTR:Hid (zx fs x bj j->bj[j]?=some true):=I λh=>absurd (SS.o.2 h) ai;go_wp2_with fail;go_roundg (G fs - (j+1))
        case measure=>exact eQ.o.2.1
        case rel=>exact ⟨j+1,bj,mj,eQ.o.2.2,eQ.o.1,aq,rfl,D8,I (HD.o.same HTR.o)⟩
    ·have O:=eH b;obtain rfl:j=(G fs):=lT hj b;have C:=I (HD.o.fin (by simpa using HM.o));go_wp2_with fail;go_roundg (bj.count false+(if mj=true then 1 else 0))
     case measure=>exact C.o.1
     case rel=>exact ⟨bj,mj,rfl,p,I (aG _),I C.o.2⟩
end
section
variable {ts:List (By × Nat)} {κ:By->Vl} {S:By->Bool}
def cH (t:By):Bool:=t == [44]||t == [41]
def dG (o:Bool) (t:By):Bool:=t == [44]||t == [41]||(!o&&t == [111,114])
def oN (t:By) (o:Nat):Nat:=if t=[40] then o+1 else if t=[41] then o - 1 else o
def qu (S:By->Bool):List (By × Nat)->Nat->Nat
 | [],_=>0
 | t::r,o=>if o=0/\S t.1=true then 0 else qu S r (oN t.1 o)+1
def jy (S:By->Bool) (ts:List (By × Nat)) (i:Nat):Nat:=i+qu S (ts.drop i) 0
def afT (l:List (By × Nat)) (o:Nat):qu S l o<=(G l):=by
 induction l generalizing o with
 | nil=>exact aG _
 | cons t r a=>
  unfold qu;split
  ·exact bE _
  ·exact Nat.succ_le_succ (a _)
def Sv {i:Nat} (h:i<=G ts):jy S ts i<=(G ts):=by
 have:=afT (S:=S) (ts.drop i) 0;rw [mG] at this;unfold jy;omega
inductive Bl (ts:List (By × Nat)) (S:By->Bool):Nat->Nat->Nat->Nat->Prop
 | here (o i:Nat):Bl ts S o i o i
 | step (o i o' j:Nat):i<G ts->¬ (o=0/\S (aw ts i)=true)->Bl ts S (oN (aw ts i) o) (i+1) o' j->Bl ts S o i o' j
def Bl.t {o i b j a k:Nat} (h:Bl ts S o i b j) (g:Bl ts S b j a k):Bl ts S o i a k:=by
 induction h with
 | here=>exact g
 | step o i f j e d _ c=>exact .step o i _ k e d (c g)
def Bl.less {S':By->Bool} {o i c j:Nat} (h:Bl ts S o i c j) (hs:∀ t,S' t=true->S t=true):Bl ts S' o i c j:=by
 induction h with
 | here=>exact .here _ _
 | step o i g j f e _ d=>exact .step o i _ j f (λ⟨a,b⟩=>e ⟨a,hs _ b⟩) d
def Bl.stuck {i a j:Nat} (h:Bl ts S 0 i a j) (hs:(G ts)<=i\/S (aw ts i)=true):j=i:=by
 cases h with
 | here=>rfl
 | step _ _ _ _ c b _=>
  rcases hs with hs|hs
  ·omega
  ·exact absurd ⟨rfl,hs⟩ b
def vr {i:Nat} (h:i<G ts):∃ n,ts.drop i=(aw ts i,n)::ts.drop (i+1):=by
 refine ⟨(ts[i]).2,?_⟩;rw [jL h,eY ts i h]
def Bl.ov {o i j:Nat} (h:Bl ts S o i 0 j) (b:(G ts)<=j\/S (aw ts j)=true):i+qu S (ts.drop i) o=j:=by
 generalize c:(0:Nat)=d at h
 induction h with
 | here o i=>
  subst c;rcases cC i (G ts) with a|a
  ·obtain ⟨n,e⟩:=vr a;rw [e,qu,aB ⟨rfl,b.resolve_left ae⟩];rfl
  ·rw [List.drop_eq_nil_of_le a];rfl
 | step o i d j a g _ f=>
  obtain ⟨n,e⟩:=vr a;rw [e,qu,aA g];have:=f b c;show i+(qu S (ts.drop (i+1)) (oN (aw ts i) o)+1)=j;omega
def Bl.jy {i j:Nat} (h:Bl ts S 0 i 0 j) (a:(G ts)<=j\/S (aw ts j)=true):jy S ts i=j:=h.ov a
def bP {i:Nat} {t:By} (h:aw ts i=t) (a:t≠[]):i<(G ts):=by
 rcases cC i (G ts) with b|b
 ·exact b
 ·exact absurd ((kV ts i b).symm.t h).symm a
def l9 {i n:Nat} (h:b5 (aw ts i) (dc n)=true):i<(G ts):=by
 rcases cC i (G ts) with a|a
 ·exact a
 ·rw [kV ts i a] at h;exfalso;revert h;unfold dc;split<;>simp [b5]
def dI {t:By} {n:Nat} (h:b5 t (dc n)=true):(n=1/\t=[111,114])\/(n=2/\t=[97,110,100])\/(n=3/\(t=[61]\/t=[60]))\/(n=4/\(t=[43]\/t=[45]))\/(n=5/\(t=[42]\/t=[47]\/t=[37])):=by
 revert h;unfold dc;split<;>simp [b5]
def SC (S:By->Bool) (n:Nat):Prop:=∀ t,S t=true->t=[44]\/t=[41]\/(t=[111,114]/\2<=n)
def SC.up {n m:Nat} (h:SC S n) (d:n<=m):SC S m:=λt c=>(h t c).imp id (Or.imp id λ⟨a,b⟩=>⟨a,ae⟩)
def I3 {t:By} {k n:Nat} (h:ij t k) (d:k=1\/k=2\/k=7\/k=8) (hs:SC S n):S t≠true/\t≠[40]/\t≠[41]:=by
 have a:t≠[44]/\t≠[41]/\t≠[111,114]/\t≠[40]:=by
  revert d;refine uF (λt k=>(k=1\/k=2\/k=7\/k=8)->t≠[44]/\t≠[41]/\t≠[111,114]/\t≠[40]) t k h (λt b _=>?_) (λt _ c _=>?_) ai ai
  ·exact ⟨gG t _ b ai,gG t _ b ai,gG t _ b ai,gG t _ b ai⟩
  ·exact ⟨fD t _ c ai,fD t _ c ai,fD t _ c ai,fD t _ c ai⟩
 refine ⟨λh=>?_,a.2.2.2,a.2.1⟩;rcases hs t h with h|h|⟨h,_⟩
 ·exact a.1 h
 ·exact a.2.1 h
 ·exact a.2.2.1 h
def vu {t:By} {n:Nat} (h:b5 t (dc n)=true) (hs:SC S n):S t≠true/\t≠[40]/\t≠[41]:=by
 have a:=dI h;refine ⟨λh=>?_,?_,?_⟩
 ·rcases hs t h with rfl|rfl|⟨rfl,b⟩
  ·revert a;simp
  ·revert a;simp
  ·revert a;simp;omega
 ·rintro rfl;revert a;simp
 ·rintro rfl;revert a;simp
def Bl.one {o i:Nat} (e:i<G ts) (hs:o=0->S (aw ts i)≠true) (d:aw ts i≠[40]) (c:aw ts i≠[41]):Bl ts S o i o (i+1):=by
 refine .step o i o (i+1) e (λ⟨a,b⟩=>hs a b) ?_;rw [oN,aA d,aA c];exact .here _ _
def Bl.opn {o i:Nat} (c:aw ts i=[40]) (hs:o=0->S [40]≠true):Bl ts S o i (o+1) (i+1):=by
 refine .step o i (o+1) (i+1) (bP c aq) (λ⟨a,b⟩=>hs a (by rw [<- c];exact b)) ?_;rw [oN,aB c];exact .here _ _
def Bl.cls {o i:Nat} (ht:aw ts i=[41]):Bl ts S (o+1) i o (i+1):=by
 refine .step (o+1) i o (i+1) (bP ht aq) (λ⟨a,_⟩=>ae) ?_;rw [oN,aA MS,aB ht];exact .here _ _
def bh.bl {n i j:Nat} {p:Pt} (h:bh ts n i j p):∀ (S:By->Bool) (o:Nat),(o=0->SC S n)->Bl ts S o i o j:=by
 induction h with
 | atom i k z m s=>
  intro S o hs;have g:SC (λ_=>false) 1:=λt ht=>by cases ht
  exact Bl.one z (λho=>(I3 m s (hs ho)).1) (I3 m s g).2.1 (I3 m s g).2.2
 | jV i j a ht _ ih=>
  exact Xh
 | neg i j a ht _ ih=>
  exact Xh
 | br i j a ht _ u ih=>
  intro S o hs;refine (Bl.opn ht (λho hS=>?_)).t ((ih S (o+1) (λh=>ae)).t (Bl.cls u));rcases hs ho _ hS with h|h|⟨h,_⟩<;>cases h
 | ifs i A C B a b c l q _ h2 _ v _ y e f r=>
  intro S o hs;refine (Bl.one (bP l aq) (λho hS=>?_) (by rw [l];simp) (by rw [l];simp)).t ?_
  ·rw [l] at hS;rcases hs ho _ hS with h|h|⟨h,_⟩<;>cases h
  refine (Bl.opn q (λho hS=>?_)).t ?_
  ·rcases hs ho _ hS with h|h|⟨h,_⟩<;>cases h
  refine (e S (o+1) (λh=>ae)).t ?_;refine (Bl.one (o:=o+1) (bP h2 aq) (λho=>ae) OB OB).t ?_;refine (f S (o+1) (λh=>ae)).t ?_;refine (Bl.one (o:=o+1) (bP v aq) (λho=>ae) (by rw [v];simp) (by rw [v];simp)).t ?_;exact (r S (o+1) (λh=>ae)).t (Bl.cls y)
 | up n i j a q x _ ih=>exact λS o hs=>ih S o λho=>(hs ho).up ae
 | more n i j D k a b q x _ d _ _ e f=>
  intro S o hs;have g:SC (λ_=>false) n:=λt ht=>by cases ht
  refine (e S o λho=>?_).t ?_
  ·by_cases w:n=3
   ·rw [aB w];exact (hs ho).up ae
   ·rw [aA w];exact hs ho
  refine (Bl.one (l9 d) (λho=>(vu d (hs ho)).1) (vu d g).2.1 (vu d g).2.2).t ?_;exact f S o λho=>(hs ho).up ae
def uG (n:Nat):SC cH n:=λt a=>by
 simp only [cH,rE,beq_iff_eq] at a;exact a.imp id Or.inl
def LH (o:Bool) (n:Nat) (h:o=false->2<=n):SC (dG o) n:=λt a=>by
 simp only [dG,rE,beq_iff_eq,qA] at a;rcases a with (h1|h1)|⟨h1,b⟩
 ·exact Or.inl h1
 ·exact Or.inr (Or.inl h1)
 ·exact Or.inr (Or.inr ⟨b,h vP⟩)
def su (o:Bool) (t:By) (h:cH t=true):dG o t=true:=by
 unfold cH at h;unfold dG;rw [h];rfl
inductive Fn where
 | rule|pA (o:Bool)|test|sum|product|atom
 | lp (n:Nat) (v:Vl) (no:Bool)
 | lg (o m:Bool) (v:Vl) (no:Bool)
def iw (o:Bool):By:=if o then [111,114] else [97,110,100]
def dY (v:Vl) (no:Bool):Bool:=no||v.1 == 3
def Vu (n:Nat):Fn:=if n=4 then .product else .atom
def sdF (o:Bool):Fn:=if o then .pA false else .test
inductive Ev (ts:List (By × Nat)) (κ:By->Vl):Fn->Nat->Vl->Nat->Bool->Prop
 | num (i:Nat):headD (aw ts i)=true->Ev ts κ .atom i (1,(fw (aw ts i):Int)) (i+1) false
 | tru (i:Nat):aw ts i=[116,114,117,101]->Ev ts κ .atom i (bD true) (i+1) false
 | fls (i:Nat):aw ts i=[102,97,108,115,101]->Ev ts κ .atom i (bD false) (i+1) false
 | name (i:Nat):headD (aw ts i)=false->bm (aw ts i)=true->Ev ts κ .atom i (κ (aw ts i)) (i+1) (decide ((κ (aw ts i)).1=0))
 | neg (i j:Nat) (v:Vl) (no:Bool):aw ts i=[45]->Ev ts κ .atom (i+1) v j no->Ev ts κ .atom i (if no=true then v else iW (aP 1 v)) j no
 | br (i j:Nat) (v:Vl) (no:Bool):aw ts i=[40]->Ev ts κ .rule (i+1) v j no->aw ts j=[41]->Ev ts κ .atom i v (j+1) no
 | if1 (i j1 j2 j3:Nat) (u:Vl) (no:Bool):aw ts i=[105,102]->aw ts (i+1)=[40]->Ev ts κ .rule (i+1+1) (2,1) j1 false->aw ts j1=[44]->Ev ts κ .rule (j1+1) u j2 no->aw ts j2=[44]->jy cH ts (j2+1)=j3->aw ts j3=[41]->Ev ts κ .atom i u (j3+1) no
 | if0 (i j1 j2 j3:Nat) (v u:Vl) (no:Bool):aw ts i=[105,102]->aw ts (i+1)=[40]->Ev ts κ .rule (i+1+1) v j1 false->aw ts j1=[44]->v.1=2->v.2≠1->jy cH ts (j1+1)=j2->aw ts j2=[44]->Ev ts κ .rule (j2+1) u j3 no->aw ts j3=[41]->Ev ts κ .atom i u (j3+1) no
 | ifn (i j1 j2 j3:Nat) (v:Vl) (no:Bool):aw ts i=[105,102]->aw ts (i+1)=[40]->Ev ts κ .rule (i+1+1) v j1 no->aw ts j1=[44]->(no=true\/v.1≠2)->jy cH ts (j1+1)=j2->aw ts j2=[44]->jy cH ts (j2+1)=j3->aw ts j3=[41]->Ev ts κ .atom i (if v.1=1 then cL 2 else v) (j3+1) no
 | product (i j k:Nat) (v v':Vl) (no lf:Bool):Ev ts κ .atom i v j no->Ev ts κ (.lp 5 v no) j v' k lf->Ev ts κ .product i v' k lf
 | sum (i j k:Nat) (v v':Vl) (no lf:Bool):Ev ts κ .product i v j no->Ev ts κ (.lp 4 v no) j v' k lf->Ev ts κ .sum i v' k lf
 | lpE (n i:Nat) (v:Vl) (no:Bool):b5 (aw ts i) (dc n)=false\/dY v no=true->Ev ts κ (.lp n v no) i v i no
 | lpB (n i j:Nat) (v u:Vl) (no:Bool):b5 (aw ts i) (dc n)=true->dY v false=false->Ev ts κ (Vu n) (i+1) u j no->dY u no=true->Ev ts κ (.lp n v false) i u j no
 | lpG (n i j k:Nat) (v u v':Vl) (lf:Bool):b5 (aw ts i) (dc n)=true->dY v false=false->Ev ts κ (Vu n) (i+1) u j false->dY u false=false->Ev ts κ (.lp n (dK v (aw ts i) u) false) j v' k lf->Ev ts κ (.lp n v false) i v' k lf
 | adb (i j:Nat) (v:Vl) (no:Bool):aw ts i=[110,111,116]->Ev ts κ .test (i+1) v j no->Ev ts κ .test i (if no=true then v else nH (aP 2 v)) j no
 | Sw (i j:Nat) (v:Vl) (no:Bool):aw ts i≠[110,111,116]->Ev ts κ .sum i v j no->b5 (aw ts j) (dc 3)=false\/dY v no=true->Ev ts κ .test i v j no
 | ade (i j k:Nat) (v u:Vl) (no:Bool):aw ts i≠[110,111,116]->Ev ts κ .sum i v j false->b5 (aw ts j) (dc 3)=true->dY v false=false->Ev ts κ .sum (j+1) u k no->Ev ts κ .test i (if dY u no=true then u else dK v (aw ts j) u) k no
 | pA (o:Bool) (i j k:Nat) (v v':Vl) (no lf:Bool):Ev ts κ (sdF o) i v j no->Ev ts κ (.lg o false v no) j v' k lf->Ev ts κ (.pA o) i v' k lf
 | lgE (o m:Bool) (i:Nat) (v:Vl) (no:Bool):aw ts i≠iw o->Ev ts κ (.lg o m v no) i (if m=true/\dY v no=false/\v.1≠2 then cL 2 else v) i no
 | lgW (o m:Bool) (i:Nat) (v:Vl) (no:Bool):aw ts i=iw o->dY v no=false->v.1≠2->Ev ts κ (.lg o m v no) i (cL 2) i no
 | lgS (o m:Bool) (i:Nat) (v:Vl) (no:Bool):aw ts i=iw o->(dY v no=true\/(v.1=2/\(v.2=1↔o=true)))->Ev ts κ (.lg o m v no) i v (jy (dG o) ts i) no
 | lgG (o m:Bool) (i j k:Nat) (v u v':Vl) (no lf:Bool):aw ts i=iw o->v.1=2->¬ (v.2=1↔o=true)->Ev ts κ (sdF o) (i+1) u j no->Ev ts κ (.lg o true u no) j v' k lf->Ev ts κ (.lg o m v false) i v' k lf
 | rule (i j:Nat) (v:Vl) (no:Bool):Ev ts κ (.pA true) i v j no->Ev ts κ .rule i v (jy cH ts j) no
def vw (i:Nat):i<=jy S ts i:=Nat.le_add_right _ _
def Ev.le {f:Fn} {i k:Nat} {v:Vl} {no:Bool} (h:Ev ts κ f i v k no):i<=k/\(i<=G ts->k<=G ts):=by
 induction h with
 | num i h=>exact ⟨ae,λ_=>bP rfl aaJ⟩
 | tru i h=>exact ⟨ae,λ_=>bP h aq⟩
 | fls i h=>exact ⟨ae,λ_=>bP h aq⟩
 | name i _ h=>exact ⟨ae,λ_=>bP rfl aaJ⟩
 | neg i j v no h _ c=>
  have:=bP h aq;exact ⟨ae,λ_=>c.2 this⟩
 | br i j v no h _ p c=>
  have:=bP p aq;exact ⟨ae,λ_=>this⟩
 | if1 i g l q u no h0 r _ p _ w s e a b=>
  have:=bP e aq;have:=vw (S:=cH) (ts:=ts) (l+1);exact ⟨ae,λ_=>ae⟩
 | if0 i g l q v u no h0 r _ p _ _ s _ _ e a b=>
  have:=bP e aq;have:=vw (S:=cH) (ts:=ts) (g+1);exact ⟨ae,λ_=>ae⟩
 | ifn i g l q v no h0 r _ p _ s _ t e a=>
  have:=bP e aq;have:=vw (S:=cH) (ts:=ts) (g+1);have:=vw (S:=cH) (ts:=ts) (l+1);exact ⟨ae,λ_=>ae⟩
 | product i j k v v' no d _ _ a b=>exact ⟨ae,λh=>b.2 (a.2 h)⟩
 | sum i j k v v' no d _ _ a b=>exact ⟨ae,λh=>b.2 (a.2 h)⟩
 | lpE=>exact ⟨aG _,id⟩
 | lpB n i j v u no h _ _ _ c=>exact ⟨ae,λ_=>c.2 (l9 h)⟩
 | lpG n i j k v u v' d h _ _ _ _ a b=>exact ⟨ae,λ_=>b.2 (a.2 (l9 h))⟩
 | adb i j v no h _ c=>exact ⟨ae,λ_=>c.2 (bP h aq)⟩
 | Sw i j v no _ _ _ c=>exact c
 | ade i j k v u no _ _ h _ _ a b=>exact ⟨ae,λ_=>b.2 (l9 h)⟩
 | pA o i j k v v' no d _ _ a b=>exact ⟨ae,λh=>b.2 (a.2 h)⟩
 | lgE=>exact ⟨aG _,id⟩
 | lgW=>exact ⟨aG _,id⟩
 | lgS=>exact ⟨vw _,λh=>Sv h⟩
 | lgG o m i j k v u v' no d h _ _ _ _ a b=>
  have:i<(G ts):=bP h (by unfold iw;split<;>simp);exact ⟨ae,λ_=>b.2 (a.2 this)⟩
 | rule i j v no _ c=>exact ⟨bf c.1 (vw _),λh=>Sv (c.2 h)⟩
end
section
attribute [local go_sem] idx_eq app_eq
variable {w w' W:zW} {q cl cf i U j:Nat} {al af:Option zD} {ts:List (By × Nat)} {fs:List RF} {no Z:Bool}
structure gp (q:Nat) (al:Option zD) (cl:Nat) (af:Option zD) (cf:Nat) (ts:List (By × Nat)) (fs:List RF) (w:zW) (i:Nat) (no:Bool):Prop where
 row:w.heap[q]?=some (.cells #[.slice al (G ts) cl,zI i,.slice af (G fs) cf,.bool no] 245 (0,0))
 tok:∀ j (hj:j<G ts),∃ g,al=some ⟨g,0,none⟩/\g≠q/\g<w.heap.size/\w.cell? ⟨g,j*2,none⟩=some (.string ⟨ts[j].1.toArray⟩)
 bX:dU w (.slice af (G fs) cf) fs
 neq:∀ a,af=some a->a.block≠q
 tl:(G ts)<=1000
def gp.kp (h:gp q al cl af cf ts fs w i no) (k:Kp q w w') (s:w'.heap[q]?=some (.cells #[.slice al (G ts) cl,zI U,.slice af (G fs) cf,.bool Z] 245 (0,0))):gp q al cl af cf ts fs w' U Z:=by
 refine ⟨s,λj t=>?_,?_,h.neq,h.tl⟩
 ·obtain ⟨g,b,d,l,u⟩:=h.tok j t;exact ⟨g,b,d,bG l k.size,(aS (k.heap d l) _).t u⟩
 ·obtain ⟨r,a,c,e,b⟩:=h.bX;refine ⟨r,a,c,e,b.imp id ?_⟩;rintro ⟨g,o,p,n,v⟩;have m:g≠q:=by
   cases e;exact h.neq _ p
  refine ⟨g,o,p,bG n k.size,λi f y=>?_⟩;obtain ⟨x,b,d,l⟩:=v i f y;have e:=aS (k.heap m n);exact ⟨(e _).t x,(e _).t b,(e _).t d,(e _).t l⟩
def gp.lt (h:gp q al cl af cf ts fs w i no):q<w.heap.size:=(cz.1 h.row).1
def gp.next (h:gp q al cl af cf ts fs w i no) (a:zB w w'):gp q al cl af cf ts fs w' i no:=h.kp (Kp.of a h.lt) ((a.block q h.lt).t h.row)
def gp.Q7 (h:gp q al cl af cf ts fs w i no) (U:Nat):gp q al cl af cf ts fs (w.setCell ⟨q,1,none⟩ (zI U)) U no:=h.kp (Kp.here w 1 _) ((aj h.row 1 _).t rfl)
def gp.am0 (h:gp q al cl af cf ts fs w i no) (Z:Bool):gp q al cl af cf ts fs (w.setCell ⟨q,3,none⟩ (.bool Z)) i Z:=h.kp (Kp.here w 3 _) ((aj h.row 3 _).t rfl)
def fS (h:gp q al cl af cf ts fs w i no):zC prog 209 #[zJ q] w λr w'=>r=.returned (.string ⟨(aw ts i).toArray⟩)/\zB w w':=by
 obtain ⟨⟨j,k,l,n⟩,⟨f0,f1,f2,f3⟩,b⟩:=aX h.row;have e:((G ts):Int)<=1000:=a6.2 h.tl;rcases cC i (G ts) with a|a
 ·obtain ⟨g,rfl,m,o,f⟩:=h.tok i a;rw [<- eY ts i a] at f;have d:=eu a;clear h;go_in;go_wp2_with fail
  go_quiet (fail)
  go_wp2_with fail
  go_quiet (fail)
  go_wp2_with fail;go_ret;exact ⟨rfl,lG (lG (aM _ _) _) _⟩
 ·have c:=eH a;rw [kV ts i a];clear h;go_in;go_wp2_with fail
  go_quiet (fail)
  go_wp2_with fail;go_ret;exact ⟨rfl,lG (aM _ _) _⟩
end
section
variable {ts:List (By × Nat)} {κ:By->Vl} {S:By->Bool} {i j Z k n:Nat} {p a b:Pt} {v u:Vl} {no:Bool}
def l8 (v:Vl):Prop:=v.1=1\/(v.1=2/\(v.2=0\/v.2=1))\/v.1=3
def LI (κ:By->Vl):Prop:=∀ x,(κ x).1≠0->l8 (κ x)
def fO (κ:By->Vl):Pt->Option Vl
 | .atom k nm n=>if k=1 then some (1,(n:Int)) else if k=7 then some (bD true) else if k=8 then some (bD false) else if (κ nm).1=0 then none else some (κ nm)
 | .un k a=>match fO κ a with
  | none=>none
  | some v=>some (if k=9 then v else if k=14 then iW (aP 1 v) else nH (aP 2 v))
 | .bin k a b=>match fO κ a with
  | none=>none
  | some v=>
   if k=4\/k=5 then
    if aP 2 v=(2,if k=4 then 0 else 1)\/(aP 2 v).1=3 then some (aP 2 v) else match fO κ b with|none=>none|some u=>some (aP 2 u)
   else if v.1=3 then some v else match fO κ b with|none=>none|some u=>some (fR k v u)
 | .ifs a b c=>match fO κ a with
  | none=>none
  | some v=>if aP 2 v=(2,1) then fO κ b else if aP 2 v=(2,0) then fO κ c else some (aP 2 v)
def na (b:Bool):l8 (bD b):=by cases b<;>simp [l8,bD]
def DN (n:Int):l8 (cL n):=Or.inr (Or.inr rfl)
def kR (k:Int) (h:l8 v):l8 (aP k v):=by
 unfold aP;split
 ·exact DN _
 ·exact h
def E0 (h:l8 v):l8 (iW v):=by
 unfold iW;split
 ·exact h
 ·exact Or.inl rfl
def RH (h:l8 v):l8 (nH v):=by
 unfold nH;split
 ·exact h
 ·exact na _
def adg (k:Nat) (a b:Int):l8 (iX k a b):=by
 unfold iX
 repeat' split
 all_goals first|exact Or.inl rfl|exact na _|exact DN _
def RJ (k:Nat) (h:l8 v) (g:l8 u):l8 (fR k v u):=by
 unfold fR
 repeat' split
 all_goals first|exact h|exact g|exact adg _ _ _|exact na _|exact DN _
def Sx (r:LI κ):∀ (p:Pt) (v:Vl),fO κ p=some v->l8 v:=by
 intro p
 induction p with
 | atom k nm n=>
  intro v h;unfold fO at h;split at h
  ·cases h;exact Or.inl rfl
  ·split at h
   ·cases h;exact na _
   ·split at h
    ·cases h;exact na _
    ·split at h
     ·cases h
     ·rename_i q;cases h;exact r nm q
 | un k a o=>
  intro v h;unfold fO at h;split at h
  ·cases h
  ·rename_i v' e;have g:=o v' e;cases h;split
   ·exact g
   ·split
    ·exact E0 (kR _ g)
    ·exact RH (kR _ g)
 | bin k a b i f=>
  intro v h;unfold fO at h;split at h
  ·cases h
  ·rename_i v' e;have g:=i v' e;generalize (if k=4 then (0:Int) else 1)=d at h;split at h
   ·split at h
    ·cases h;exact kR _ g
    ·split at h
     ·cases h
     ·rename_i m l;cases h;exact kR _ (f m l)
   ·split at h
    ·cases h;exact g
    ·split at h
     ·cases h
     ·rename_i m l;cases h;exact RJ _ g (f m l)
 | ifs a b c i f j=>
  intro v h;unfold fO at h;split at h
  ·cases h
  ·rename_i v' e;have g:=i v' e;split at h
   ·exact f v h
   ·split at h
    ·exact j v h
    ·cases h;exact kR _ g
def nU (κ:By->Vl) (p:Pt) (v:Vl) (no:Bool):Prop:=(no=false/\fO κ p=some v)\/(no=true/\fO κ p=none)
def I4 (h:dY v no=false):no=false/\v.1≠3:=by
 cases no
 ·exact ⟨rfl,Oa⟩
 ·cases h
def vx (h:v.1≠3):dY v false=false:=Oa
def nJ (h:dY v no=true):no=true\/(no=false/\v.1=3):=by
 cases no
 ·exact Or.inr ⟨rfl,Oa⟩
 ·exact Or.inl rfl
def QK (h:v.1=3):dY v no=true:=by simp [dY,h]
def nU.some (h:nU κ p v no) (hs:dY v no=false):fO κ p=some v/\v.1≠3/\no=false:=by
 obtain ⟨b,a⟩:=I4 hs;subst b;rcases h with ⟨_,h⟩|⟨h,_⟩
 ·exact ⟨h,a,rfl⟩
 ·cases h
def Gf (n:Nat):List By:=match n with
 | 0=>[[44],[41]]
 | 1=>[[44],[41],[111,114]]
 | 2=>[[44],[41],[111,114],[97,110,100]]
 | _=>[[44],[41],[111,114],[97,110,100],[61],[60],[43],[45]]
def Gl (ts:List (By × Nat)) (n j:Nat):Prop:=G ts<=j\/aw ts j∈Gf n
def Gl.tok (h:Gl ts n j):aw ts j=[]\/aw ts j∈Gf n:=h.imp (λh=>kV ts j h) id
def Gl.no5 (h:Gl ts 3 j):b5 (aw ts j) (dc 5)=false:=BR
def Gl.no4 (h:Gl ts 2 j\/b5 (aw ts j) (dc 3)=true):b5 (aw ts j) (dc 4)=false:=by
 rcases h with h|h
 ·exact BR
 ·exact XL
def Gl.no3 (h:Gl ts 2 j):b5 (aw ts j) (dc 3)=false:=BR
def Gl.I5 (h:Gl ts 1 j):aw ts j≠[97,110,100]:=BR
def Gl.no1 (h:Gl ts 0 j):aw ts j≠[111,114]:=BR
def QM (t:By):(t∈Gf 0->t∈Gf 1)/\(t∈Gf 1->t∈Gf 2)/\(t∈Gf 2->t∈Gf 3):=
 ⟨(by decide:∀ t∈Gf 0,t∈Gf 1) t,(by decide:∀ t∈Gf 1,t∈Gf 2) t,(by decide:∀ t∈Gf 2,t∈Gf 3) t⟩
def Gl.up0 (h:Gl ts 0 j):Gl ts 1 j:=h.imp id (QM _).1
def Gl.up1 (h:Gl ts 1 j):Gl ts 2 j:=h.imp id (QM _).2.1
def Gl.up2 (h:Gl ts 2 j):Gl ts 3 j:=h.imp id (QM _).2.2
def Gl.s4 (h:b5 (aw ts j) (dc 4)=true):Gl ts 3 j:=by
 refine Or.inr ?_;rcases dI h with h|h|h|⟨_,h|h⟩|h
 ·omega
 ·omega
 ·omega
 ·rw [h];decide
 ·rw [h];decide
 ·omega
def Gl.s3 (h:b5 (aw ts j) (dc 3)=true):Gl ts 3 j:=by
 refine Or.inr ?_;exact XL
def Gl.s2 (h:aw ts j=[97,110,100]):Gl ts 2 j:=Or.inr yJ
def Gl.s1 (h:aw ts j=[111,114]):Gl ts 1 j:=Or.inr yJ
def Gl.over (h:Gl ts 1 j):(G ts)<=j\/dG false (aw ts j)=true:=Y4
def Gl.pass (h:Gl ts 0 j):(G ts)<=j\/cH (aw ts j)=true:=Y4
def Gl.ajF (h:Gl ts 0 j):(G ts)<=j\/dG true (aw ts j)=true:=h.pass.imp id (su true _)
def Md (ts:List (By × Nat)) (n k j:Nat):Prop:=(∃ m,n<=m/\b5 (aw ts k) (dc m)=true)/\Bl ts cH 0 k 0 j
def Md.up {n m k j:Nat} (h:Md ts n k j) (c:m<=n):Md ts m k j:=⟨h.1.imp λ_ ⟨a,b⟩=>⟨ae,b⟩,h.2⟩
def Md.on (h:Md ts n k j) (a:Bl ts cH 0 j 0 Z):Md ts n k Z:=⟨h.1,h.2.t a⟩
def Fin (ts:List (By × Nat)) (κ:By->Vl) (f:Fn) (n i j:Nat) (p:Pt):Prop:=∃ v k no,Ev ts κ f i v k no/\nU κ p v no/\(k=j\/(dY v no=true/\Md ts n k j))
def TL (ts:List (By × Nat)) (κ:By->Vl) (f:Fn) (n i j:Nat) (p:Pt):Prop:=
 (∃ u,fO κ p=some u/\u.1≠3/\∀ v k no,Ev ts κ (.lp n u false) j v k no->Ev ts κ f i v k no) \/
 (∃ v k no,Ev ts κ f i v k no/\nU κ p v no/\dY v no=true/\(k=j\/Md ts n k j))
def TL.fin {f:Fn} (h:TL ts κ f n i j p) (d:b5 (aw ts j) (dc n)=false):Fin ts κ f n i j p:=by
 rcases h with ⟨u,a,c,b⟩|⟨v,k,no,a,c,b,e⟩
 ·exact ⟨u,j,false,b _ _ _ (.lpE n j u false (Or.inl d)),Or.inl ⟨rfl,a⟩,Or.inl rfl⟩
 ·exact ⟨v,k,no,a,c,e.imp id λh=>⟨b,h⟩⟩
def TL.up {f:Fn} (e:∀ i j k v v' no a,Ev ts κ (Vu n) i v j no->Ev ts κ (.lp n v no) j v' k a->Ev ts κ f i v' k a) (h:Fin ts κ (Vu n) (n+1) i j p):TL ts κ f n i j p:=by
 obtain ⟨v,k,no,c,d,g⟩:=h;cases hs:dY v no
 ·obtain ⟨e1,l,rfl⟩:=d.some hs;have b:k=j:=g.resolve_right λh=>Ck;subst b;exact Or.inl ⟨v,e1,l,λv' o a m=>e _ _ _ _ _ _ _ c m⟩
 ·exact Or.inr ⟨v,k,no,e _ _ _ _ _ _ _ c (.lpE n k v no (Or.inr hs)),d,hs,g.imp id λh=>h.2.up ae⟩
def vy {t:By} {n k:Nat} (c:b5 t (dc n)=true) (l:3<=n) (j:ij t k) (g:v.1≠3) (f:u.1≠3):dK v t u=fR k v u/\¬ (k=4\/k=5):=by
 have a:∀ (x:By) (m:Nat),(x,m)∈eb->t=x->k=m:=λx m i h=>(cQ x m i t k j).2 h;rcases dI c with h|h|⟨_,h|h⟩|⟨_,h|h⟩|⟨_,h|h|h⟩
 ·omega
 ·omega
 all_goals
  first
  | (have b:=a _ 18 wP h)
  | (have b:=a _ 19 wP h)
  | (have b:=a _ 12 wP h)
  | (have b:=a _ 13 wP h)
  | (have b:=a _ 15 wP h)
  | (have b:=a _ 16 wP h)
  | (have b:=a _ 17 wP h)
  subst b;subst h;refine ⟨?_,ai⟩;obtain ⟨v1,v2⟩:=v;obtain ⟨u1,u2⟩:=u;simp only at g f;unfold dK fR iX;rw [aA g,aA f];by_cases d:v1=1/\u1=1
  ·simp [d]
  ·by_cases e:v1=u1
   ·simp [e]
   ·simp [d,e]
def vz (e:¬ (k=4\/k=5)) (c:fO κ a=some v) (d:v.1≠3):fO κ (.bin k a b)=match fO κ b with|none=>none|some u=>some (fR k v u):=by
 rw [fO,c];simp only;rw [aA e,aA d]
def LJ (d:¬ (k=4\/k=5)) (c:nU κ a v no) (hs:dY v no=true):nU κ (.bin k a b) v no:=by
 rcases c with ⟨rfl,c⟩|⟨rfl,c⟩
 ·refine Or.inl ⟨rfl,?_⟩;rw [fO,c];simp only;rw [aA d,aB ((nJ hs).resolve_left aq).2]
 ·refine Or.inr ⟨rfl,?_⟩;rw [fO,c]
def Sz (a:v.1≠3) (b:u.1=3):fR k v u=u:=by
 unfold fR;rw [aA a,aB b]
def TL.more {f:Fn} {t:By} (H:aw ts j=t) (C:3<=n) (h:TL ts κ f n i j a) (c:b5 (aw ts j) (dc n)=true) (A:ij (aw ts j) k) (F:Fin ts κ (Vu n) (n+1) (j+1) Z b) (x:Bl ts cH 0 j 0 Z):TL ts κ f n i Z (.bin k a b):=by
 have o:¬ (k=4\/k=5):=(vy (v:=(1,0)) (u:=(1,0)) c C A ai ai).2;rcases h with ⟨u,m,d,l⟩|⟨v,G,no,m,d,hs,s⟩
 ·obtain ⟨v2,g,I5,r,B,w⟩:=F;cases hs:dY v2 I5
  ·obtain ⟨e1,D,rfl⟩:=B.some hs;have p:g=Z:=w.resolve_right λh=>Ck;subst p;have z:=(vy c C A d D).1;have y:fO κ (.bin k a b)=some (fR k u v2):=by rw [vz o m d,e1]
   by_cases q:(fR k u v2).1=3
   ·refine Or.inr ⟨fR k u v2,g,false,?_,Or.inl ⟨rfl,y⟩,QK q,Or.inl rfl⟩;refine l _ _ _ (.lpG n j g g u v2 _ false c (vx d) r hs ?_);rw [z];exact .lpE n g _ false (Or.inr (QK q))
   ·refine Or.inl ⟨fR k u v2,y,q,λv k no E=>?_⟩;refine l _ _ _ (.lpG n j g k u v2 v no c (vx d) r hs ?_);rw [z];exact E
  ·refine Or.inr ⟨v2,g,I5,l _ _ _ (.lpB n j g u v2 I5 c (vx d) r hs),?_,hs,w.imp id λh=>h.2.up ae⟩;rcases B with ⟨rfl,e⟩|⟨rfl,e⟩
   ·refine Or.inl ⟨rfl,?_⟩;rw [vz o m d,e];simp only;rw [Sz d ((nJ hs).resolve_left aq).2]
   ·refine Or.inr ⟨rfl,?_⟩;rw [vz o m d,e]
 ·refine Or.inr ⟨v,G,no,m,LJ o d hs,hs,Or.inr ?_⟩;rcases s with rfl|s
  ·exact ⟨⟨n,aG _,c⟩,x⟩
  ·exact s.on x
def bh.first {n i j:Nat} {p:Pt} (h:bh ts n i j p):4<=n->aw ts i≠[110,111,116]:=by
 induction h with
 | atom i k t f s=>
  intro _ h;rw [h] at f;have:=(cQ [110,111,116] 6 ai _ k f).2 rfl;omega
 | jV=>intro h;omega
 | neg i j a d=>intro _;rw [d];simp
 | br i j a d=>intro _;rw [d];simp
 | ifs i o r q a b c d=>intro _;rw [d];simp
 | up n i j a g m _ l=>intro h;exact l ae
 | more n i j Z k a b g m _ _ _ _ e _=>
  intro h;refine e ?_;split<;>omega
def adh (d:aw ts i≠[110,111,116]) (h:Fin ts κ .sum 4 i j p) (c:b5 (aw ts j) (dc 3)=false):Fin ts κ .test 3 i j p:=by
 obtain ⟨v,k,no,b,e,a⟩:=h;refine ⟨v,k,no,.Sw i k v no d b ?_,e,a.imp id λh=>⟨h.1,h.2.up ae⟩⟩;rcases a with rfl|a
 ·exact Or.inl c
 ·exact Or.inr a.1
def QN (x:aw ts i≠[110,111,116]) (D:Fin ts κ .sum 4 i j a) (c:b5 (aw ts j) (dc 3)=true) (s:ij (aw ts j) k) (A:Fin ts κ .sum 4 (j+1) Z b) (r:Bl ts cH 0 j 0 Z):Fin ts κ .test 3 i Z (.bin k a b):=by
 have l:¬ (k=4\/k=5):=(vy (v:=(1,0)) (u:=(1,0)) c (aG 3) s ai ai).2;obtain ⟨v,g,no,t,w,m⟩:=D;cases hs:dY v no
 ·obtain ⟨e1,f,rfl⟩:=w.some hs;have o:g=j:=m.resolve_right λh=>Ck;subst o;obtain ⟨u,p,I5,C,y,q⟩:=A;refine ⟨_,p,I5,.ade i g p v u I5 x t c hs C,?_⟩;cases d:dY u I5
  ·obtain ⟨B,z,rfl⟩:=y.some d;have n:p=Z:=q.resolve_right λh=>by rw [d] at h;cases h.1
   rw [aA aq];refine ⟨Or.inl ⟨rfl,?_⟩,Or.inl n⟩;rw [vz l e1 f,B,(vy c (aG 3) s f z).1]
  ·rw [aB rfl];refine ⟨?_,q.imp id λh=>⟨d,h.2.up ae⟩⟩;rcases y with ⟨rfl,e⟩|⟨rfl,e⟩
   ·refine Or.inl ⟨rfl,?_⟩;rw [vz l e1 f,e];simp only;rw [Sz f ((nJ d).resolve_left aq).2]
   ·refine Or.inr ⟨rfl,?_⟩;rw [vz l e1 f,e]
 ·refine ⟨v,g,no,.Sw i g v no x t (Or.inr hs),LJ l w hs,Or.inr ⟨hs,?_⟩⟩;rcases m with rfl|m
  ·exact ⟨⟨3,aG _,c⟩,r⟩
  ·exact (m.2.up ae).on r
def Vw (d:aw ts i=[110,111,116]) (h:Fin ts κ .test 3 (i+1) j a):Fin ts κ .test 3 i j (.un 6 a):=by
 obtain ⟨v,k,no,c,f,g⟩:=h;refine ⟨_,k,no,.adb i k v no d c,?_,g.imp id λh=>⟨?_,h.2⟩⟩
 ·rcases f with ⟨rfl,e⟩|⟨rfl,e⟩
  ·exact Nl
  ·exact Gv
 ·rcases nJ h.1 with rfl|⟨rfl,b⟩
  ·rfl
  ·rw [aA aq];refine QK ?_;have e:aP 2 v=v:=NB;rw [e];unfold nH;rw [aB b];exact b
variable {F w w' W w1 w2:zW} {T Z:Nat->Prop} {E:List En} {e:Nat} {a:Ab} {s:By} {l:Ln}
def Kt.below (h:Kt T w w1) (c:∀ q,T q->q<w1.heap.size) (a:zB w1 w2):Kt T w w2:=h.t ⟨a.size,λq b=>a.block q (c q b)⟩
def Lv (F:zW) (T:Nat->Prop) (E:List En) (w w':zW):Prop:=Kt T w w'/\jH F T E w'
def Lv.next (h:Lv F T E w w1) (a:zB w1 w2):Lv F T E w w2:=⟨h.1.below h.2.P5 a,h.2.next a⟩
end
section
attribute [local go_sem] idx_eq app_eq
variable {w w' W:zW} {q cl cf i U j:Nat} {al af:Option zD} {ts:List (By × Nat)} {fs:List RF} {no Z:Bool}
def dC (v:Vl) (h:gp q al cl af cf ts fs w i no):zC prog 210 #[zJ q,gH v] w λr w'=>r=.returned (.bool (dY v no))/\zB w w':=by
 obtain ⟨⟨b,c,d,e⟩,⟨f0,f1,f2,f3⟩,a⟩:=aX h.row;obtain ⟨g,f⟩:=v;clear h;unfold dY;cases no
 ·exact MI
 ·exact MI
def LN {S:By->Bool} {j o X:Nat} (a:j<G ts) (b:¬ (o=0/\S (aw ts j)=true)) (h:j+qu S (ts.drop j) o=X):j+1+qu S (ts.drop (j+1)) (oN (aw ts j) o)=X:=by
 obtain ⟨n,e⟩:=vr a;rw [e,qu,aA b] at h;have c:j+(qu S (ts.drop (j+1)) (oN (aw ts j) o)+1)=X:=h;omega
def LO {S:By->Bool} {j X:Nat} (b:j<G ts) (a:S (aw ts j)=true) (h:j+qu S (ts.drop j) 0=X):j=X:=by
 obtain ⟨n,e⟩:=vr b;rw [e,qu,aB ⟨rfl,a⟩] at h;exact h
def SA {S:By->Bool} {j o X:Nat} (a:(G ts)<=j) (h:j+qu S (ts.drop j) o=X):j=X:=by
 rw [List.drop_eq_nil_of_le a] at h;exact h
def ob0 {o:Nat} (h:o≠0):((o:Int) == 0)=false:=aN
def SB {t:By} {o j:Nat} (h:o<=j):oN t o<=j+1:=by
 unfold oN;split
 ·omega
 ·split<;>omega
def adl {o:Nat}:((oN [40] o:Nat):Int)=(o:Int)+1:=rfl
def ajJ {o:Nat} (h:o≠0):((oN [41] o:Nat):Int)=(o:Int) - 1:=by
 show ((o - 1:Nat):Int)=_;omega
def adm {t:By} {o:Nat} (b:t≠[40]) (a:t≠[41]):((oN t o:Nat):Int)=(o:Int):=by
 unfold oN;rw [aA b,aA a]
def wdO:Bool->By|true=>[111,114]|false=>[97,110,100]
inductive OvS:Bool->By->Prop
 | c b:OvS b [44]
 | r b:OvS b [41]
 | or:OvS false [111,114]
inductive QR:Bool->By->Nat->Prop
 | l0 b:Hid (((oN [40] 0:Nat):Int)=((0:Nat):Int)+1)->QR b [40] 0
 | l b (o:Nat):((o:Int) == 0)=false->Hid (((oN [40] o:Nat):Int)=(o:Int)+1)->QR b [40] o
 | r b (o:Nat):((o:Int) == 0)=false->(1:Int)<=(o:Int)->Hid (((oN [41] o:Nat):Int)=(o:Int) - 1)->QR b [41] o
 | x1 t:(t == [40])=false->(t == [41])=false->(t == [44])=false->Hid (((oN t 0:Nat):Int)=((0:Nat):Int))->QR true t 0
 | x0 t:(t == [40])=false->(t == [41])=false->(t == [44])=false->(t == [111,114])=false->Hid (((oN t 0:Nat):Int)=((0:Nat):Int))->QR false t 0
 | x b t (o:Nat):(t == [40])=false->(t == [41])=false->((o:Int) == 0)=false->Hid (((oN t o:Nat):Int)=(o:Int))->QR b t o
def ovS {b:Bool} {t:By} (h:dG b t=true):OvS b t:=by
 cases b
 ·rcases (by simpa [dG] using h:(t=[44]\/t=[41])\/t=[111,114]) with (rfl|rfl)|rfl
  ·exact .c _
  ·exact .r _
  ·exact .or
 ·rcases (by simpa [dG] using h:t=[44]\/t=[41]) with rfl|rfl
  ·exact .c _
  ·exact .r _
def ovG {b:Bool} {t:By} {o:Nat} (h:¬ (o=0/\dG b t=true)):QR b t o:=by
 by_cases c:t=[40]
 ·subst c;by_cases d:o=0
  ·subst d;exact .l0 b (I adl)
  ·exact .l b o (ob0 d) (I adl)
 ·by_cases a:t=[41]
  ·subst a;have d:o≠0:=λe=>h ⟨e,by cases b<;>decide⟩;exact .r b o (ob0 d) ae (I (ajJ d))
  ·have f:=bo.2 c;have g:=bo.2 a;by_cases d:o=0
   ·subst d;have i:(t == [44])=false:=bo.2 λe=>h ⟨rfl,by rw [e];cases b<;>decide⟩;cases b
    ·exact .x0 t f g i (bo.2 λe=>h ⟨rfl,by rw [e];decide⟩) (I (adm c a))
    ·exact .x1 t f g i (I (adm c a))
   ·exact .x b t o f g (ob0 d) (I (adm c a))
def FQ (t:By):cH t=dG true t:=by simp [cH,dG]
def BW (h:gp q al cl af cf ts fs w i no) (hi:i<=G ts):zC prog 186 #[zJ q] w λr w'=>r=.returned (.tuple #[])/\gp q al cl af cf ts fs w' (jy cH ts i) no/\Kp q w w':=by
 have HS:=I h;have u:((G ts):Int)<=1000:=a6.2 h.tl;clear h;go_in;go_wp2_with fail;go_loopg [2] (G ts) (λgk x wr=>∃ j o:Nat,j<=G ts/\o<=j/\(G ts)<=j+gk/\x=zI o/\Hid (gp q al cl af cf ts fs wr j no/\Kp q w wr/\j+qu cH (ts.drop j) o=jy cH ts i))
 case atStart=>exact X8
 case round=>
  obtain ⟨j,o,e,ho,f,rfl,HI⟩:=hrel;obtain ⟨⟨A,B,C,F⟩,⟨f0,f1,f2,f3⟩,hsz⟩:=aX HI.o.1.row;rcases cC j (G ts) with a|a
  ·obtain ⟨g,rfl,E,H,z⟩:=HI.o.1.tok j a;rw [<- eY ts j a] at z;have s:=eu a;have eQ:=I (eJ a f);have n:=I (show o<=j/\j<=1000 from ⟨ho,bf e HI.o.1.tl⟩);have y:(o:Int)<=1000:=a6.2 (bf ho (bf e HI.o.1.tl));have l:(j:Int)<=1000:=a6.2 (bf e HI.o.1.tl);have D:=I (rfl:aw ts j=aw ts j);have d:=I (λh m=>LO (S:=cH) a h m:cH (aw ts j)=true->j+qu cH (ts.drop j) 0=jy cH ts i->j=jy cH ts i);have c:=I (λp=>LN (S:=cH) a p HI.o.2.2:¬ (o=0/\cH (aw ts j)=true)->j+1+qu cH (ts.drop (j+1)) (oN (aw ts j) o)=jy cH ts i);clear e ho;generalize aw ts j=t at *;by_cases hst:o=0/\cH t=true
   ·obtain ⟨rfl,hst⟩:=hst;have HX:=I (d.o hst HI.o.2.2);clear c d;have ho:=ovS (b:=true) (FQ t▸hst);clear hst;rcases ho with _|_|_
    all_goals
     go_wp2_with fail
     go_quiet (fail)
     go_wp2_with fail
     go_quiet (fail)
     go_wp2_with fail;refine aK (v:=.tuple #[]) aaw rfl ?_;exact ⟨rfl,HX.o▸HI.o.1.next (lG (aM _ _) _),HI.o.2.1.next (lG (aM _ _) _) hsz⟩
   ·have HX:=I (c.o hst);have HD:=I (SB (t:=t) n.o.1);clear c d;have ho:=ovG (b:=true) (FQ t▸hst);exact WC
  ·have k:=eH a;have HX:=I (SA a HI.o.2.2);go_wp2_with fail
   go_quiet (fail)
   go_wp2_with fail;refine bodyPost_end (v:=.tuple #[]) aaw rfl ?_;exact ⟨rfl,HX.o▸HI.o.1.next (lG (aM _ _) _),HI.o.2.1.next (lG (aM _ _) _) hsz⟩
def LP {B:Bool} (b:Bool) (k:B=b) (h:gp q al cl af cf ts fs w i no) (hi:i<=G ts):zC prog 212 #[zJ q,.string ⟨(wdO b).toArray⟩] w λr w'=>r=.returned (.tuple #[])/\gp q al cl af cf ts fs w' (jy (dG B) ts i) no/\Kp q w w':=by
 have HS:=I h;have z:((G ts):Int)<=1000:=a6.2 h.tl;have l:=I k;clear h k;cases b
 all_goals
  go_in;go_wp2_with fail;go_loopg [4] (G ts) (λgk x wr=>∃ j o:Nat,j<=G ts/\o<=j/\(G ts)<=j+gk/\x=zI o/\Hid (gp q al cl af cf ts fs wr j no/\Kp q w wr/\j+qu (dG B) (ts.drop j) o=jy (dG B) ts i))
  case atStart=>exact X8
  case round=>
   obtain ⟨j,o,e,ho,f,rfl,HI⟩:=hrel;obtain ⟨⟨D,E,F,K⟩,⟨f0,f1,f2,f3⟩,hsz⟩:=aX HI.o.1.row;rcases cC j (G ts) with a|a
   ·obtain ⟨g,rfl,J,L,C⟩:=HI.o.1.tok j a;rw [<- eY ts j a] at C;have y:=eu a;have eQ:=I (eJ a f);have s:=I (show o<=j/\j<=1000 from ⟨ho,bf e HI.o.1.tl⟩);have A:(o:Int)<=1000:=a6.2 (bf ho (bf e HI.o.1.tl));have n:(j:Int)<=1000:=a6.2 (bf e HI.o.1.tl);have H:=I (rfl:aw ts j=aw ts j);have d:=I (λh p=>LO (S:=(dG B)) a h p:(dG B) (aw ts j)=true->j+qu (dG B) (ts.drop j) 0=jy (dG B) ts i->j=jy (dG B) ts i);have c:=I (λu=>LN (S:=(dG B)) a u HI.o.2.2:¬ (o=0/\(dG B) (aw ts j)=true)->j+1+qu (dG B) (ts.drop (j+1)) (oN (aw ts j) o)=jy (dG B) ts i);clear e ho;generalize aw ts j=t at *;by_cases hst:o=0/\(dG B) t=true
    ·obtain ⟨rfl,hst⟩:=hst;have HX:=I (d.o hst HI.o.2.2);clear c d;have ho:=ovS hst;rw [l.o] at ho;clear hst;rcases ho with _|_|_
     all_goals
      go_wp2_with fail
      go_quiet (fail)
      go_wp2_with fail
      go_quiet (fail)
      go_wp2_with fail;refine aK (v:=.tuple #[]) aax rfl ?_;exact ⟨rfl,HX.o▸HI.o.1.next (lG (aM _ _) _),HI.o.2.1.next (lG (aM _ _) _) hsz⟩
    ·have HX:=I (c.o hst);have HD:=I (SB (t:=t) s.o.1);clear c d;have ho:=ovG hst;rw [l.o] at ho;exact WC
   ·have m:=eH a;have HX:=I (SA a HI.o.2.2);go_wp2_with fail
    go_quiet (fail)
    go_wp2_with fail;refine bodyPost_end (v:=.tuple #[]) aax rfl ?_;exact ⟨rfl,HX.o▸HI.o.1.next (lG (aM _ _) _),HI.o.2.1.next (lG (aM _ _) _) hsz⟩
def SQ (h:gp q al cl af cf ts fs w i no) (a:i<=G ts):zC prog 212 #[zJ q,.string ⟨([111,114]:By).toArray⟩] w λr w'=>r=.returned (.tuple #[])/\gp q al cl af cf ts fs w' (jy (dG true) ts i) no/\Kp q w w':=LP true rfl h a
def SR (h:gp q al cl af cf ts fs w i no) (a:i<=G ts):zC prog 212 #[zJ q,.string ⟨([97,110,100]:By).toArray⟩] w λr w'=>r=.returned (.tuple #[])/\gp q al cl af cf ts fs w' (jy (dG false) ts i) no/\Kp q w w':=LP false rfl h a
def gp.AA {a:Nat} (c:gp q al cl af cf ts fs w i no) (h:Kp q w W) (g:gp q al cl af cf ts fs W U Z) (d:w.heap.size<=a) (v0 v1:zV):gp q al cl af cf ts fs ((W.setCell ⟨a,0,none⟩ v0).setCell ⟨a,1,none⟩ v1) U Z/\Kp q w ((W.setCell ⟨a,0,none⟩ v0).setCell ⟨a,1,none⟩ v1):=by
 have e:q≠a:=cZ (bG c.lt d);have f:=(h.there a 0 v0 d c.lt).there a 1 v1 d c.lt;exact ⟨c.kp f (((Kp.here (b:=a) W 0 v0).t (Kp.here _ 1 v1)).blk g.row e),f⟩
def eO:List RF->By->Vl
 | [],_=>(3,3)
 | f::r,x=>if f.nm=x then (f.kd,f.n) else eO r x
def af2 (fs:List RF) (x:By) (j:Nat) (f:RF) (hf:fs[j]?=some f) (d:f.nm=x) (h:∀ i,i<j->∀ f,fs[i]?=some f->f.nm≠x):eO fs x=(f.kd,f.n):=by
 induction fs generalizing j with
 | nil=>simp at hf
 | cons g r c=>
  cases j with
  | zero=>
   simp at hf;subst hf;rw [eO,aB d]
  | succ j=>
   rw [eO,aA (h 0 ae g rfl)];exact c j Om (λi e b a=>h (i+1) ae b (by simpa using a))
def af3 (fs:List RF) (x:By) (h:∀ i,i<G fs->∀ f,fs[i]?=some f->f.nm≠x):eO fs x=(3,3):=by
 induction fs with
 | nil=>rfl
 | cons g r a=>
  rw [eO,aA (h 0 aq g rfl)];exact a λi hi f hf=>h (i+1) tG f Om
def Vz (x:By) (h:gp q al cl af cf ts fs w i false):zC prog 264 #[zJ q,zG x] w λr w'=>r=.returned (gH (eO fs x))/\gp q al cl af cf ts fs w' i (decide ((eO fs x).1=0))/\Kp q w w':=by
 have k:=I h;have L:((G fs):Int)<=1000:=a6.2 h.bX.1;clear h;go_in;go_wp2_with fail;go_loopg [5] (G fs) (λgk y wr=>∃ j:Nat,j<=G fs/\(G fs)<=j+gk/\y=zI j/\Hid ((∀ i,i<j->∀ f,fs[i]?=some f->f.nm≠x)/\gp q al cl af cf ts fs wr i false/\zB w wr/\wr.heap[w.heap.size]?=some (.cells #[zI 0,zI 0] 129 (0,0))))
 case atStart=>exact ⟨0,bE _,Nat.le_add_left _ _,rfl,I ⟨λi t=>absurd t (pH i),k.o.next (bZ _),(aM _ _).alloc (aG _) _,bL w _⟩⟩
 case round=>
  obtain ⟨j,X,D,rfl,d⟩:=hrel;obtain ⟨⟨U,V,S,T⟩,⟨f0,f1,f2,f3⟩,J⟩:=aX d.o.2.1.row;obtain ⟨⟨r0,r1⟩,⟨A,z⟩,n⟩:=cq d.o.2.2.2;have C:q≠w.heap.size:=cZ k.o.lt;have P:w.heap.size≠q:=λh=>C h.symm;rcases cC j (G fs) with ee|ee
  ·have R:=eu ee;have m:=I (eJ ee D);obtain ⟨f,B⟩:∃ f,fs[j]?=some f:=⟨_,cU ee⟩;have HF:=I B;obtain ⟨-,a,c,e,Q⟩:=d.o.2.1.bX;cases e;rcases Q with h0|⟨g,o,rfl,W,s⟩
   ·exact yD
   ·obtain ⟨c0,c1,c2,c3⟩:=s j f B;have E:g≠q:=d.o.2.1.neq _ rfl;have K:q≠g:=λh=>E h.symm;clear s B;by_cases hx:f.nm=x
    ·have b:=I (af2 fs x j f HF.o hx d.o.1);subst hx;have u:(f.nm == f.nm)=true:=aq;by_cases hz:f.kd=0
     ·have p:=I (show gH (eO fs f.nm)=.agg #[zI 0,zI f.n]/\decide ((eO fs f.nm).1=0)=true from ⟨by rw [b.o,hz],by rw [b.o];exact decide_eq_true hz⟩);go_wp2_with fail;refine aK (v:=.agg #[zI 0,zI f.n]) ZA rfl ?_;rw [p.o.1,p.o.2];exact ⟨rfl,k.o.AA ((Kp.of d.o.2.2.1 k.o.lt).t (Kp.here _ 3 _)) (d.o.2.1.am0 true) (aG _) _ _⟩
     ·have M:(f.kd == 0)=false:=Oq;have p:=I (show gH (eO fs f.nm)=.agg #[zI f.kd,zI f.n]/\decide ((eO fs f.nm).1=0)=false from ⟨by rw [b.o],by rw [b.o];exact decide_eq_false hz⟩);go_wp2_with fail;refine aK (v:=.agg #[zI f.kd,zI f.n]) ZA rfl ?_;rw [p.o.1,p.o.2];exact ⟨rfl,k.o.AA (Kp.of d.o.2.2.1 k.o.lt) d.o.2.1 (aG _) _ _⟩
    ·have u:(f.nm == x)=false:=tJ;have H:Hid (∀ i,i<j+1->∀ f,fs[i]?=some f->f.nm≠x):=I λi t N hf'=>by
      rcases cC i j with h|h
      ·exact d.o.1 i h N hf'
      ·exact Y5
     clear hx;go_wp2_with fail;go_roundg (G fs - (j+1))
     case measure=>exact m.o.2.1
     case rel=>exact ⟨j+1,m.o.2.2,m.o.1,aq,I ⟨H.o,d.o.2⟩⟩
  ·have O:=eH ee;have b:=I (af3 fs x λi t=>d.o.1 i (bG t ee));go_wp2_with (go_at_call 211;refine mo (mR _ _) ?_;rintro e w1 ⟨rfl,l⟩);obtain ⟨⟨r0,r1⟩,⟨A,z⟩,n⟩:=cq ((l.block w.heap.size n).t d.o.2.2.2);have F:=I l;clear l;apply I;go_wp2_with fail;refine aK (v:=gH (cL 3)) ZA rfl ?_;rw [b.o];exact ⟨rfl,k.o.AA (Kp.of (d.o.2.2.1.t (F.o.m d.o.2.2.1.size)) k.o.lt) (d.o.2.1.next F.o) (aG _) _ _⟩
end
section
variable {ts:List (By × Nat)} {κ:By->Vl} {S:By->Bool} {i j Z k n:Nat} {p a b c:Pt} {v u:Vl} {no o:Bool}
def ahi (ts:List (By × Nat)) (o:Bool) (j J:Nat):Prop:=Bl ts (dG o) 0 j 0 J/\(G ts<=J\/dG o (aw ts J)=true)
def MdL (ts:List (By × Nat)) (o:Bool) (k J:Nat):Prop:=(o=false->aw ts k≠[111,114])/\Bl ts cH 0 k 0 J
def dO (o:Bool):Vl:=(2,if o=true then 1 else 0)
def kO (o:Bool):Nat:=if o=true then 5 else 4
def Part (ts:List (By × Nat)) (κ:By->Vl) (o:Bool) (i j:Nat) (p:Pt):Prop:=
 ∃ v k no,Ev ts κ (sdF o) i v k no/\nU κ p v no/\(k=j\/(dY v no=true/\aw ts k≠iw o/\(o=false->aw ts k≠[111,114])/\Bl ts cH 0 k 0 j))
def TG (ts:List (By × Nat)) (κ:By->Vl) (o:Bool) (i j:Nat) (p:Pt):Prop:=
 (∃ (m:Bool) (v:Vl),fO κ p=some (if m=true then aP 2 v else v)/\v.1≠3/\∀ v' k a,Ev ts κ (.lg o m v false) j v' k a->Ev ts κ (.pA o) i v' k a) \/
 (∃ v no,nU κ p v no/\(dY v no=true\/v=dO o)/\∀ J,ahi ts o j J->∃ k,Ev ts κ (.pA o) i v k no/\(k=J\/(dY v no=true/\MdL ts o k J)))
def FP (h:Fin ts κ .test 3 i j p):Part ts κ false i j p:=by
 obtain ⟨v,k,no,d,c,e⟩:=h;refine ⟨v,k,no,d,c,e.imp id λ⟨a,⟨m,hm,kL⟩,b⟩=>⟨a,?_,λ_=>?_,b⟩⟩
 ·exact Xm
 ·exact Xm
def LK (m:Bool) (hs:dY v no=true) (f:k=j\/(aw ts k≠iw o/\(o=false->aw ts k≠[111,114])/\Bl ts cH 0 k 0 j)) (J:Nat) (b:ahi ts o j J):∃ e,Ev ts κ (.lg o m v no) k v e no/\(e=J\/(dY v no=true/\MdL ts o e J)):=by
 by_cases c:aw ts k=iw o
 ·have d:k=j:=f.resolve_right λh=>h.1 c;subst d;exact ⟨_,.lgS o m k v no c (Or.inl hs),Or.inl (b.1.jy b.2)⟩
 ·refine ⟨k,?_,?_⟩
  ·have:=Ev.lgE (κ:=κ) o m k v no c;rw [aA (by rw [hs];simp)] at this;exact this
  ·rcases f with rfl|⟨_,i,l⟩
   ·by_cases a:k=J
    ·exact Or.inl a
    ·refine Or.inr ⟨hs,λg h=>a ?_,b.1.less (su o)⟩;refine (b.1.stuck (Or.inr ?_)).symm;rw [h,g];decide
   ·exact Or.inr ⟨hs,i,l.t (b.1.less (su o))⟩
def TG.up (h:Part ts κ o i j p):TG ts κ o i j p:=by
 obtain ⟨v,k,no,e,f,g⟩:=h;cases hs:dY v no
 ·obtain ⟨e1,l,rfl⟩:=f.some hs;have c:k=j:=g.resolve_right λh=>Ck;subst c;exact Or.inl ⟨false,v,by rw [aA aq];exact e1,l,λv' a b d=>.pA o i k a v v' false b e d⟩
 ·refine Or.inr ⟨v,no,f,Or.inl hs,λJ n=>?_⟩;obtain ⟨a,d,m⟩:=LK (κ:=κ) false hs (g.imp id λh=>h.2) J n;exact ⟨a,.pA o i k a v v no no e d,m⟩
def sw (h:v.1=2):aP 2 v=v:=NB
def yf (h:v.1=3) (k:Int):aP k v=v:=NB
def uH (h:v.1≠2) (a:v.1≠3):aP 2 v=cL 2:=by unfold aP;rw [aB ⟨h,a⟩]
def QO:aP 2 (aP 2 v)=aP 2 v:=by
 by_cases h:v.1≠2/\v.1≠3
 ·rw [uH h.1 h.2];rfl
 ·unfold aP;rw [aA h,aA h]
def Vy (m:Bool):aP 2 (if m=true then aP 2 v else v)=aP 2 v:=by
 cases m
 ·rw [aA aq]
 ·rw [aB rfl];exact QO
def ajG:(2,if kO o=4 then 0 else 1)=dO o:=by cases o<;>rfl
def ajH:kO o=4\/kO o=5:=by cases o<;>simp [kO]
def adi (c:fO κ a=some u):fO κ (.bin (kO o) a b)=if aP 2 u=dO o\/(aP 2 u).1=3 then some (aP 2 u) else match fO κ b with|none=>none|some u=>some (aP 2 u):=by
 rw [fO,c];simp only;rw [aB ajH,ajG]<;>rfl
def TG.more (r:aw ts j=iw o) (H:LI κ) (h:TG ts κ o i j a) (K:Part ts κ o (j+1) Z b) (x:Bl ts (dG o) 0 j 0 Z):TG ts κ o i Z (.bin (kO o) a b):=by
 rcases h with ⟨m,v,t,c,q⟩|⟨v,no,t,c,q⟩
 ·have f:=adi (o:=o) (b:=b) t;rw [Vy] at f;by_cases n:v.1=2
  ·rw [sw n] at f;by_cases p:v.2=1↔o=true
   ·have l:v=dO o:=by
     have g:=Sx H a _ t;rw [show (if m=true then aP 2 v else v)=v by rw [sw n];exact ite_self v] at g;have w:v.2=0\/v.2=1:=by
      rcases g with g|⟨_,g⟩|g
      ·omega
      ·exact g
      ·omega
     refine Prod.ext n ?_;cases o
     ·rcases w with h|h
      ·exact h
      ·exact absurd (p.1 h) aq
     ·exact p.2 rfl
    refine Or.inr ⟨v,false,Or.inl ⟨rfl,?_⟩,Or.inr l,λJ d=>⟨J,?_,Or.inl rfl⟩⟩
    ·rw [f,aB (Or.inl l)]
    ·have:=q _ _ _ (.lgS o m j v false r (Or.inr ⟨n,p⟩));rw [(x.t d.1).jy d.2] at this;exact this
   ·have l:¬ (v=dO o\/v.1=3):=by
     rintro (h|h)
     ·refine p ?_;rw [h];cases o<;>simp [dO]
     ·omega
    rw [aA l] at f;obtain ⟨u,k,no,D,F,C⟩:=K;cases hs:dY u no
    ·obtain ⟨e1,G,rfl⟩:=F.some hs;have z:k=Z:=C.resolve_right λh=>Ck;subst z;refine Or.inl ⟨true,u,?_,G,λv' s y L=>q _ _ _ (.lgG o m j k s v u v' false y r n p D L)⟩;rw [f,e1,aB rfl]
    ·refine Or.inr ⟨u,no,?_,Or.inl hs,λJ d=>?_⟩
     ·rcases F with ⟨rfl,e⟩|⟨rfl,e⟩
      ·refine Or.inl ⟨rfl,?_⟩;rw [f,e];simp only;rw [yf ((nJ hs).resolve_left aq).2]
      ·refine Or.inr ⟨rfl,?_⟩;rw [f,e]
     ·obtain ⟨s,B,A⟩:=LK (κ:=κ) true hs (C.imp id λh=>h.2) J d;exact ⟨s,q _ _ _ (.lgG o m j k s v u u no no r n p D B),A⟩
  ·rw [uH n c] at f;refine Or.inr ⟨cL 2,false,Or.inl ⟨rfl,?_⟩,Or.inl rfl,λJ d=>⟨j,q _ _ _ (.lgW o m j v false r (vx c) n),Or.inr ⟨rfl,?_,(x.t d.1).less (su o)⟩⟩⟩
   ·rw [f,aB (Or.inr (show (cL 2).1=3 from rfl))]
   ·rintro rfl h;rw [r] at h;cases h
 ·refine Or.inr ⟨v,no,?_,c,λJ d=>q J ⟨x.t d.1,d.2⟩⟩;rcases t with ⟨rfl,e⟩|⟨rfl,e⟩
  ·refine Or.inl ⟨rfl,?_⟩;rw [adi e];rcases c with c|c
   ·have E:=((nJ c).resolve_left aq).2;rw [yf E,aB (Or.inr E)]
   ·rw [sw (by rw [c];rfl),aB (Or.inl c)]
  ·exact Gv
def LL (m:Bool) (h:v.1≠3):(if m=true/\dY v false=false/\v.1≠2 then cL 2 else v)=if m=true then aP 2 v else v:=by
 cases m
 ·rw [aA aq,aA aq]
 ·rw [aB rfl];by_cases a:v.1=2
  ·rw [aA (by simp [a]),sw a]
  ·rw [aB ⟨rfl,vx h,a⟩,uH a h]
def LM (h:TG ts κ false i j p) (f:Gl ts 1 j):Part ts κ true i j p:=by
 rcases h with ⟨m,v,d,g,e⟩|⟨v,no,d,g,e⟩
 ·refine ⟨_,j,false,e _ _ _ (.lgE false m j v false f.I5),?_,Or.inl rfl⟩;rw [LL m g];exact Or.inl ⟨rfl,d⟩
 ·obtain ⟨k,n,l⟩:=e j ⟨.here _ _,f.over⟩;exact ⟨v,k,no,n,d,l.imp id λ⟨a,b,c⟩=>⟨a,b rfl,λh=>absurd h aq,c⟩⟩
def adj (h:TG ts κ true i j p) (b:Gl ts 0 j):∃ v no,Ev ts κ .rule i v j no/\nU κ p v no:=by
 have a:jy cH ts j=j:=(Bl.here 0 j).jy b.pass;rcases h with ⟨m,v,c,e,d⟩|⟨v,no,c,e,d⟩
 ·have:=Ev.rule _ _ _ _ (d _ _ _ (.lgE true m j v false b.no1));rw [a] at this;refine ⟨_,false,this,?_⟩;rw [LL m e];exact Or.inl ⟨rfl,c⟩
 ·obtain ⟨k,l,f⟩:=d j ⟨.here _ _,b.ajF⟩;refine ⟨v,no,?_,c⟩;have:=Ev.rule _ _ _ _ l;rcases f with rfl|⟨_,_,g⟩
  ·rw [a] at this;exact this
  ·rw [g.jy b.pass] at this;exact this
def DO (ts:List (By × Nat)) (κ:By->Vl) (n i j:Nat) (p:Pt):Prop:=
 (n=6->∃ v no,Ev ts κ .atom i v j no/\nU κ p v no)/\(n=5->TL ts κ .product 5 i j p)/\(n=4->Gl ts 3 j->TL ts κ .sum 4 i j p) /\
 (n=3->Gl ts 2 j->Fin ts κ .test 3 i j p)/\(n=2->Gl ts 2 j->TG ts κ false i j p)/\(n=1->Gl ts 1 j->TG ts κ true i j p)
def ahj (h:∃ v no,Ev ts κ .atom i v j no/\nU κ p v no):Fin ts κ (Vu 5) 6 i j p:=by
 obtain ⟨v,no,b,a⟩:=h;exact ⟨v,j,no,b,a,Or.inl rfl⟩
def DO.at6 (h:∃ v no,Ev ts κ .atom i v j no/\nU κ p v no):DO ts κ 6 i j p:=⟨λ_=>h,λh=>ae,λh=>ae,λh=>ae,λh=>ae,λh=>ae⟩
def DO.rule (h:DO ts κ 1 i j p) (a:Gl ts 0 j):∃ v no,Ev ts κ .rule i v j no/\nU κ p v no:=adj (h.2.2.2.2.2 rfl a.up0) a
def QP (h:aw ts j=[41]):Gl ts 0 j:=Or.inr yJ
def QQ (h:aw ts j=[44]):Gl ts 0 j:=Or.inr yJ
def DO.if6 {j f k:Nat} (E:LI κ) (s:aw ts i=[105,102]) (p:aw ts (i+1)=[40]) (J:∃ v no,Ev ts κ .rule (i+1+1) v j no/\nU κ a v no) (q:aw ts j=[44]) (F:∃ v no,Ev ts κ .rule (j+1) v f no/\nU κ b v no) (w:aw ts f=[44]) (G:∃ v no,Ev ts κ .rule (f+1) v k no/\nU κ c v no) (t:aw ts k=[41]) (A:jy cH ts (j+1)=f) (z:jy cH ts (f+1)=k):∃ v no,Ev ts κ .atom i v (k+1) no/\nU κ (.ifs a b c) v no:=by
 obtain ⟨v,no,r,H⟩:=J;rcases H with ⟨rfl,e⟩|⟨rfl,e⟩
 ·have g:=Sx E a v e;by_cases n:v=(2,1)
  ·subst n;obtain ⟨u,D,l,m⟩:=F;refine ⟨u,D,.if1 i j f k u D s p r q l w z t,?_⟩;have y:fO κ (.ifs a b c)=fO κ b:=by
    rw [fO,e];simp only;rw [sw rfl,aB rfl]
   unfold nU;rw [y];exact m
  ·by_cases d:v.1=2
   ·have x:v.2=0:=by
     rcases g with g|⟨_,g|g⟩|g
     ·omega
     ·exact g
     ·exact absurd (Prod.ext d g) n
     ·omega
    obtain ⟨u,C,l,m⟩:=G;refine ⟨u,C,.if0 i j f k v u C s p r q d ae A w l t,?_⟩;have y:fO κ (.ifs a b c)=fO κ c:=by
     rw [fO,e];simp only;rw [sw d,aA n,aB (Prod.ext d x)]
    unfold nU;rw [y];exact m
   ·refine ⟨_,false,.ifn i j f k v false s p r q (Or.inr d) A w z t,Or.inl ⟨rfl,?_⟩⟩;have B:aP 2 v≠(2,1)/\aP 2 v≠(2,0)/\(aP 2 v)=(if v.1=1 then cL 2 else v):=by
     by_cases o:v.1=3
     ·rw [yf o,aA ae];exact ⟨λh=>d (by rw [h]),λh=>d (by rw [h]),rfl⟩
     ·rw [uH d o,aB (by rcases g with g|g|g<;>omega)];exact ⟨ai,ai,rfl⟩
    rw [fO,e];simp only;rw [aA B.1,aA B.2.1,B.2.2]
 ·refine ⟨_,true,.ifn i j f k v true s p r q (Or.inl rfl) A w z t,Or.inr ⟨rfl,?_⟩⟩;rw [fO,e]
def adk {t:By} (h:ij t 2) (a:eh t=t):fO κ (.atom 2 (ej t) (fw t))=if (κ t).1=0 then none else some (κ t):=by
 have b:headD t=false:=by
  rcases h with ⟨_,h⟩|⟨h,_⟩|⟨_,h⟩|h
  ·omega
  ·exact h
  ·omega
  ·exfalso;revert h;simp [eb]
 rw [fO,aA ai,aA ai,aA ai];have e:ej t=t:=by
  unfold ej;rw [b,aA aq,a]
 rw [e]
def bh.lvm {n i j:Nat} {p:Pt} (F:LI κ) (C:∀ t,bm t=true->eh t=t) (h:bh ts n i j p):DO ts κ n i j p:=by
 induction h with
 | atom i k T s B=>
  refine DO.at6 ?_;rcases B with rfl|rfl|rfl|rfl
  ·have A:headD (aw ts i)=true:=by
    rcases s with ⟨h,_⟩|⟨_,_,h⟩|⟨_,h⟩|h
    ·exact h
    ·omega
    ·omega
    ·exfalso;revert h;simp [eb]
   exact ⟨_,false,.num i A,Or.inl ⟨rfl,rfl⟩⟩
  ·have A:headD (aw ts i)=false/\bm (aw ts i)=true:=by
    rcases s with ⟨_,h⟩|⟨u,w,_⟩|⟨_,h⟩|h
    ·omega
    ·exact ⟨u,w⟩
    ·omega
    ·exfalso;revert h;simp [eb]
   refine ⟨_,_,.name i A.1 A.2,?_⟩;have E:=adk (κ:=κ) s (C _ A.2);by_cases D:(κ (aw ts i)).1=0
   ·rw [aB D] at E;exact Or.inr ⟨decide_eq_true D,E⟩
   ·rw [aA D] at E;exact Or.inl ⟨decide_eq_false D,E⟩
  ·have l:=(cQ [116,114,117,101] 7 ai _ _ s).1 rfl;exact ⟨_,false,.tru i l,Or.inl ⟨rfl,rfl⟩⟩
  ·have l:=(cQ [102,97,108,115,101] 8 ai _ _ s).1 rfl;exact ⟨_,false,.fls i l,Or.inl ⟨rfl,rfl⟩⟩
 | jV i j a l _ r=>exact ⟨λh=>ae,λh=>ae,λh=>ae,λ_ g=>Vw l (r.2.2.2.1 rfl g),λh=>ae,λh=>ae⟩
 | neg i j a l _ r=>
  obtain ⟨v,no,u,w⟩:=r.1 rfl;refine DO.at6 ⟨_,no,.neg i j v no l u,?_⟩;rcases w with ⟨rfl,e⟩|⟨rfl,e⟩
  ·exact Nl
  ·exact Gv
 | br i j a l _ z r=>
  obtain ⟨v,no,u,w⟩:=r.rule (QP z);refine DO.at6 ⟨v,no,.br i j v no l u z,?_⟩;rcases w with ⟨rfl,e⟩|⟨rfl,e⟩
  ·exact Nl
  ·exact Gv
 | ifs i P R Q a b c N u L w G K O J m q H=>
  exact DO.at6 (DO.if6 F N u (m.rule (QQ w)) w (q.rule (QQ K)) K (H.rule (QP J)) J ((G.bl cH 0 λ_=>uG 1).jy (QQ K).pass) ((O.bl cH 0 λ_=>uG 1).jy (QP J).pass))
 | up n i j a u M d r=>
  refine ⟨λh=>ae,λh=>?_,λh g=>?_,λh g=>?_,λh g=>?_,λh g=>?_⟩
  ·subst h;exact TL.up (λi j k v v' no x=>Ev.product i j k v v' no x) (ahj (r.1 rfl))
  ·subst h;exact TL.up (λi j k v v' no x=>Ev.sum i j k v v' no x) ((r.2.1 rfl).fin g.no5)
  ·subst h;exact adh (d.first ae) ((r.2.2.1 rfl g.up2).fin (Gl.no4 (Or.inl g))) g.no3
  ·subst h;exact TG.up (FP (r.2.2.2.1 rfl g))
  ·subst h;exact TG.up (LM (r.2.2.2.2.1 rfl g.up1) g)
 | more n i j Z k a b u M L f s G m q=>
  have C:SC (λ_=>false) n:=λt l=>by cases l
  have y:∀ S,SC S n->Bl ts S 0 j 0 Z:=λS hs=>(Bl.one (l9 f) (λ_=>(vu f hs).1) (vu f C).2.1 (vu f C).2.2).t (G.bl S 0 λ_=>hs.up ae);refine ⟨λh=>ae,λh=>?_,λh g=>?_,λh g=>?_,λh g=>?_,λh g=>?_⟩
  ·subst h;exact TL.more rfl ae (m.2.1 rfl) f s (ahj (q.1 rfl)) (y _ (uG 5))
  ·subst h;exact TL.more rfl ae (m.2.2.1 rfl (Gl.s4 f)) f s ((q.2.1 rfl).fin g.no5) (y _ (uG 4))
  ·subst h;exact QN (L.first ai) ((m.2.2.1 rfl (Gl.s3 f)).fin (Gl.no4 (Or.inr f))) f s ((q.2.2.1 rfl g.up2).fin (Gl.no4 (Or.inl g))) (y _ (uG 3))
  ·subst h;have l:aw ts j=[97,110,100]:=by
    rcases dI f with ⟨h,_⟩|⟨_,h⟩|⟨h,_⟩|⟨h,_⟩|⟨h,_⟩
    ·omega
    ·exact h
    ·omega
    ·omega
    ·omega
   have B:=(cQ [97,110,100] 4 ai _ _ s).2 l;subst B;exact TG.more (o:=false) l F (m.2.2.2.2.1 rfl (Gl.s2 l)) (FP (q.2.2.2.1 rfl g)) (y _ (LH false 2 λ_=>aG 2))
  ·subst h;have l:aw ts j=[111,114]:=by
    rcases dI f with ⟨_,h⟩|⟨h,_⟩|⟨h,_⟩|⟨h,_⟩|⟨h,_⟩
    ·exact h
    ·omega
    ·omega
    ·omega
    ·omega
   have B:=(cQ [111,114] 5 ai _ _ s).2 l;subst B;exact TG.more (o:=true) l F (m.2.2.2.2.2 rfl (Gl.s1 l)) (LM (q.2.2.2.2.1 rfl g.up1) g) (y _ (LH true 1 λh=>ir))
def bh.ev {j:Nat} {p:Pt} (a:LI κ) (c:∀ t,bm t=true->eh t=t) (h:bh ts 1 0 j p) (b:(G ts)<=j):∃ v no,Ev ts κ .rule 0 v j no/\nU κ p v no:=(h.lvm a c).rule (Or.inl b)
end
section
attribute [local go_sem] idx_eq app_eq
variable {w w' W:zW} {v:zV}
def dw (fs:List RF):List zV:=fs.flatMap λf=>[zG f.nm,zG f.rl,zI f.kd,zI f.n]
def pz (fs:List RF):(dw fs).length=G fs*4:=by
 induction fs with
 | nil=>rfl
 | cons f r a=>simp only [dw,sD,b6,gS,nZ] at a ⊢;omega
def FK (fs:List RF) (f:RF):dw (fs++[f])=dw fs++[zG f.nm,zG f.rl,zI f.kd,zI f.n]:=Hc
def IZ:∀ (fs:List RF) (i:Nat) (f:RF),fs[i]?=some f->(dw fs)[i*4]?=some (zG f.nm)/\(dw fs)[i*4+1]?=some (zG f.rl)/\(dw fs)[i*4+2]?=some (zI f.kd)/\(dw fs)[i*4+3]?=some (zI f.n)
 | [],i,f,h=>oV
 | g::r,0,f,h=>by
  simp at h;subst h;simp [dw]
 | g::r,i+1,f,h=>by
  have:=IZ r i f jP;have e:dw (g::r)=zG g.nm::zG g.rl::zI g.kd::zI g.n::dw r:=Hc;rw [e,show (i+1)*4=i*4+1+1+1+1 from ae];simpa [oJ] using this
def dU.nj {B:Nat} {fs:List RF} (h:w.ownsRow B 131 4 v (G fs) (dw fs)) (j:(G fs)<=1000):dU w v fs:=by
 refine ⟨j,?_⟩;rcases h.2 with ⟨rfl,a⟩|⟨g,c,n,rfl,o,d,u,q,s,r⟩
 ·exact ⟨none,0,by rw [a],Or.inl (oD a)⟩
 ·refine ⟨_,c,rfl,Or.inr ⟨g,0,rfl,(cz.1 d).1,λi f b=>?_⟩⟩;have t:i<(G fs):=(fI.1 b).1;obtain ⟨l,e,k,m⟩:=IZ fs i f b;have p:=pz fs;refine ⟨?_,?_,?_,?_⟩
  ·rw [cS,h.cellAt (i*4) ae,l]
  ·rw [cS,h.cellAt (i*4+1) ae,e]
  ·rw [cS,h.cellAt (i*4+2) ae,k]
  ·rw [cS,h.cellAt (i*4+3) ae,m]
def I0:(prog.info? 131).map (λi=>(i.zero,i.size,i.bytes))=some (some (.agg #[zG [],zG [],zI 0,zI 0]),4,48):=aD
def gv (fs:List RF) (x:By):List RF:=fs.filter λf=>f.nm != x
def afO {fs:List RF} {x:By} {j:Nat} (hj:j<G fs) (h:fs[j].nm=x):gv (fs.take (j+1)) x=gv (fs.take j) x:=Yb
def ac8 {fs:List RF} {x:By} {j:Nat} (hj:j<G fs) (h:fs[j].nm≠x):gv (fs.take (j+1)) x=gv (fs.take j) x++[fs[j]]:=Yb
def uS (fs:List RF) (x:By):(gv fs x).length<=(G fs):=List.length_filter_le _ _
def Ad (fs:List RF) (x:By) (h:dU w v fs):zC prog 183 #[v,zG x] w λr w'=>∃ v',r=.returned v'/\w'.ownsRow w.heap.size 131 4 v' (gv fs x).length (dw (gv fs x))/\zB w w':=by
 obtain ⟨C,F,l,m,t⟩:=fe I0;have J:=I h;obtain ⟨s,a,c,rfl,L⟩:=h;have E:((G fs):Int)<=1000:=a6.2 s;have p:=I s;clear L s;go_in;go_wp2_with fail;go_loopg [5,6] (G fs) (λgk D i wr=>∃ j:Nat,j<=G fs/\(G fs)<=j+gk/\i=zI j/\Hid (wr.ownsRow w.heap.size 131 4 D (gv (fs.take j) x).length (dw (gv (fs.take j) x))/\zB w wr))
 case atStart=>exact XC
 case round=>
  obtain ⟨j,K,z,rfl,HI⟩:=hrel;rcases cC j (G fs) with ee|ee
  ·have N:=eu ee;have eQ:=I (eJ ee z);obtain ⟨_,O,P,A,b⟩:=J.o.next HI.o.2;cases A;rcases b with h0|⟨g,o,rfl,R,b⟩
   ·exact yD
   ·obtain ⟨c0,c1,c2,c3⟩:=b j fs[j] (cU ee);clear b;by_cases hx:fs[j].nm=x
    ·have n:(fs[j].nm == x)=true:=tJ;have HN:Hid (wr.ownsRow w.heap.size 131 4 u5 (gv (fs.take (j+1)) x).length (dw (gv (fs.take (j+1)) x))/\zB w wr):=I (by rw [afO ee hx];exact HI.o);clear hx;go_wp2_with fail;go_roundg (G fs - (j+1))
     case measure=>exact eQ.o.2.1
     case rel=>exact wL
    ·have n:(fs[j].nm == x)=false:=tJ;have y:=I (ac8 ee hx);have e:Hid ((gv (fs.take j) x).length+1<=maxLen/\((gv (fs.take j) x).length+1)*48<=140737488355328):=I (by have M:=uS (fs.take j) x;have Q:=p.o;simp at M;unfold maxLen;omega);clear hx;generalize fs[j]=f at *;go_wp2_with (at_builtin;refine km _ rfl (.tmp 20) (.tmp 25) 111 rfl w.heap.size 131 C (.agg #[zG [],zG [],zI 0,zI 0]) 4 48 underlying111 F l m t rfl ai u5 (gv (fs.take j) x).length (dw (gv (fs.take j) x)) rfl (HI.o.1.alloc _) ⟨wr.heap.size,0,none⟩ 1 1 [zG f.nm,zG f.rl,zI f.kd,zI f.n] rfl rfl (λq u B=>bC wr _ 131 q u B) (λu hu=>ZO) e.o.1 e.o.2 (bf HI.o.2.size aq) ?_;intro v' w2 k d _;apply Hid.o);apply I;have HN:Hid (w2.ownsRow w.heap.size 131 4 v' (gv (fs.take (j+1)) x).length (dw (gv (fs.take (j+1)) x))/\zB w w2):=I (by
      rw [y.o,FK,b6];exact ⟨k,(HI.o.2.alloc HI.o.2.size _).grown d aaQ λq B=>(fJ HI.o.1 q B).1⟩)
     go_wp2_with fail;go_roundg (G fs - (j+1))
     case measure=>exact eQ.o.2.1
     case rel=>exact wL
  ·have H:=eH ee;obtain rfl:j=(G fs):=lT K ee;go_wp2_with fail;go_ret;have h:=HI.o;rw [tq] at h;exact ⟨_,rfl,h.1,h.2⟩
def iu (rs:List RF) (f:RF):List RF:=rs.takeWhile (λg=>Op.bytesLess g.nm f.nm)++f::rs.dropWhile (λg=>Op.bytesLess g.nm f.nm)
def QI {p:RF->Bool}:∀ {rs:List RF} {j:Nat},j<=G rs->(∀ i (h:i<G rs),i<j->p rs[i]=true)->(∀ h:j<G rs,p rs[j]=false)->rs.take j=rs.takeWhile p/\rs.drop j=rs.dropWhile p
 | [],j,_,_,_=>aq
 | g::r,0,_,_,h=>by
  have:=h aq;simp at this;simp [this]
 | g::r,j+1,hj,a,c=>by
  have b:=a 0 aq ae;have d:=QI (p:=p) (rs:=r) (j:=j) oT (λi h e=>by have:=a (i+1) jP ae;simpa using this) (λh=>by have:=c jP;simpa using this);simp at b;simp [b,d]
def JI (a b:List RF):dw (a++b)=dw a++dw b:=Hc
def FM {B:Nat} {rs:List RF} {g c:Nat} (h:w.ownsRow B 131 4 (zS g (G rs) c) (G rs) (dw rs)) {k:Nat} {u:zV} (a:(dw rs)[k]?=some u):w.cell? ⟨g,k,none⟩=some u:=by
 have b:k<(dw rs).length:=(fI.1 a).1;rw [pz] at b;rw [h.cellAt k ae,a]
def LF {rs:List RF}:∀ u,u∈dw rs->u.oneCell'=true:=by
 intro u a;unfold dw at a;obtain ⟨f,_,a⟩:=List.mem_flatMap.1 a;simp at a;rcases a with rfl|rfl|rfl|rfl<;>rfl
def Vr (rs:List RF) (j k:Nat) (u:zV) (h:(dw (rs.take j))[k]?=some u):(dw rs)[k]?=some u:=by
 have a:k<(dw (rs.take j)).length:=(fI.1 h).1;have e:dw rs=dw (rs.take j)++dw (rs.drop j):=aad;rw [e,sy a];exact h
def Vs (rs:List RF) (j k:Nat) (u:zV) (b:j<=G rs) (h:(dw (rs.drop j))[k]?=some u):(dw rs)[j*4+k]?=some u:=by
 have e:dw rs=dw (rs.take j)++dw (rs.drop j):=aad;have a:(dw (rs.take j)).length=j*4:=by rw [pz];simp;omega
 rw [e,qx ae,a,show j*4+k - j*4=k from ae];exact h
def FN {B j m:Nat} {rs:List RF} {x s:By} (a:rs.take j=rs.takeWhile (λg=>Op.bytesLess g.nm x)) (c:rs.drop j=rs.dropWhile (λg=>Op.bytesLess g.nm x)) (d:j<=G rs) (h:w.ownsRow B 131 4 v m ([]++dw (rs.take j)++[zG x,zG s,zI 0,zI 0]++dw (rs.drop j))):w.ownsRow B 131 4 v (iu rs ⟨x,s,0,0⟩).length (dw (iu rs ⟨x,s,0,0⟩)):=by
 have e:dw (iu rs ⟨x,s,0,0⟩)=[]++dw (rs.take j)++[zG x,zG s,zI 0,zI 0]++dw (rs.drop j):=by
  unfold iu;rw [<- a,<- c,JI];simp [dw]
 have b:=h.1;rw [<- e,pz] at b;rw [e,show (iu rs ⟨x,s,0,0⟩).length=m from ae];exact h
def BQ (fs:List RF) (x s:By) (h:dU w v fs):zC prog 182 #[v,zG x,zG s] w λr w'=>∃ v',r=.returned v'/\w'.ownsRow w.heap.size 131 4 v' (iu (gv fs x) ⟨x,s,0,0⟩).length (dw (iu (gv fs x) ⟨x,s,0,0⟩))/\zB w w':=by
 have HR:=I (Ad fs x h);have R:=I (bf (uS fs x) h.1);clear h;generalize gv fs x=rs at *;go_in;go_wp2_with (go_at_call 183;refine mo HR.o ?_;rintro e w1 ⟨v1,rfl,d,J⟩;have Y:=I d;have y:=I J;clear d J);apply I;have HF:=I (dU.nj Y.o R.o);obtain ⟨hn,a,c,rfl,hc⟩:=HF.o;have U:((G rs):Int)<=1000:=a6.2 hn;clear hc hn
 go_upto_block 0 with fail
 go_cut [9] (λs9 wc=>∃ j:Nat,j<=G rs/\s9=zI j/\wc=w1/\Hid (rs.take j=rs.takeWhile (λg=>Op.bytesLess g.nm x)/\rs.drop j=rs.dropWhile (λg=>Op.bytesLess g.nm x)))
 case first=>
  go_wp2_with fail;go_loopg [9] (G rs) (λgk i wr=>∃ j:Nat,j<=G rs/\(G rs)<=j+gk/\i=zI j/\wr=w1/\Hid (∀ i (h:i<G rs),i<j->Op.bytesLess rs[i].nm x=true))
  case atStart=>exact ⟨0,bE _,jD (cS _).symm,rfl,rfl,I λi _ h=>absurd h (pH i)⟩
  case round=>
   obtain ⟨j,hj,W,rfl,rfl,Z⟩:=hrel;rcases cC j (G rs) with ee|ee
   ·have hlt:=eu ee;have eQ:=I (eJ ee W);obtain ⟨_,a',c',hv',B⟩:=HF.o;cases hv';rcases B with h0|⟨g,o,rfl,hg,B⟩
    ·exact yD
    ·obtain ⟨c0,c1,c2,c3⟩:=B j rs[j] (cU ee);clear B;cases hb:Op.bytesLess rs[j].nm x with
     | true=>
      have HN:Hid (∀ i (h:i<G rs),i<j+1->Op.bytesLess rs[i].nm x=true):=I λi h z=>by
       rcases cC i j with O|O
       ·exact Z.o i h O
       ·obtain rfl:i=j:=ae;exact hb
      go_wp2_with fail;go_roundg (G rs - (j+1))
      case measure=>exact eQ.o.2.1
      case rel=>exact Nc
     | false=>
      have HN:=I (QI (p:=λg=>Op.bytesLess g.nm x) hj Z.o λ_=>hb);exact Zc
   ·have tA:=eH ee;have HN:=I (QI (p:=λg=>Op.bytesLess g.nm x) hj Z.o λh=>absurd h (Nat.not_lt.2 ee));exact Zc
 case rest=>
 obtain ⟨j,hj,rfl,rfl,N⟩:=hcut;have hjz:(j:Int)<=((G rs):Int):=a6.2 hj;rcases Y.o.2 with ⟨T,h0⟩|⟨g,c',cur,T,O,h2,h3,h4,h5,h6⟩
 ·have H:=oD h0;subst H;cases T;obtain rfl:j=0:=Nat.le_zero.1 hj;obtain ⟨C,z,l,m,n⟩:=fe I0;go_wp2_with (at_builtin;refine Bv rfl (.tmp 28) (.tmp 31) 111 rfl wc.heap.size 131 C 4 underlying111 z (zN) 0 [] rfl (eW _ _ _ _) rfl ?_;apply Hid.o);apply I;go_wp2_with (at_builtin;refine km _ rfl (.tmp 33) (.tmp 37) 111 rfl wc.heap.size 131 C (.agg #[zG [],zG [],zI 0,zI 0]) 4 48 underlying111 z l m n rfl ai (zN) 0 [] rfl (eW _ _ _ _) ⟨wc.heap.size,0,none⟩ 1 1 [zG x,zG s,zI 0,zI 0] rfl rfl (λq u hq=>bC wc _ 131 q u hq) (λu hu=>Zw) ai ai aq ?_;intro v3 w3 d b _;apply Hid.o);apply I;have k:=I d;have f:Hid (zB wc w3):=I ((bZ _).grown b aq λq hq=>pK);clear d b;go_wp2_with (at_builtin;refine Bv rfl (.tmp 39) (.tmp 42) 111 rfl wc.heap.size 131 C 4 underlying111 z v3 (0+1) ([]++[zG x,zG s,zI 0,zI 0]) rfl k.o rfl ?_;apply Hid.o);apply I;go_wp2_with fail;go_ret;exact ⟨v3,rfl,dS k.o y.o.size,y.o.t (f.o.m y.o.size)⟩
 ·cases T;have M:=I Y.o;have V:(j:Int)<=(c:Int):=a6.2 (bf hj h3);have ee:¬ (c:Int)<(j:Int):=Int.not_lt.2 V;have hj0:(0:Int)<=(j:Int):=mF j;have HL0:Hid (G rs<=1000):=I (a6.1 U);have F:Hid (0+j<=maxLen/\(0+j)*48<=140737488355328):=I aaF;clear O h2 h4 h5 h6;obtain ⟨C,z,l,m,n⟩:=fe I0;go_wp2_with (at_builtin;refine km _ rfl (.tmp 28) (.tmp 31) 111 rfl wc.heap.size 131 C (.agg #[zG [],zG [],zI 0,zI 0]) 4 48 underlying111 z l m n rfl ai (zN) 0 [] rfl (eW _ _ _ _) ⟨g,0,none⟩ j c (dw (rs.take j)) rfl (by rw [pz];simp;omega) (λq u hq=>by rw [show (⟨g,0,none⟩:zD).add q=⟨g,q,none⟩ by cases q<;>simp [Addr.add]];exact FM M.o (Vr rs j q u hq)) LF F.o.1 F.o.2 (aG _) ?_;intro v2 w2 d b _;apply Hid.o);apply I;have L:=I d;have A:Hid (zB wc w2):=I ((aM _ _).grown b (aG _) λq hq=>pK);clear d b;have t:Hid (0+j+1<=maxLen/\(0+j+1)*48<=140737488355328/\0+j+1+(G rs - j)<=maxLen/\(0+j+1+(G rs - j))*48<=140737488355328):=I aaF;go_wp2_with (at_builtin;refine km _ rfl (.tmp 33) (.tmp 37) 111 rfl wc.heap.size 131 C (.agg #[zG [],zG [],zI 0,zI 0]) 4 48 underlying111 z l m n rfl ai v2 (0+j) ([]++dw (rs.take j)) rfl (L.o.alloc _) ⟨w2.heap.size,0,none⟩ 1 1 [zG x,zG s,zI 0,zI 0] rfl rfl (λq u hq=>bC w2 _ 131 q u hq) (λu hu=>Zw) t.o.1 t.o.2.1 (bf A.o.size aq) ?_;intro v3 w3 d b _;apply Hid.o);apply I;have k:=I d;have f:Hid (zB wc w3):=I ((A.o.alloc A.o.size _).grown b (by simp;have:=A.o.size;omega) λq hq=>(fJ L.o q hq).1);clear d b;have P:=I (aZ M.o f.o);have K:Hid (∀ q u,(dw (rs.drop j))[q]?=some u->w3.cell? ((⟨g,j*4,none⟩:zD).add q)=some u):=I λq u hq=>by rw [addr_add];exact FM P.o (Vs rs j q u hj hq)
  have X:Hid ((dw (rs.drop j)).length=(G rs - j)*4):=I (by rw [pz];simp);by_cases S:c=j
  ·have Q:(G rs)=j:=lT (S▸h3) hj;have HD:=I (show rs.drop j=[] by rw [<- Q];exact List.drop_length);have hz:(G rs) - j=0:=ae;have hz':c - j=0:=ae;go_wp2_with (at_builtin;refine km _ rfl (.tmp 39) (.tmp 42) 111 rfl wc.heap.size 131 C (.agg #[zG [],zG [],zI 0,zI 0]) 4 48 underlying111 z l m n rfl ai v3 (0+j+1) ([]++dw (rs.take j)++[zG x,zG s,zI 0,zI 0]) rfl k.o ⟨g,0,none⟩ 0 0 [] rfl rfl (λq u hq=>by simp at hq) (λu hu=>by simp at hu) t.o.1 t.o.2.1 f.o.size ?_;intro v4 w4 d b _;apply Hid.o);apply I;have E:Hid (zB wc w4):=I (f.o.grown b f.o.size λq hq=>(fJ k.o q hq).1);have D:=I (FN (rs:=rs) (x:=x) (s:=s) N.o.1 N.o.2 hj (by rw [HD.o];simpa [dw] using d));clear d b;go_wp2_with fail;go_ret;exact ⟨v4,rfl,dS D.o y.o.size,y.o.t (E.o.m y.o.size)⟩
  ·go_wp2_with (at_builtin;refine km _ rfl (.tmp 39) (.tmp 42) 111 rfl wc.heap.size 131 C (.agg #[zG [],zG [],zI 0,zI 0]) 4 48 underlying111 z l m n rfl ai v3 (0+j+1) ([]++dw (rs.take j)++[zG x,zG s,zI 0,zI 0]) rfl k.o ⟨g,j*4,none⟩ (G rs - j) (c - j) (dw (rs.drop j)) rfl X.o (K.o) LF t.o.2.2.1 t.o.2.2.2 f.o.size ?_;intro v4 w4 d b _;apply Hid.o);apply I;have D:=I (FN (rs:=rs) (x:=x) (s:=s) N.o.1 N.o.2 hj d);have E:Hid (zB wc w4):=I (f.o.grown b f.o.size λq hq=>(fJ k.o q hq).1);clear d b;go_wp2_with fail;go_ret;exact ⟨v4,rfl,dS D.o y.o.size,y.o.t (E.o.m y.o.size)⟩
variable {w1:zW} {m:By} {P C:Nat->Prop}
def ml (w:zW) (C:Nat->Prop) (v:zV) (m:By):Prop:=∃ a n c,v=.slice a n c/\n<=10000/\(n=0\/∃ g,a=some ⟨g,0,none⟩/\C g/\g<w.heap.size/\∀ i,i<n->w.cell? ⟨g,i,none⟩=some (zG m))
def ml.ks (h:ml w C v m) (d:Ks P w w') (e:∀ q,C q->¬ P q):ml w' C v m:=by
 obtain ⟨f,n,c,rfl,k,h⟩:=h;refine ⟨f,n,c,rfl,k,h.imp id ?_⟩;rintro ⟨g,rfl,b,a,j⟩;exact ⟨g,rfl,b,bG a d.size,λi l=>(aS (d.block g a (e g b)) i).t (j i l)⟩
def ml.wide {a:Nat->Prop} (h:ml w C v m) (e:∀ q,C q->a q):ml w a v m:=by
 obtain ⟨f,n,c,rfl,j,h⟩:=h;refine ⟨f,n,c,rfl,j,h.imp id ?_⟩;rintro ⟨g,rfl,b,d,i⟩;exact ⟨g,rfl,e g b,d,i⟩
def xU (h:ml w C v m):zC prog 58 #[v,zG m] w λr w'=>r=.returned (.bool true)/\w'=w:=by
 obtain ⟨q,n,c,rfl,e,h⟩:=h;have l:=I h;have s:(n:Int)<=10000:=a6.2 e;have t:(m == m)=true:=aq;clear h e;go_in;go_wp2_with fail;go_loopg [5] n (λgk i wr=>∃ j:Nat,j<=n/\n<=j+gk/\i=zI j/\wr=w)
 case atStart=>exact ⟨0,bE _,jD (cS _).symm,rfl,rfl⟩
 case round=>
  obtain ⟨j,p,d,rfl,rfl⟩:=hrel;rcases cC j n with a|a
  ·have o:=eu a;have b:=I (eJ a d);obtain ⟨g,rfl,f⟩:∃ g,q=some ⟨g,0,none⟩/\wr.cell? ⟨g,j,none⟩=some (zG m):=by
    rcases l.o with h|⟨g,rfl,_,_,f⟩
    ·rw [h] at a;exact absurd a (pH _)
    ·exact ⟨g,rfl,f j a⟩
   go_wp2_with fail;go_roundg (n - (j+1))
   case measure=>exact b.o.2.1
   case rel=>exact ⟨j+1,b.o.2.2,b.o.1,aq,rfl⟩
  ·have k:=eH a;obtain rfl:j=n:=lT p a;exact Ni
structure Bk where
 l:zV
 a:zV
 b:zV
 c:zV
 m:By
def Bk.cells (x:Bk):List zV:=[x.l,x.a,x.b,x.c,zG x.m]
def xV (a:List Bk):List zV:=a.flatMap Bk.cells
def RO:∀ (a:List Bk) (j:Nat) (hj:j<G a) (k:Nat),k<5->(xV a)[j*5+k]?=(a[j].cells)[k]?
 | x::r,0,_,k,b=>by
  rw [xV,sD,sy NU];simp
 | x::r,j+1,hj,k,b=>by
  rw [xV,sD,qx NU];have:=RO r j oT k b;rw [<- xV,show (j+1)*5+k - G x.cells=j*5+k from NU,this];simp
def sJ (w:zW) (C:Nat->Prop) (x:Bk):Prop:=ml w C x.l x.m/\ml w C x.a x.m/\ml w C x.b x.m/\ml w C x.c x.m
def sJ.ks {x:Bk} (h:sJ w C x) (b:Ks P w w') (a:∀ q,C q->¬ P q):sJ w' C x:=⟨h.1.ks b a,h.2.1.ks b a,h.2.2.1.ks b a,h.2.2.2.ks b a⟩
def sJ.wide {x:Bk} {b:Nat->Prop} (h:sJ w C x) (a:∀ q,C q->b q):sJ w b x:=⟨h.1.wide a,h.2.1.wide a,h.2.2.1.wide a,h.2.2.2.wide a⟩
end
end Go.Proofs.YtihgojcfpnhelaaGreatDoor
