import Derived.Test.YtihgojcfpnhelaaGreatDoorJc
set_option maxRecDepth 100000
set_option maxHeartbeats 4000000
set_option linter.all false
namespace Go.Proofs.YtihgojcfpnhelaaGreatDoor
open Value renaming slice->B,agg->zd,tuple->zp,bool->zF,pointer->zK
open Obj renaming cells->zM
open Ending renaming returned->zP
open Option renaming some->A
open Or renaming inl->zR,inr->zZ
open Go renaming World->zW,Value->zV,Calls->zC,Addr->zD
open Go.RowKit Go.Proofs.Tryz
open List renaming length→G
section
def FA (f:Fd):By × By:=(f.nm,ai f.p)
def nf (k:By × By):By:=k.1++[32,61,32]++k.2++[10]
def Lh:∀ {l:List (By × By)},(l.map Prod.fst).Nodup->∀ {a b:By × By},a∈l->b∈l->a.1=b.1->a=b
 | [],_,_,_,h,_,_=>by simp at h
 | c::r,f,a,b,g,d,e=>by
  simp only [fL,jB] at f;rcases bQ.1 g with rfl|g
  .rcases bQ.1 d with rfl|d
   .rfl
   .exact absurd (e▸iJ d) f.1
  .rcases bQ.1 d with i|d
   .exact absurd (i▸e▸iJ g) f.1
   .exact Lh f.2 g d e
def U5 {Q0 Q4:List (By × By)} (c:Q0.Perm Q4) (e:Q0.Pairwise λf g=>¬ g.1<f.1) (h:Q4.Pairwise λf g=>¬ g.1<f.1) (k:(Q0.map Prod.fst).Nodup):Q0=Q4:=
 List.Perm.eq_of_pairwise (le:=λf g=>¬ g.1<f.1) (λa b l i d j=>Lh k l (c.mem_iff.2 i) (List.le_antisymm (List.not_lt.1 d) (List.not_lt.1 j))) e h c
def Li (fs:List (Nat × Fd)):sK fs=((kS fs).map λg=>FA g.2).flatMap nf:=by
 unfold sK;rw [List.flatMap_map];rfl
def U6 {fs a:List (Nat × Fd)} (h:(fs.map λg=>g.2.nm).Nodup) (e:(fs.map λg=>FA g.2).Perm (a.map λg=>FA g.2)):sK fs=sK a:=by
 obtain ⟨b,C⟩:=nE fs;obtain ⟨f,D⟩:=nE a;have d:=b.map λg=>FA g.2;have c:=f.map λg=>FA g.2;rw [Li,Li];congr 1;refine U5 ((d.t e).t c.symm) ?_ ?_ ?_
 .rw [jz];exact C
 .rw [jz];exact D
 .have:((kS fs).map λg=>g.2.nm).Nodup:=((b.map λg=>g.2.nm).nodup_iff).2 h;rw [fM];exact this
noncomputable def Pu (fs:List Fd):By:=sK (aT fs)
def E8 {C:Type} (f:Fd->C) (fs:List Fd):(aT fs).map (λg=>f g.2)=fs.map f:=by
 have:=eL (List.map f) (cW fs);rw [fM] at this;exact this
def nv {gs:List (Nat × Fd)} (a:(gs.map λg=>g.2.nm).Nodup):sK gs=Pu (gs.map Prod.snd):=by
 refine U6 a (List.Perm.of_eq ?_);rw [E8 FA,fM];rfl
variable {e k:Nat} {F:Nat->Prop} {w w' W w1 w2 w3 Z:zW} {a:Ab}
def eG.xW (h:eG w e F k a):kt a.fs:=by
 obtain ⟨S,D,E,l,g,f,d,b,n,c,C,m,i,j⟩:=h;rw [C.fs];exact ⟨C.gs.gf,by have:=C.gs.len;simpa [bg.fs] using this,C.gs.xX⟩
def kt.nd {fs:List Fd} (h:kt fs):(fs.map λg=>g.nm).Nodup:=by
 exact h.gf.nn
def eG.list (h:eG W e F k a) (p:Env W) (i:Option zD) (d j:Nat):zC prog 70 #[zJ e,j7 11 i d j 0 [] 0 none 0 0] W (uY 0 (Pu a.fs) 0 0 [] W):=by
 refine (UF e i d j (Pu a.fs) W λo b=>?_).m ?_
 .have g:=h.xW;obtain ⟨S,u,c,D,n,l,v,q,s⟩:=(h.next b).ui;refine (GV e c u D o n (p.next b) q s (by omega) λf t=>?_).m ?_
  .have:=(g.xX f.2 (l▸iJ t)).2;omega
  .rintro r w' ⟨rfl,C⟩;have m:=g.nd;rw [<- l,fM] at m;rw [nv m,l];exact ⟨rfl,C⟩
 .rintro r w' ⟨rfl,C⟩;exact ⟨none,0,0,rfl,rfl,eW _ _ _ _,C⟩
end
section
structure Rp where
 er:Int
 at_:Int
 tx:By
 nm:List By
 kd:Int
 nn:Int
def vE (a:Ab) (b:AR):Rp × Ab:=(⟨(b.code:Int),0,[],b.names,0,0⟩,PZ a b)
def zn (x:Nat × Ab):Rp × Ab:=(⟨(x.1:Int),0,[],[],0,0⟩,x.2)
noncomputable def bT (a:Ab):Ln->Rp × Ab
 | .err b C p=>(⟨C,p,[],[],0,0⟩,if rT b=true then ma a else a)
 | .set x p=>vE a (mK a.fs x p)
 | .del x=>vE a (mL a.fs x)
 | .ren x y=>vE a (kr a.fs x y)
 | .begin=>zn (oq a)
 | .kW=>zn (mh a)
 | .cancel=>zn (mg a)
 | .pS=>zn (mb a)
 | .pT=>zn (mf a)
 | .value x=>(⟨(pX a.fs x).1,0,[],[],(pX a.fs x).2.1,(pX a.fs x).2.2⟩,a)
 | .rule x=>(⟨(vU a.fs x).1,0,(vU a.fs x).2,[],0,0⟩,a)
 | .list=>(⟨0,0,Pu a.fs,[],0,0⟩,a)
 | .order=>(⟨0,0,[],a.fs.map λf=>f.nm,0,0⟩,a)
variable {e k:Nat} {F T:Nat->Prop} {w w' W w1 w2 w3 Z:zW} {a:Ab} {nm:List By} {bn:Option zD} {ln cn:Nat} {s:By}
def jI.more {b:Nat} (h:jI F T e k a nm w bn ln cn w') (j:k<=b):jI F T e b a nm w bn ln cn w':=by
 obtain ⟨d,g,l,c,f,i⟩:=h;exact ⟨d,g,l,c,f.more j,i⟩
def sf (F:Nat->Prop) (e k:Nat) (a:Ab) (l:Ln) (w:zW) (r:Ending) (w':zW):Prop:=
 ∃ bn ln cn,r=zP (Ik (bT a l).1.er (bT a l).1.at_ (bT a l).1.tx bn ln cn (bT a l).1.kd (bT a l).1.nn)/\jI F (λ_=>False) e (k+1) (bT a l).2 (bT a l).1.nm w bn ln cn w'
def eG.aml (h:eG w e F k a) (hk:k+1<1000000000000) (QV:Env Z) (T:jZ Z) (Q4:zB Z w) (hF:∀ q,F q->Z.heap.size<=q) (s:By) (l:Ln) (E:l.Ok) (hs:∀ r,ew s r->r=l.r) :
  zC prog 20 #[zJ e,Q s] w (sf F e k a l w):=by
 have D:=h.xW;have Q6:=QV.next Q4;have kd:=T.next QV Q4;have h2:zB w (w.alloc bM):=(aM _ _).alloc (aG _) bM;have e1:(w.alloc bM).heap.size=w.heap.size+1:=(by simp);have f:zC prog 46 #[Q s] (w.alloc bM) λr w1=>sL l.r (w.alloc bM) r w1/\Below (w.alloc bM).heap.size (w.alloc bM) w1:=by
  refine (Dt s (w.alloc bM) (Q6.next h2) (kd.next Q6 h2)).m ?_;rintro r w1 ⟨nn,o,H,P⟩;rw [hs nn o] at H;exact ⟨H,P⟩
 have QT:∀ {w1 W:zW},Below (w.alloc bM).heap.size (w.alloc bM) w1->zB w1 W->Env W:=λo H=>((Q6.next h2).next o).next H;have Q0:∀ (O:AR) (j:bT a l=vE a O),(∀ U n,O=.ok U n->kt U)->(∀ c n,O=.err c n->c≠0)->(∀ r w1,sL l.r (w.alloc bM) r w1->Below (w.alloc bM).heap.size (w.alloc bM) w1->x6 e F a O w r w1)->zC prog 20 #[zJ e,Q s] w (sf F e k a l w):=λO j o H P=>by
  refine (h.afb hk s O o H (f.m λr w1 C=>P r w1 C.1 C.2)).m ?_;rintro r w' ⟨bn,ln,cn,rfl,d⟩;unfold sf;rw [j];exact ⟨bn,ln,cn,rfl,d⟩
 have m:∀ (t:Int) (N:Nat) (x:Nat × Ab),l.r=.ok t [] none->bT a l=zn x->rT t=false->pk t N->(∀ W,eG W e F k a->zC prog N #[zK (A (X e 1))] W (uk e k F x W))->zC prog 20 #[zJ e,Q s] w (sf F e k a l w):=λt N x hW j L hf hX=>by
  refine (h.afd s t L N hf x hX (f.m ?_)).m ?_
  .rintro r w1 ⟨o,H⟩;rw [hW] at o;obtain ⟨i,ln,cn,rfl,_⟩:=o;exact ⟨by rw [<- e1];exact H,i,ln,cn,rfl⟩
  .rintro r w' ⟨rfl,d⟩;unfold sf;rw [j];exact ⟨none,0,0,rfl,d.more (by omega)⟩
 have v:∀ (t:Int) (R:List By) (S:Int) (y:By) (Y p:Int) (nm:List By),l.r=.ok t R none->bT a l=(⟨S,0,y,nm,Y,p⟩,a)->(t=9\/t=10\/t=11\/t=12)->(∀ w1 i ln cn,w1.ownsRow (w.alloc bM).heap.size 9 1 (B i ln cn) (G R) (ab R)->Below (w.alloc bM).heap.size (w.alloc bM) w1->∀ W,zB w1 W->eG W e F k a->zC prog 70 #[zJ e,j7 t i ln cn 0 [] 0 none 0 0] W (uY S y Y p nm W))->zC prog 20 #[zJ e,Q s] w (sf F e k a l w):=λt R S y Y p nm hW j L hT=>by
  refine (h.afe s t L S y Y p nm (f.m ?_)).m ?_
  .rintro r w1 ⟨o,H⟩;rw [hW] at o;obtain ⟨i,ln,cn,rfl,b⟩:=o;exact ⟨by rw [<- e1];exact H,i,ln,cn,rfl,hT w1 i ln cn b H⟩
  .rintro r w' ⟨bn,ln,cn,rfl,d⟩;unfold sf;rw [j];exact ⟨bn,ln,cn,rfl,d.more (by omega)⟩
 have er:∀ (x:By) (w1:zW) (i:Option zD) (ln cn:Nat),w1.ownsRow (w.alloc bM).heap.size 9 1 (B i ln cn) [x].length (ab [x])->∃ g,i=A (yh g)/\ln=1/\g<w1.heap.size/\w1.cell? (yh g)=A (Q x):=λx w1 i ln cn b=>by
  obtain ⟨g,tx,L,V,Q5⟩:=b.form (by simp);simp at L;obtain ⟨rfl,rfl,rfl⟩:=L;have M:=b.cellAt 0 (by simp);exact ⟨g,rfl,rfl,Q5,by simpa [ab] using M⟩
 cases l with
 | err t S fs=>
  refine (h.PW (by omega) s t S fs E (f.m ?_)).m ?_
  .rintro r w1 ⟨o,H⟩;exact ⟨by rw [<- e1];exact H,o⟩
  .rintro r w' ⟨rfl,d⟩;exact ⟨none,0,0,rfl,d.more (by omega)⟩
 | set x fs=>
  obtain ⟨o,H,P,h4⟩:=E;exact Q0 _ rfl (λU n j=>D.set H o j) (λc n j=>UC j) λr w1 C z=>KY C z H P h4
 | del x=>exact Q0 _ rfl (λU n j=>D.del j) (λc n j=>UD j) λr w1 C z=>KZ C z
 | ren x aa=>
  obtain ⟨o,H⟩:=E;exact Q0 _ rfl (λU n j=>D.ren H j) (λc n j=>UE j) λr w1 C z=>K0 QV Q4 hF C z o.1 (by have:=H.2;omega)
 | begin=>exact m 4 _ _ rfl rfl rfl Ip λW K=>K.afc
 | kW=>exact m 5 _ _ rfl rfl rfl Em λW K=>K.aci (by omega)
 | cancel=>exact m 6 _ _ rfl rfl rfl Eo λW K=>K.ach (by omega)
 | pS=>exact m 7 _ _ rfl rfl rfl K1 λW K=>K.pS
 | pT=>exact m 8 _ _ rfl rfl rfl K2 λW K=>K.pT
 | value x=>
  refine v 9 [x] _ _ _ _ _ rfl rfl (zR rfl) λw1 i ln cn b z W K u=>?_;obtain ⟨g,rfl,rfl,V,M⟩:=er x w1 i ln cn b;exact u.value ((nu (a:=yh g) (K.block g V)).t M) (by have:=K.size;omega)
 | rule x=>
  refine v 10 [x] _ _ _ _ _ rfl rfl (zZ (zR rfl)) λw1 i ln cn b z W K u=>?_;obtain ⟨g,rfl,rfl,V,M⟩:=er x w1 i ln cn b;exact u.rule (QT z K) ((nu (a:=yh g) (K.block g V)).t M) (by have:=K.size;omega)
 | list=>exact v 11 [] _ _ _ _ _ rfl rfl (zZ (zZ (zR rfl))) λw1 i ln cn b z W K u=>u.list (QT z K) i ln cn
 | order=>exact v 12 [] _ _ _ _ _ rfl rfl (zZ (zZ (zZ rfl))) λw1 i ln cn b z W K u=>u.order i ln cn
def Fe (a:Env Z) (b:jZ Z) (s:By):∃ l:Ln,ew s l.r/\l.Ok/\∀ r,ew s r->r=l.r:=by
 obtain ⟨_,_,_,⟨r,d,_⟩,_⟩:=Dt s Z a b [];obtain ⟨l,rfl,c⟩:=Cd d;exact ⟨l,d,c,λr h=>h.uniq d⟩
end
section
structure En where
 e:Nat
 k:Nat
 a:Ab
structure jH (Z:zW) (T:Nat->Prop) (E:List En) (w:zW):Prop where
 low:zB Z w
 P5:∀ q,T q->q<w.heap.size
 y9:∃ F:Nat->Nat->Prop,(∀ i (h:i<G E),eG w E[i].e (F i) E[i].k E[i].a)/\(∀ i j q,F i q->F j q->i=j)/\∀ i q,F i q->Z.heap.size<=q/\¬ T q/\q<w.heap.size
structure Kt (T:Nat->Prop) (w w':zW):Prop where
 size:w.heap.size<=w'.heap.size
 block:∀ q,T q->w'.heap[q]?=w.heap[q]?
variable {Z w w' W w1 w2:zW} {T U:Nat->Prop} {E:List En} {e k i:Nat} {a:Ab} {s:By} {l:Ln}
def Kt.refl (T:Nat->Prop) (w:zW):Kt T w w:=⟨aG _,λ_ _=>rfl⟩
def Kt.t (h:Kt T w w1) (a:Kt T w1 w2):Kt T w w2:=⟨bf h.size a.size,λq b=>(a.block q b).t (h.block q b)⟩
def jH.empty (Z:zW):jH Z (λ_=>False) [] Z:=⟨aM _ _,λ_ h=>h.elim,λ_ _=>False,λi h=>(by simp at h),λ_ _ _ h=>h.elim,λ_ _ h=>h.elim⟩
def jH.keep {P:Nat->Prop} (h:jH Z T E w) (c:Ks P w w') (f:∀ q,P q->T q\/w.heap.size<=q) (k:∀ q,P q->Z.heap.size<=q):jH Z T E w':=by
 obtain ⟨e,g,F,j,l,b⟩:=h;refine ⟨e.t (c.low k e.size),λq a=>bG (g q a) c.size,F,λi n=>(j i n).keep c λq a m=>?_,l,λi q a=>⟨(b i q a).1,(b i q a).2.1,bG (b i q a).2.2 c.size⟩⟩;rcases f q m with d|d
 .exact (b i q a).2.1 d
 .have:=(b i q a).2.2;omega
def jH.next (h:jH Z T E w) (a:zB w w'):jH Z T E w':=h.keep (P:=λ_=>False) (Ks.of a) (λ_ h=>h.elim) λ_ h=>h.elim
def jH.less (h:jH Z T E w) (c:∀ q,U q->T q):jH Z U E w:=by
 obtain ⟨j,d,F,e,g,b⟩:=h;exact ⟨j,λq a=>d q (c q a),F,e,g,λi q a=>⟨(b i q a).1,λf=>(b i q a).2.1 (c q f),(b i q a).2.2⟩⟩
def jH.xW (h:jH Z T E w) (b:i<G E):kt (E[i].a).fs:=by
 obtain ⟨e,d,F,a,c,f⟩:=h;exact (a i b).xW
def nw {C:Type} (l:List C) (i:Nat) (x:C) (j:Nat) (h:j<(l.set i x).length):(l.set i x)[j]=if i=j then x else l[j]'(by simpa using h):=tj ..
def jH.res {F:Nat->Nat->Prop} {nm:List By} {bn:Option zD} {ln cn:Nat} (h:jH Z T E w) (D:i<G E) (y:∀ i (h:i<G E),eG w E[i].e (F i) E[i].k E[i].a) (r:∀ i j q,F i q->F j q->i=j) (f:∀ i q,F i q->Z.heap.size<=q/\¬ T q/\q<w.heap.size) (Q0:jI (F i) (λ_=>False) E[i].e k a nm w bn ln cn w') :
  ln=G nm/\w'.ownsRow w.heap.size 9 1 (B bn ln cn) ln (ab nm)/\Kt T w w'/\jH Z (λq=>T q\/(B bn ln cn).ownBlock=A q) (E.set i ⟨E[i].e,k,a⟩) w':=by
 obtain ⟨x,p,u,H,v,o,z,C⟩:=Q0;have l:=p.size;refine ⟨x,u,⟨l,λq b=>p.block q (h.P5 q b) λt=>(f i q t).2.1 b⟩,h.low.t (p.low (λq b=>(f i q b).1) h.low.size),λq b=>?_,λj q=>if j=i then H q else F j q,λj K=>?_,λj n q b c=>?_,λj q b=>?_⟩
 .rcases b with b|b
  .exact bG (h.P5 q b) l
  .exact (u.lt q b).2
 .have s:j<G E:=(by simpa using K);rw [nw];by_cases g:i=j
  .subst g;simp only [jq];exact v
  .rw [aA g];simp only [aA (nM g)];exact (y j s).keep p λq b t=>g (r i j q t b)
 .by_cases e1:j=i
  .by_cases m:n=i
   .rw [e1,m]
   .simp only [aB e1,aA m] at b c;rcases o q b with e|e
    .exact absurd (r i n q e c) (nM m)
    .have:=(f n q c).2.2;omega
  .by_cases m:n=i
   .simp only [aA e1,aB m] at b c;rcases o q c with e|e
    .exact absurd (r i j q e b) (nM e1)
    .have:=(f j q b).2.2;omega
   .simp only [aA e1,aA m] at b c;exact r j n q b c
 .by_cases e1:j=i
  .simp only [aB e1] at b;refine ⟨?_,λd=>?_,v.lt q b⟩
   .rcases o q b with e|e
    .exact (f i q e).1
    .exact bf h.low.size e
   .rcases d with d|d
    .rcases o q b with e|e
     .exact (f i q e).2.1 d
     .have:=h.P5 q d;omega
    .exact (z q d).1 b
  .simp only [aA e1] at b;refine ⟨(f j q b).1,λd=>?_,bG (f j q b).2.2 l⟩;rcases d with d|d
   .exact (f j q b).2.1 d
   .have:=(u.lt q d).1;have:=(f j q b).2.2;omega
def nC (Z:zW) (T:Nat->Prop) (E:List En) (i:Nat) (a:i<G E) (l:Ln) (w:zW) (r:Ending) (w':zW):Prop:=
 ∃ D C F,r=zP (zd #[J (bT E[i].a l).1.er,J (bT E[i].a l).1.at_,.string ⟨(bT E[i].a l).1.tx.toArray⟩,B D C F,J (bT E[i].a l).1.kd,J (bT E[i].a l).1.nn])/\C=(bT E[i].a l).1.nm.length/\w'.ownsRow w.heap.size 9 1 (B D C F) C (ab (bT E[i].a l).1.nm)/\Kt T w w'/\jH Z (λq=>T q\/(B D C F).ownBlock=A q) (E.set i ⟨E[i].e,E[i].k+1,(bT E[i].a l).2⟩) w'
def jH.do (h:jH Z T E w) (n:Env Z) (j:jZ Z) (b:i<G E) (p:E[i].k+1<1000000000000) (d:ex s l) :
  zC prog 20 #[zK (A (yh (E[i].e))),Q s] w (nC Z T E i b l w):=by
 obtain ⟨F,c,m,e⟩:=h.y9;refine ((c i b).aml p n j h.low (λq o=>(e i q o).1) s l d.1 d.2).m ?_;rintro r w' ⟨C,H,D,rfl,a⟩;obtain ⟨f,g,t,k⟩:=h.res b c m e a;exact ⟨C,H,D,rfl,f,g,t,k⟩
def jH.new (h:jH Z T E w) (M:Nat) (p:M<=6):zC prog 45 #[J M] w λr w'=>∃ e,r=zP (zp #[zJ e,J 0])/\Kt T w w'/\jH Z T (E++[⟨e,0,⟨M,[],[],[],none⟩⟩]) w':=by
 refine (Cb M p w).m ?_;rintro r w' ⟨e,rfl,k,l⟩;obtain ⟨F,n,o,i⟩:=h.y9;have f:=k.size;refine ⟨e,rfl,⟨f,λq b=>k.block q (h.P5 q b)⟩,h.low.t (k.m h.low.size),λq b=>bG (h.P5 q b) f,λj q=>if j<(G E) then F j q else if j=(G E) then (w.heap.size<=q/\q<w'.heap.size) else False,λj C=>?_,λj g q b a=>?_,λj q b=>?_⟩
 .rcases cC j (G E) with e1|e1
  .rw [yj e1];simp only [aB e1];exact (n j e1).next k
  .have d:j=G E:=(by simp at C;omega);subst d;simp only [iC,k8,jq];simpa using l
 .by_cases e1:j<G E
  .simp only [aB e1] at b;by_cases d:g<G E
   .simp only [aB d] at a;exact o j g q b a
   .simp only [aA d] at a;by_cases c:g=G E
    .rw [aB c] at a;have:=(i j q b).2.2;omega
    .rw [aA c] at a;exact a.elim
  .simp only [aA e1] at b;by_cases c:j=G E
   .rw [aB c] at b;by_cases d:g<G E
    .simp only [aB d] at a;have:=(i g q a).2.2;omega
    .simp only [aA d] at a;by_cases m:g=G E
     .rw [c,m]
     .rw [aA m] at a;exact a.elim
   .rw [aA c] at b;exact b.elim
 .by_cases e1:j<G E
  .simp only [aB e1] at b;exact ⟨(i j q b).1,(i j q b).2.1,bG (i j q b).2.2 f⟩
  .simp only [aA e1] at b;by_cases c:j=G E
   .rw [aB c] at b;exact ⟨bf h.low.size b.1,λs=>by have:=h.P5 q s;omega,b.2⟩
   .rw [aA c] at b;exact b.elim
end
section
variable {a b:Ab} {fs Z:List Fd} {x y:By} {p:Pt} {aJ:List By}
def NF (C:By->Prop) (fs:List Fd):Prop:=∀ q,q∈fs.map (λg=>(g.nm,g.p))->C q.1/\MF q.2
variable {Q6:By->Prop}
def NF.m {Y:By->Prop} (h:NF Q6 fs) (a:∀ x,Q6 x->Y x):NF Y fs:=λq b=>⟨a _ (h q b).1,(h q b).2⟩
end
section
attribute [local go_sem] ap aq
variable {w w' W:zW}
abbrev gH (v:Vl):zV:=zd #[J v.1,J v.2]
def zy (n:Int) (w:zW):zC prog 262 #[J n] w λe w'=>e=zP (gH (1,n))/\zB w w':=by
 go_in;go_wp2;refine aK (v:=zd #[J 1,J n]) (by simp [results,results262,go_sem]) rfl ?_;exact ⟨rfl,(aM _ _).alloc (aG _) _⟩
def mR (n:Int) (w:zW):zC prog 211 #[J n] w λe w'=>e=zP (gH (cL n))/\zB w w':=by
 go_in;go_wp2;refine aK (v:=zd #[J 3,J n]) (by simp [results,results211,go_sem]) rfl ?_;exact ⟨rfl,(aM _ _).alloc (aG _) _⟩
def vq (b:Bool) (w:zW):zC prog 254 #[zF b] w λe w'=>e=zP (gH (bD b))/\zB w w':=by
 cases b
 .go_in;go_wp2;refine aK (v:=zd #[J 2,J 0]) (by simp [results,results254,go_sem]) rfl ?_;exact ⟨rfl,(aM _ _).alloc (aG _) _⟩
 .go_in;go_wp2;refine aK (v:=zd #[J 2,J 1]) (by simp [results,results254,go_sem]) rfl ?_;exact ⟨rfl,(aM _ _).alloc (aG _) _⟩
def dK (a:Vl) (s:By) (b:Vl):Vl:=
 if s=[61]/\a.1=b.1 then bD (a.2 == b.2) else if ¬ (a.1=1/\b.1=1) then cL 2 else if s=[60] then bD (decide (a.2<b.2))
 else if s=[43] then (1,wrap64 (a.2+b.2)) else if s=[45] then (1,wrap64 (a.2 - b.2)) else if s=[42] then (1,wrap64 (a.2*b.2))
 else if b.2=0 then cL 1 else if s=[47] then (1,wrap64 (a.2.tdiv b.2)) else (1,a.2.tmod b.2)
inductive xx:Int->Int->By->Int->Int->Vl->Prop
 | eq1 x y:xx 1 x [61] 1 y (bD (x == y))
 | eq2 k x y:(k == 1)=false->(k == k)=true->xx k x [61] k y (bD (x == y))
 | eqm x l y:((1:Int) == l)=false->(l == 1)=false->xx 1 x [61] l y (cL 2)
 | eqn k x l y:(k == l)=false->(k == 1)=false->xx k x [61] l y (cL 2)
 | no k x s l y:(s=[60]\/s=[43]\/s=[45]\/s=[42]\/s=[47]\/s=[37])->(k == 1)=false->xx k x s l y (cL 2)
 | not x s l y:(s=[60]\/s=[43]\/s=[45]\/s=[42]\/s=[47]\/s=[37])->(l == 1)=false->xx 1 x s l y (cL 2)
 | lt x y:xx 1 x [60] 1 y (bD (decide (x<y)))
 | add x y:xx 1 x [43] 1 y (1,wrap64 (x+y))
 | sub x y:xx 1 x [45] 1 y (1,wrap64 (x - y))
 | mul x y:xx 1 x [42] 1 y (1,wrap64 (x*y))
 | zero x s:(s=[47]\/s=[37])->xx 1 x s 1 0 (cL 1)
 | quo x y:(y == 0)=false->¬ y=0->xx 1 x [47] 1 y (1,wrap64 (x.tdiv y))
 | rem x y:(y == 0)=false->¬ y=0->xx 1 x [37] 1 y (1,x.tmod y)
def nF (k x l y:Int) (s:By) (hs:s=[61]\/s=[60]\/s=[43]\/s=[45]\/s=[42]\/s=[47]\/s=[37]):xx k x s l y (dK (k,x) s (l,y)):=by
 have d:∀ {a b:Int},a≠b->(a == b)=false:=λh=>bo.2 h;rcases hs with rfl|hs
 .by_cases h:k=1
  .by_cases C:k=l
   .subst C;subst h;rw [show dK (1,x) [61] (1,y)=bD (x == y) by simp [dK]];exact .eq1 x y
   .rw [show dK (k,x) [61] (l,y)=cL 2 by unfold dK;rw [aA (λe=>C e.2),aB (λe=>C (e.1.t e.2.symm))]];subst h;exact .eqm x l y (d C) (d (nM C))
  .by_cases C:k=l
   .subst C;rw [show dK (k,x) [61] (k,y)=bD (x == y) by simp [dK]];exact .eq2 k x y (d h) (by simp)
   .rw [show dK (k,x) [61] (l,y)=cL 2 by unfold dK;rw [aA (λe=>C e.2),aB (λe=>C (e.1.t e.2.symm))]];exact .eqn k x l y (d C) (d h)
 .have f:s≠[61]:=by rcases hs with rfl|rfl|rfl|rfl|rfl|rfl<;>decide
  by_cases h:k=1
  .by_cases C:l=1
   .subst h;subst C;rcases hs with rfl|rfl|rfl|rfl|rfl|rfl
    .rw [show dK (1,x) [60] (1,y)=bD (decide (x<y)) by simp [dK]];exact .lt x y
    .rw [show dK (1,x) [43] (1,y)=(1,wrap64 (x+y)) by simp [dK]];exact .add x y
    .rw [show dK (1,x) [45] (1,y)=(1,wrap64 (x - y)) by simp [dK]];exact .sub x y
    .rw [show dK (1,x) [42] (1,y)=(1,wrap64 (x*y)) by simp [dK]];exact .mul x y
    .by_cases c:y=0
     .subst c;rw [show dK (1,x) [47] (1,0)=cL 1 by simp [dK]];exact .zero x _ (zR rfl)
     .rw [show dK (1,x) [47] (1,y)=(1,wrap64 (x.tdiv y)) by simp [dK,c]];exact .quo x y (d c) c
    .by_cases c:y=0
     .subst c;rw [show dK (1,x) [37] (1,0)=cL 1 by simp [dK]];exact .zero x _ (zZ rfl)
     .rw [show dK (1,x) [37] (1,y)=(1,x.tmod y) by simp [dK,c]];exact .rem x y (d c) c
   .rw [show dK (k,x) s (l,y)=cL 2 by unfold dK;rw [aA (λe=>f e.1),aB (λe=>C e.2)]];subst h;exact .not x s l y hs (d C)
  .rw [show dK (k,x) s (l,y)=cL 2 by unfold dK;rw [aA (λe=>f e.1),aB (λe=>h e.1)]];exact .no k x s l y hs (d h)
def Vt {k x l y:Int} {s:By} {f:Vl} (h:xx k x s l y f) (w:zW):zC prog 256 #[gH (k,x),Q s,gH (l,y)] w λe w'=>e=zP (gH f)/\zB w w':=by
 obtain ⟨u,d⟩:∃ u,u=f:=⟨_,rfl⟩;rw [<- d];have m:=I d;clear d;rcases h with _|⟨_,_,_,b,c⟩|⟨_,_,_,b,c⟩|⟨_,_,_,_,b,c⟩|⟨_,_,_,_,_,rfl|rfl|rfl|rfl|rfl|rfl,b⟩|⟨_,_,_,_,rfl|rfl|rfl|rfl|rfl|rfl,b⟩|_|_|_|_|⟨_,_,rfl|rfl⟩|⟨_,_,b,c⟩|⟨_,_,b,c⟩
 all_goals
  go_in;go_wp2_with (first|(go_at_call 254;refine mo (vq _ _) ?_;rintro e C ⟨rfl,a⟩)|(go_at_call 211;refine mo (mR _ _) ?_;rintro e C ⟨rfl,a⟩)|(go_at_call 262;refine mo (zy _ _) ?_;rintro e C ⟨rfl,a⟩));obtain ⟨⟨g,i⟩,⟨f0,f1⟩,j⟩:=cq ((a.block (w.heap.size+1+1) (by simp)).t (fZ w _ _ _ _));have n:=I a;clear a;rw [<- m.o] at *;apply I;go_wp2;refine aK (v:=zd #[J u.1,J u.2]) (by simp [results,results256,go_sem,g,i]) rfl ?_;exact ⟨rfl,dJ ((og w _ _ _).t (n.o.m (by simp;omega))) _ (by omega) _ _⟩
def DM (a:Vl) (s:By) (b:Vl) (hs:s=[61]\/s=[60]\/s=[43]\/s=[45]\/s=[42]\/s=[47]\/s=[37]) (w:zW):zC prog 256 #[gH a,Q s,gH b] w λe w'=>e=zP (gH (dK a s b))/\zB w w':=Vt (nF a.1 a.2 b.1 b.2 s hs) w
variable {F w1 w2:zW} {T Z:Nat->Prop} {E:List En} {a b:Ab}
def eJ {n j gk:Nat} (h:j<n) (a:n<=j+gk):n<=j+1+(n - (j+1))/\n - (j+1)<gk/\j+1<=n:=by omega
def eu {n j:Nat} (h:j<n):(j:Int)<(n:Int):=by omega
def eH {n j:Nat} (h:n<=j):¬ (j:Int)<(n:Int):=by omega
variable {v:zV}
def gC (s x:By):Bool:=(aI s).1.any (λt=>t.1 == x)&&bm x
def Vp {s x:By} {j:Nat} (a:j<(aI s).1.length) (C:(aI s).1[j].1=x):gC s x=bm x:=by
 unfold gC;have:(aI s).1.any (λt=>t.1 == x)=true:=by
  rw [rD];exact ⟨_,bt a,by simp [C]⟩
 rw [this,Bool.true_and]
def Vq {s x:By} (h:∀ i (a:i<(aI s).1.length),(aI s).1[i].1≠x):gC s x=false:=by
 unfold gC;have:(aI s).1.any (λt=>t.1 == x)=false:=by
  rw [List.any_eq_false];intro t b;obtain ⟨i,a,rfl⟩:=e9 b;simpa using h i a
 rw [this,Bool.false_and]
def ot (s x:By) (y:G s<=1000) (hs:(aI s).2=none) (QV:G x<=1000):zC prog 154 #[Q s,Q x] w λr w'=>r=zP (zF (gC s x))/\zB w w':=by
 have q:=I (λj z=>Vp (s:=s) (x:=x) (j:=j) z);have t:=I (Vq (s:=s) (x:=x));have d:(aI s).1.length<=G s:=fT _ _ _;have m:=I (show aI s=((aI s).1,none) from Prod.ext rfl hs);generalize (aI s).1=K at *;have F:(G K:Int)<=1000:=a6.2 (bf d y);clear hs d;go_in;go_wp2_with (go_at_call 51;refine mo (iU s _ K y m.o) ?_;rintro e w1 ⟨v,rfl,b,f⟩);apply I;obtain ⟨S,H,rfl,l⟩:=pQ b;have D:=I l;have u:=I f;clear l b f;go_wp2_with fail;go_loopg [7] (G K) (λgk i wr=>∃ j:Nat,j<=G K/\G K<=j+gk/\i=J j/\wr=w1/\Hid (∀ i (c:i<G K),i<j->K[i].1≠x))
 case atStart=>exact ⟨0,bE _,jD (cS _).symm,rfl,rfl,I λi _ c=>absurd c (pH i)⟩
 case round=>
  obtain ⟨j,z,n,rfl,rfl,O⟩:=hrel;rcases cC j (G K) with a|a
  .have E:=eu a;have M:=I (eJ a n);obtain ⟨g,rfl,c0,c1⟩:=D.o j a;by_cases L:K[j].1=x
   .have N:=I (q.o j a L);rw [L] at c0;have p:(x == x)=true:=(by simp);clear L;go_wp2_with (go_at_call 76;refine (dD x _).m ?_;rintro e w2 ⟨rfl,k⟩;have o:=I k;clear k);go_ret;exact ⟨by rw [N.o];rfl,u.o.t (o.o.m u.o.size)⟩
   .have p:(K[j].1 == x)=false:=(by simpa using L);have P:Hid (∀ i (c:i<G K),i<j+1->K[i].1≠x):=I λi c C=>by
     rcases cC i j with h|h
     .exact O.o i c h
     .obtain rfl:i=j:=(by omega);exact L
    clear L;go_wp2_with fail;go_roundg (G K - (j+1))
    case measure=>exact M.o.2.1
    case rel=>exact ⟨j+1,M.o.2.2,M.o.1,(by simp),rfl,P⟩
  .have R:=eH a;have N:=I (t.o λi c=>O.o i c (bG c a));go_wp2_with fail;go_ret;exact ⟨by rw [N.o];rfl,u.o⟩
structure RF where
 nm:By
 rl:By
 kd:Int
 n:Int
def dU (w:zW) (v:zV) (fs:List RF):Prop:=G fs<=1000/\∃ a c,v=B a (G fs) c/\(fs=[]\/∃ g o,a=A (X g o)/\g<w.heap.size/\∀ i f,fs[i]?=A f ->
 w.cell? (X g (o+i*4))=A (Q f.nm)/\w.cell? (X g (o+i*4+1))=A (Q f.rl)/\w.cell? (X g (o+i*4+2))=A (J f.kd)/\w.cell? (X g (o+i*4+3))=A (J f.n))
def dU.next {fs:List RF} (h:dU w v fs) (d:zB w w'):dU w' v fs:=by
 obtain ⟨n,a,c,rfl,h⟩:=h;refine ⟨n,a,c,rfl,h.imp id ?_⟩;rintro ⟨g,o,rfl,b,j⟩;refine ⟨g,o,rfl,bG b d.size,λi f m=>?_⟩;obtain ⟨k,e,l,q⟩:=j i f m;exact ⟨(d.cell (p:=X g _) b).t k,(d.cell (p:=X g _) b).t e,(d.cell (p:=X g _) b).t l,(d.cell (p:=X g _) b).t q⟩
def bK (fs:List RF) (x:By):Int:=match fs.findIdx? (λf=>f.nm == x) with|some i=>(i:Int)|none=>-1
def E6 {fs:List RF} {x:By} {j:Nat} (a:j<G fs) (h:∀ i,i<j->∀ f,fs[i]?=A f->f.nm≠x) (C:fs[j].nm=x):bK fs x=(j:Int):=by
 unfold bK;have:fs.findIdx? (λf=>f.nm == x)=A j:=by
  rw [FZ];refine ⟨a,by simp [C],λi b=>?_⟩;have:=h i b fs[i] (cU (by omega));simpa using this
 rw [this]
def Vo {fs:List RF} {x:By} (h:∀ i,i<G fs->∀ f,fs[i]?=A f->f.nm≠x):bK fs x = -1:=by
 unfold bK;have:fs.findIdx? (λf=>f.nm == x)=none:=by
  rw [Br];intro f b;obtain ⟨i,a,rfl⟩:=e9 b;have:=h i a fs[i] (cU a);simpa using this
 rw [this]
def aD (fs:List RF) (x:By) (h:dU w v fs):zC prog 122 #[v,Q x] w λr w'=>r=zP (J (bK fs x))/\w'=w:=by
 obtain ⟨p,a,c,rfl,n⟩:=h;have s:=I n;have u:(G fs:Int)<=1000:=a6.2 p;clear n p;go_in;go_wp2_with fail;go_loopg [5] (G fs) (λgk i wr=>∃ j:Nat,j<=G fs/\G fs<=j+gk/\i=J j/\wr=w/\Hid (∀ i,i<j->∀ f,fs[i]?=A f->f.nm≠x))
 case atStart=>exact ⟨0,bE _,jD (cS _).symm,rfl,rfl,I λi d=>absurd d (pH i)⟩
 case round=>
  obtain ⟨j,P,e,rfl,rfl,l⟩:=hrel;rcases cC j (G fs) with C|C
  .have t:=eu C;have H:=I (eJ C e);obtain ⟨f,m⟩:∃ f,fs[j]?=A f:=⟨_,cU C⟩;have M:=I m;rcases s.o with O|⟨g,o,rfl,z,b⟩
   .rw [O] at C;exact absurd C (pH j)
   .obtain ⟨c0,c1,c2,c3⟩:=b j f m;clear b m;by_cases D:f.nm=x
    .have L:=I (E6 C l.o (by have:=M.o;rw [cU C] at this;rw [dp this];exact D));subst D;have k:(f.nm == f.nm)=true:=(by simp);go_wp2_with fail;go_ret;exact ⟨by rw [L.o];rfl,rfl⟩
    .have k:(f.nm == x)=false:=(by simpa using D);have N:Hid (∀ i,i<j+1->∀ f,fs[i]?=A f->f.nm≠x):=I λi d y K=>by
      rcases cC i j with h|h
      .exact l.o i h y K
      .obtain rfl:i=j:=(by omega);rw [M.o] at K;cases K;exact D
     clear D;go_wp2_with fail;go_roundg (G fs - (j+1))
     case measure=>exact H.o.2.1
     case rel=>exact ⟨j+1,H.o.2.2,H.o.1,(by simp),rfl,N⟩
  .have q:=eH C;have L:=I (Vo (fs:=fs) (x:=x) λi d=>l.o i (bG d C));go_wp2_with fail;go_ret;exact ⟨by rw [L.o];rfl,rfl⟩
end
section
variable {w w' W:zW} {v:zV} {fs:List RF} {x:By} {V Z:List Bool} {b i j k n:Nat}
inductive rO (fs:List RF) (x:By):Nat->Prop
 | base (i:Nat) (f:RF):fs[i]?=some f->gC f.rl x=true->rO fs x i
 | step (i k:Nat) (f g:RF):fs[i]?=some f->fs[k]?=some g->rO fs x k->gC f.rl g.nm=true->rO fs x i
def zx (fs:List RF) (x:By) (V:List Bool) (i:Nat):Prop:=∃ f,fs[i]?=A f/\(gC f.rl x=true\/∃ (k:Nat) (g:RF),fs[k]?=A g/\V[k]?=A true/\gC f.rl g.nm=true)
def IY (fs:List RF) (x:By) (V:List Bool):Prop:=G V=G fs/\∀ i,V[i]?=A true->rO fs x i
def IY.mk (h:IY fs x V) (j:zx fs x V i):rO fs x i:=by
 obtain ⟨f,a,b|⟨k,g,c,d,e⟩⟩:=j
 .exact .base i f a b
 .exact .step i k f g a c (h.2 k d) e
def IY.set (h:IY fs x V) (b:zx fs x V i):IY fs x (V.set i true):=by
 refine ⟨by simpa using h.1,λk a=>?_⟩;by_cases e:i=k
 .subst e;exact h.mk b
 .rw [List.getElem?_set_ne e] at a;exact h.2 k a
def nI:IY fs x (List.replicate (G fs) false):=⟨(by simp),λi a=>by
 rw [List.getElem?_replicate] at a;split at a
 .cases a
 .cases a⟩
def IY.all (h:IY fs x V) (c:∀ i,zx fs x V i->V[i]?=A true) (i:Nat):V[i]?=A true↔rO fs x i:=by
 refine ⟨h.2 i,λj=>?_⟩
 induction j with
 | base i f b a=>exact c i ⟨f,b,zR a⟩
 | step i k f g b e _ a d=>exact c i ⟨f,b,zZ ⟨k,g,e,d,a⟩⟩
def nQ (h:V[i]?=A false):(V.set i true).count false+1=V.count false:=by
 induction V generalizing i with
 | nil=>simp at h
 | cons b r a=>
  cases i with
  | zero=>
   simp at h;subst h;simp
  | succ i=>
   have:=a (i:=i) (by simpa using h);simp only [List.set_cons_succ,List.count_cons];omega
def ra (w:zW) (b:Nat) (V:List Bool):Prop:=w.heap[b]?=A (zM (V.map zF).toArray 4 (0,0))
def ra.at (h:ra w b V) (c:i<G V):w.cell? (X b i)=A (zF V[i])/\w.frozen? (X b i)=false/\b<w.heap.size:=by
 have a:w.heap[b]?=A (zM (V.map zF).toArray 4 (0,0)):=h;refine ⟨?_,by simp [World.frozen?,a],(cz.1 a).1⟩;rw [bq w b i _ _ _ a];simp [c]
def ra.put (h:ra w b V) (i:Nat) (u:Bool):ra (w.setCell (X b i) (zF u)) b (V.set i u):=by
 have:=aj h i (zF u);unfold ra;rw [this];simp [List.map_set]
end
section
attribute [local go_sem] ap aq
variable {w w' W:zW} {v:zV} {fs:List RF} {x:By} {V Z:List Bool} {b i j k n:Nat}
def pP (fs:List RF):Prop:=∀ f∈fs,G f.rl<=1000/\(aI f.rl).2=none/\G f.nm<=1000
def nV:(prog.info? 4).map (λi=>(i.zero,i.size,i.bytes))=A (A (zF false),1,1):=by kernel_rfl
def n7 (n:Nat) (g:n<=1000) (w:zW):(Instr.makeSlice 239 (J n) (J n)).run prog w=.ok (zS w.heap.size n n) (w.alloc (zM (madeCells (Value.cells (zF false)) n) 4)):=by
 have a:=nV;cases b:prog.info? 4 with
 | none=>rw [b] at a;cases a
 | some i=>
  rw [b] at a;simp only [oH,rB,mI] at a;obtain ⟨d,e,f⟩:=a;have c:=run_make (P:=prog) w 239 4 i (zF false) underlying239 b d .i64 .i64 (n:Int) (n:Int) (by omega) (by omega) (by rw [f];omega) (by omega);simp only [im,e,nL] at c;exact c
def n8 (n:Nat):madeCells (Value.cells (zF false)) n=((List.replicate n false).map zF).toArray:=by
 apply Array.ext
 .simp [madeCells,Value.cells]
 .intro i b a;simp [madeCells,Value.cells];rw [Nat.mod_one];rfl
structure vH (W:zW) (v:zV) (fs:List RF) (x:By) (b:Nat) (w:zW) (V:List Bool):Prop where
 QJ:dU w v fs
 row:ra w b V
 new:W.heap.size<=b
 low:zB W w
 so:IY fs x V
def ra.next (h:ra w b V) (c:zB w w'):ra w' b V:=by
 have a:w.heap[b]?=A (zM (V.map zF).toArray 4 (0,0)):=h;unfold ra;rw [c.block b (cz.1 a).1];exact a
def vH.next (h:vH W v fs x b w V) (a:zB w w'):vH W v fs x b w' V:=⟨h.QJ.next a,h.row.next a,h.new,h.low.t (a.m h.low.size),h.so⟩
def fA {a:Option zD} {c:Nat} (h:dU w (B a (G fs) c) fs) (b:j<G fs):∃ g o,a=A (X g o)/\g<w.heap.size/\w.cell? (X g (o+j*4))=A (Q fs[j].nm)/\w.cell? (X g (o+j*4+1))=A (Q fs[j].rl):=by
 obtain ⟨_,k,i,e,h⟩:=h;cases e;rcases h with h|⟨g,o,rfl,d,f⟩
 .rw [h] at b;exact absurd b (pH j)
 .obtain ⟨c0,c1,_,_⟩:=f j fs[j] (cU b);exact ⟨g,o,rfl,d,c0,c1⟩
def Ew (fs:List RF) (x:By) (V:List Bool) (j k:Nat) (m:Bool):Prop:=∃ f,fs[j]?=A f/\(m=true->zx fs x V j)/\(m=false->gC f.rl x=false/\∀ a g,a<k->fs[a]?=A g->V[a]?=A true->gC f.rl g.nm=false)
def Ew.start (a:j<G fs):Ew fs x V j 0 (gC fs[j].rl x):=⟨fs[j],cU a,λh=>⟨fs[j],cU a,zR h⟩,λh=>⟨h,λc _ b=>absurd b (pH c)⟩⟩
def Ew.fin {m:Bool} (h:Ew fs x V j k m) (q:j<G fs) (b:k=G fs\/m=true):m=true↔zx fs x V j:=by
 obtain ⟨f,n,d,l⟩:=h;refine ⟨d,λ⟨f',hf',a⟩=>?_⟩;rw [n] at hf';cases hf';cases m with
 | true=>rfl
 | false=>
  obtain ⟨o,i⟩:=l rfl;rcases b with rfl|b
  .rcases a with a|⟨p,g,c,e,a⟩
   .rw [o] at a;cases a
   .rw [i p g (fI.1 c).1 c e] at a;cases a
  .cases b
def Ew.next (h:Ew fs x V j k false) (t:j<G fs) (q:k<G fs) (o:k<G V):(V[k]=false->Ew fs x V j (k+1) false)/\(V[k]=true->Ew fs x V j (k+1) (gC fs[j].rl fs[k].nm)):=by
 obtain ⟨f,l,u,s⟩:=h;obtain ⟨r,p⟩:=s rfl;have e:fs[j]=f:=by
  rw [cU t] at l;exact dp l
 refine ⟨λb=>⟨f,l,λh=>absurd h (by decide),λ_=>⟨r,λd g n i a=>?_⟩⟩,λb=>⟨f,l,λh=>⟨f,l,zZ ⟨k,fs[k],cU q,by rw [cU o,b],by rw [<- e];exact h⟩⟩,λh=>⟨r,λd g n i a=>?_⟩⟩⟩
 .rcases cC d k with c|m
  .exact p d g c i a
  .obtain rfl:d=k:=(by omega);rw [cU o,b] at a;cases a
 .rcases cC d k with c|m
  .exact p d g c i a
  .obtain rfl:d=k:=(by omega);rw [cU q] at i;cases i;rw [<- e];exact h
def I1 (fs:List RF) (x:By) (V:List Bool) (j:Nat) (a:List Bool) (m:Bool):Prop:=(m=true->a.count false+1<=V.count false)/\(m=false->a=V/\∀ i,i<j->zx fs x V i->V[i]?=A true)
def I1.same {a:List Bool} {m:Bool} (h:I1 fs x V j a m) (g:zx fs x a j->a[j]?=A true):I1 fs x V (j+1) a m:=by
 refine ⟨h.1,λe=>?_⟩;obtain ⟨rfl,f⟩:=h.2 e;refine ⟨rfl,λi k c=>?_⟩;rcases cC i j with b|d
 .exact f i b c
 .obtain rfl:i=j:=(by omega);exact g c
def I1.set {a:List Bool} {m:Bool} (h:I1 fs x V j a m) (b:a[j]?=A false):I1 fs x V (j+1) (a.set j true) true:=by
 refine ⟨λ_=>?_,λe=>by cases e⟩;have c:=nQ b;cases m with
 | true=>have:=h.1 rfl;omega
 | false=>have:=(h.2 rfl).1;subst this;omega
def I1.fin {a:List Bool} {m:Bool} {gk:Nat} (h:I1 fs x V (G fs) a m) (g:V.count false+1<=gk):a.count false+(if m=true then 1 else 0)<gk/\(m=false->∀ i,zx fs x a i->a[i]?=A true):=by
 cases m with
 | true=>exact ⟨by have:=h.1 rfl;simp;omega,λe=>by cases e⟩
 | false=>
  obtain ⟨rfl,c⟩:=h.2 rfl;refine ⟨by simp;omega,λ_ i b=>?_⟩;obtain ⟨f,d,_⟩:=id b;exact c i (fI.1 d).1 b
def vH.mark (h:vH W v fs x b w V) (r:zx fs x V j) (m:v.ownBlock≠A b):vH W v fs x b (w.setCell (X b j) (zF true)) (V.set j true):=by
 refine ⟨?_,h.row.put j true,h.new,h.low.setCell (p:=X b j) h.new _,h.so.set r⟩;obtain ⟨n,a,c,rfl,d⟩:=h.QJ;refine ⟨n,a,c,rfl,d.imp id ?_⟩;rintro ⟨g,o,rfl,C,s⟩;have k:g≠b:=λe=>m (by rw [e];rfl);refine ⟨g,o,rfl,by simpa using C,λi f y=>?_⟩;obtain ⟨t,d,l,z⟩:=s i f y;have e:∀ q,(w.setCell (X b j) (zF true)).cell? (X g q)=w.cell? (X g q):=λq=>by
  have u:(w.setCell (X b j) (zF true)).heap[g]?=w.heap[g]?:=by simp only [World.setCell];rw [Array.getElem?_modify,aA (λe=>k e.symm)]
  simp only [World.cell?,u]
 exact ⟨(e _).t t,(e _).t d,(e _).t l,(e _).t z⟩
def vH.start (h:dU w v fs) (x:By):vH w v fs x w.heap.size (w.alloc (zM (madeCells #[zF false] (G fs)) 4)) (List.replicate (G fs) false):=by
 have a:zB w (w.alloc (zM (madeCells #[zF false] (G fs)) 4)):=(aM _ _).alloc (aG _) _;refine ⟨h.next a,?_,aG _,a,nI⟩;unfold ra;rw [show madeCells #[zF false] (G fs)=madeCells (Value.cells (zF false)) (G fs) from rfl,n8];simp only [World.alloc,yi]
def Su (w:zW) (fs:List RF) (x:By) (r:Ending) (w':zW):Prop:=∃ b V,r=zP (zS b (G fs) (G fs))/\w.heap.size<=b/\ra w' b V/\G V=G fs/\(∀ i,V[i]?=A true↔rO fs x i)/\zB w w'
def vH.fin (h:vH W v fs x b w V) (a:∀ i,zx fs x V i->V[i]?=A true):Su W fs x (zP (zS b (G fs) (G fs))) w:=⟨b,V,rfl,h.new,h.row,h.so.1,h.so.all a,h.low⟩
def Kq (fs:List RF) (x:By) (h:dU w v fs) (Q4:pP fs) (Y:G x<=1000):zC prog 152 #[v,Q x] w (Su w fs x):=by
 have R:=I h;have D:=I Q4;obtain ⟨F,bj,c,rfl,hc⟩:=h;have wR:(G fs:Int)<=1000:=a6.2 F;have QT:=λW=>n7 (G fs) F W;have HX:=I Y;clear hc F Q4 Y;go_in;go_wp2_with fail;have Q5:=I (vH.start R.o x);clear QT;go_loopg [6] (G fs+1) (λgk m wr=>∃ (V:List Bool) (mo:Bool),m=zF mo/\Hid (vH w (B bj (G fs) c) fs x w.heap.size wr V)/\Hid (V.count false+(if mo then 1 else 0)<=gk)/\Hid (mo=false->∀ i,zx fs x V i->V[i]?=A true))
 case atStart=>exact ⟨_,true,rfl,Q5,I (by simp),I λh=>absurd h (by decide)⟩
 case round=>
  obtain ⟨V,mo,rfl,z,HM,HF⟩:=hrel;cases mo with
  | false=>
   go_wp2_with fail;go_ret;exact z.o.fin (HF.o (by trivial))
  | true=>
   go_wp2_with fail;go_loopg [6,7] (G fs) (λgj m i wj=>∃ (j:Nat) (E:List Bool) (N:Bool),j<=G fs/\G fs<=j+gj/\i=J j/\m=zF N/\Hid (vH w (B bj (G fs) c) fs x w.heap.size wj E)/\Hid (I1 fs x V j E N))
   case atStart=>exact ⟨0,V,false,bE _,jD (cS _).symm,rfl,rfl,z,I ⟨λh=>absurd h (by decide),λ_=>⟨rfl,λi hi=>absurd hi (pH i)⟩⟩⟩
   case round=>
    obtain ⟨j,E,N,hj,HD,rfl,rfl,p,P⟩:=hrel;rcases cC j (G fs) with b|b
    .have al:=eu b;have L:=I (eJ b HD);obtain ⟨g,o,rfl,hg,c0,c1⟩:=fA p.o.QJ b;have s:Hid ((B (A (X g o)) (G fs) c).ownBlock≠A w.heap.size):=I (by
      obtain ⟨S,U,f,SS,_⟩:=fA R.o b;cases f;intro f;cases f;exact iC _ SS)
     have n:=I (D.o _ (bt b));go_wp2_with (go_at_call 154;refine mo (ot _ x n.o.1 n.o.2.1 HX.o) ?_;rintro D8 w2 ⟨rfl,eQ⟩;have HV:=I (p.o.next eQ);clear eQ);apply I;go_wp2_with fail;have T:Hid (j<G E):=I (by rw [p.o.so.1];exact b);go_loopg [8,9] (G fs) (λgi m i wk=>∃ (k:Nat) (mk:Bool),k<=G fs/\G fs<=k+gi/\i=J k/\m=zF mk/\Hid (vH w (B (A (X g o)) (G fs) c) fs x w.heap.size wk E)/\Hid (Ew fs x E j k mk))
     case atStart=>exact ⟨0,_,bE _,jD (cS _).symm,rfl,rfl,HV,I (Ew.start b)⟩
     case round=>
      obtain ⟨k,mk,hk,QV,rfl,rfl,H,Z⟩:=hrel;have AK:Hid (k=G fs\/mk=true->(mk=true↔zx fs x E j)):=I λh=>Z.o.fin b h;obtain ⟨r0,r1,r2⟩:=H.o.row.at (i:=j) T.o;rcases cC k (G fs) with K|K
      .have ad:=eu K;have d:=I (eJ K QV);cases mk with
       | true=>
        have e:=I (AK.o (zZ rfl));have a:=I (e.o.1 rfl);have O:=I (cU T.o);generalize E[j]'T.o=r at O r0;cases r with
        | true=>
         go_wp2_with fail;go_roundg (G fs - (j+1))
         case measure=>exact L.o.2.1
         case rel=>exact ⟨j+1,E,N,L.o.2.2,L.o.1,(by simp),rfl,H,I (P.o.same λ_=>O.o)⟩
        | false=>
         go_wp2_with fail;go_roundg (G fs - (j+1))
         case measure=>exact L.o.2.1
         case rel=>exact ⟨j+1,_,true,L.o.2.2,L.o.1,(by simp),rfl,I (H.o.mark a.o (s.o)),I (P.o.set O.o)⟩
       | false=>
        obtain ⟨S,U,f,af,d0,d1⟩:=fA H.o.QJ K;cases f;obtain ⟨_,_,f,ag,d2,d3⟩:=fA H.o.QJ b;cases f;obtain ⟨M,q1,q2⟩:=H.o.row.at (i:=k) (by rw [H.o.so.1];exact K);have ac:=I (D.o _ (bt K));have mj:Hid (∀ q,zB wr q->zC prog 154 #[Q fs[j].rl,Q fs[k].nm] q λaa w'=>aa=zP (zF (gC fs[j].rl fs[k].nm))/\vH w (B (A (X g o)) (G fs) c) fs x w.heap.size w' E):=I λq u=>by
         refine (ot _ _ n.o.1 n.o.2.1 ac.o.2.2).m ?_;rintro D8 w4 ⟨rfl,l⟩;exact ⟨rfl,(H.o.next u).next l⟩
        have y:Hid (∀ q,vH w (B (A (X g o)) (G fs) c) fs x w.heap.size q E->q.cell? (X w.heap.size k)=A (zF (E[k]'(by rw [H.o.so.1];exact K)))/\q.cell? (X g (o+k*4))=A (Q fs[k].nm)/\q.cell? (X g (o+j*4+1))=A (Q fs[j].rl)):=I λq u=>by
         obtain ⟨S,U,f,_,x0,x1⟩:=fA u.QJ K;cases f;obtain ⟨_,_,f,_,x2,x3⟩:=fA u.QJ b;cases f;exact ⟨(u.row.at (i:=k) (by rw [H.o.so.1];exact K)).1,x0,x3⟩
        have t:=I (Z.o.next b K (by rw [H.o.so.1];exact K));generalize E[k]'(by rw [H.o.so.1];exact K)=bk at t M y;have ak:(k:Int)<(G fs:Int):=iD.2 K;go_wp2_with fail;cases bk with
        | false=>
         go_quiet (fail)
         go_wp2_with fail;go_roundg (G fs - (k+1))
         case measure=>exact d.o.2.1
         case rel=>exact ⟨k+1,false,d.o.2.2,d.o.1,(by simp),rfl,I (H.o.next (lG (aM _ _) _)),I (t.o.1 (by trivial))⟩
        | true=>
         go_region_held3 (λw'=>w'.cell? (X w.heap.size k)=A (zF true)/\w'.cell? (X g (o+k*4))=A (Q fs[k].nm)/\w'.cell? (X g (o+j*4+1))=A (Q fs[j].rl)) (first|(with_reducible exact ⟨M,d0,d3⟩)|go_keep) (first|(go_at_call 154;(with_reducible refine (mj.o _ (aM _ _).drew).m ?_);rintro D8 w4 ⟨rfl,l⟩;obtain ⟨M,d0,d3⟩:=y.o _ l;have Q6:=I l;clear l))
         go_wp2_with fail;go_roundg (G fs - (k+1))
         case measure=>exact d.o.2.1
         case rel=>exact ⟨k+1,_,d.o.2.2,d.o.1,(by simp),rfl,Q6,I (t.o.2 (by trivial))⟩
      .have Q0:=eH K;obtain rfl:k=G fs:=lT hk K;have e:=I (AK.o (zR rfl));cases mk with
       | true=>
        have a:=I (e.o.1 rfl);have O:=I (cU T.o);generalize E[j]'T.o=r at O r0;cases r with
        | true=>
         go_wp2_with fail;go_roundg (G fs - (j+1))
         case measure=>exact L.o.2.1
         case rel=>exact ⟨j+1,E,N,L.o.2.2,L.o.1,(by simp),rfl,H,I (P.o.same λ_=>O.o)⟩
        | false=>
         go_wp2_with fail;go_roundg (G fs - (j+1))
         case measure=>exact L.o.2.1
         case rel=>exact ⟨j+1,_,true,L.o.2.2,L.o.1,(by simp),rfl,I (H.o.mark a.o (s.o)),I (P.o.set O.o)⟩
       | false=>
        have a:Hid (zx fs x E j->E[j]?=A true):=I λh=>absurd (e.o.2 h) (by decide);go_wp2_with fail;go_roundg (G fs - (j+1))
        case measure=>exact L.o.2.1
        case rel=>exact ⟨j+1,E,N,L.o.2.2,L.o.1,(by simp),rfl,H,I (P.o.same a.o)⟩
    .have Q0:=eH b;obtain rfl:j=G fs:=lT hj b;have C:=I (P.o.fin (by simpa using HM.o));go_wp2_with fail;go_roundg (E.count false+(if N=true then 1 else 0))
     case measure=>exact C.o.1
     case rel=>exact ⟨E,N,rfl,p,I (aG _),I C.o.2⟩
end
section
variable {K:List (By × Nat)} {κ:By->Vl} {S:By->Bool}
def cH (t:By):Bool:=t == [44]||t == [41]
def dG (o:Bool) (t:By):Bool:=t == [44]||t == [41]||(!o&&t == [111,114])
def oN (t:By) (o:Nat):Nat:=if t=[40] then o+1 else if t=[41] then o - 1 else o
def qu (S:By->Bool):List (By × Nat)->Nat->Nat
 | [],_=>0
 | t::r,o=>if o=0/\S t.1=true then 0 else qu S r (oN t.1 o)+1
def jy (S:By->Bool) (K:List (By × Nat)) (i:Nat):Nat:=i+qu S (K.drop i) 0
def oe (l:List (By × Nat)) (o:Nat):qu S l o<=G l:=by
 induction l generalizing o with
 | nil=>exact aG _
 | cons t r a=>
  unfold qu;split
  .exact bE _
  .exact Nat.succ_le_succ (a _)
def Sv {i:Nat} (h:i<=G K):jy S K i<=G K:=by
 have:=oe (S:=S) (K.drop i) 0;rw [mG] at this;unfold jy;omega
inductive Bl (K:List (By × Nat)) (S:By->Bool):Nat->Nat->Nat->Nat->Prop
 | here (o i:Nat):Bl K S o i o i
 | step (o i o' j:Nat):i<G K->¬ (o=0/\S (aw K i)=true)->Bl K S (oN (aw K i) o) (i+1) o' j->Bl K S o i o' j
def Bl.t {o i b j a k:Nat} (h:Bl K S o i b j) (g:Bl K S b j a k):Bl K S o i a k:=by
 induction h with
 | here=>exact g
 | step o i f j e d _ c=>exact .step o i _ k e d (c g)
def Bl.less {S':By->Bool} {o i c j:Nat} (h:Bl K S o i c j) (hs:∀ t,S' t=true->S t=true):Bl K S' o i c j:=by
 induction h with
 | here=>exact .here _ _
 | step o i g j f e _ d=>exact .step o i _ j f (λ⟨a,b⟩=>e ⟨a,hs _ b⟩) d
def Bl.stuck {i a j:Nat} (h:Bl K S 0 i a j) (hs:G K<=i\/S (aw K i)=true):j=i:=by
 cases h with
 | here=>rfl
 | step _ _ _ _ c b _=>
  rcases hs with hs|hs
  .omega
  .exact absurd ⟨rfl,hs⟩ b
def vr {i:Nat} (h:i<G K):∃ n,K.drop i=(aw K i,n)::K.drop (i+1):=by
 refine ⟨(K[i]).2,?_⟩;rw [jL h,eY K i h]
def Bl.ov {o i j:Nat} (h:Bl K S o i 0 j) (b:G K<=j\/S (aw K j)=true):i+qu S (K.drop i) o=j:=by
 generalize c:(0:Nat)=d at h
 induction h with
 | here o i=>
  subst c;rcases cC i (G K) with a|a
  .obtain ⟨n,e⟩:=vr a;rw [e,qu,aB ⟨rfl,b.resolve_left (by omega)⟩];rfl
  .rw [List.drop_eq_nil_of_le a];rfl
 | step o i d j a g _ f=>
  obtain ⟨n,e⟩:=vr a;rw [e,qu,aA g];have:=f b c;show i+(qu S (K.drop (i+1)) (oN (aw K i) o)+1)=j;omega
def Bl.jy {i j:Nat} (h:Bl K S 0 i 0 j) (a:G K<=j\/S (aw K j)=true):jy S K i=j:=h.ov a
def bP {i:Nat} {t:By} (h:aw K i=t) (a:t≠[]):i<G K:=by
 rcases cC i (G K) with b|b
 .exact b
 .exact absurd ((kV K i b).symm.t h).symm a
def l9 {i n:Nat} (h:b5 (aw K i) (dc n)=true):i<G K:=by
 rcases cC i (G K) with a|a
 .exact a
 .rw [kV K i a] at h;exfalso;revert h;unfold dc;split<;>simp [b5]
def dI {t:By} {n:Nat} (h:b5 t (dc n)=true):(n=1/\t=[111,114])\/(n=2/\t=[97,110,100])\/(n=3/\(t=[61]\/t=[60]))\/(n=4/\(t=[43]\/t=[45]))\/(n=5/\(t=[42]\/t=[47]\/t=[37])):=by
 revert h;unfold dc;split<;>simp [b5]
def SC (S:By->Bool) (n:Nat):Prop:=∀ t,S t=true->t=[44]\/t=[41]\/(t=[111,114]/\2<=n)
def SC.up {n m:Nat} (h:SC S n) (d:n<=m):SC S m:=λt c=>(h t c).imp id (Or.imp id λ⟨a,b⟩=>⟨a,by omega⟩)
def I3 {t:By} {k n:Nat} (h:ij t k) (d:k=1\/k=2\/k=7\/k=8) (hs:SC S n):S t≠true/\t≠[40]/\t≠[41]:=by
 have a:t≠[44]/\t≠[41]/\t≠[111,114]/\t≠[40]:=by
  revert d;refine uF (λt k=>(k=1\/k=2\/k=7\/k=8)->t≠[44]/\t≠[41]/\t≠[111,114]/\t≠[40]) t k h (λt b _=>?_) (λt _ c _=>?_) (by decide) (by decide)
  .exact ⟨gG t _ b (by decide),gG t _ b (by decide),gG t _ b (by decide),gG t _ b (by decide)⟩
  .exact ⟨fD t _ c (by decide),fD t _ c (by decide),fD t _ c (by decide),fD t _ c (by decide)⟩
 refine ⟨λh=>?_,a.2.2.2,a.2.1⟩;rcases hs t h with h|h|⟨h,_⟩
 .exact a.1 h
 .exact a.2.1 h
 .exact a.2.2.1 h
def vu {t:By} {n:Nat} (h:b5 t (dc n)=true) (hs:SC S n):S t≠true/\t≠[40]/\t≠[41]:=by
 have a:=dI h;refine ⟨λh=>?_,?_,?_⟩
 .rcases hs t h with rfl|rfl|⟨rfl,b⟩
  .revert a;simp
  .revert a;simp
  .revert a;simp;omega
 .rintro rfl;revert a;simp
 .rintro rfl;revert a;simp
def Bl.one {o i:Nat} (e:i<G K) (hs:o=0->S (aw K i)≠true) (d:aw K i≠[40]) (c:aw K i≠[41]):Bl K S o i o (i+1):=by
 refine .step o i o (i+1) e (λ⟨a,b⟩=>hs a b) ?_;rw [oN,aA d,aA c];exact .here _ _
def Bl.opn {o i:Nat} (c:aw K i=[40]) (hs:o=0->S [40]≠true):Bl K S o i (o+1) (i+1):=by
 refine .step o i (o+1) (i+1) (bP c (by simp)) (λ⟨a,b⟩=>hs a (by rw [<- c];exact b)) ?_;rw [oN,aB c];exact .here _ _
def Bl.cls {o i:Nat} (C:aw K i=[41]):Bl K S (o+1) i o (i+1):=by
 refine .step (o+1) i o (i+1) (bP C (by simp)) (λ⟨a,_⟩=>by omega) ?_;rw [oN,aA (by rw [C];simp),aB C];exact .here _ _
def bh.bl {n i j:Nat} {p:Pt} (h:bh K n i j p):∀ (S:By->Bool) (o:Nat),(o=0->SC S n)->Bl K S o i o j:=by
 induction h with
 | atom i k z m s=>
  intro S o F;have g:SC (λ_=>false) 1:=λt H=>by cases H
  exact Bl.one z (λE=>(I3 m s (F E)).1) (I3 m s g).2.1 (I3 m s g).2.2
 | jV i j a H _ M=>
  intro S o F;refine (Bl.one (bP H (by simp)) (λE L=>?_) (by rw [H];simp) (by rw [H];simp)).t (M S o F);rw [H] at L;rcases F E _ L with h|h|⟨h,_⟩<;>cases h
 | neg i j a H _ M=>
  intro S o F;refine (Bl.one (bP H (by simp)) (λE L=>?_) (by rw [H];simp) (by rw [H];simp)).t (M S o F);rw [H] at L;rcases F E _ L with h|h|⟨h,_⟩<;>cases h
 | br i j a H _ u M=>
  intro S o F;refine (Bl.opn H (λE L=>?_)).t ((M S (o+1) (λh=>by omega)).t (Bl.cls u));rcases F E _ L with h|h|⟨h,_⟩<;>cases h
 | ifs i O C P a b c l q _ N _ v _ y e f r=>
  intro S o F;refine (Bl.one (bP l (by simp)) (λE L=>?_) (by rw [l];simp) (by rw [l];simp)).t ?_
  .rw [l] at L;rcases F E _ L with h|h|⟨h,_⟩<;>cases h
  refine (Bl.opn q (λE L=>?_)).t ?_
  .rcases F E _ L with h|h|⟨h,_⟩<;>cases h
  refine (e S (o+1) (λh=>by omega)).t ?_;refine (Bl.one (o:=o+1) (bP N (by simp)) (λE=>by omega) (by rw [N];simp) (by rw [N];simp)).t ?_;refine (f S (o+1) (λh=>by omega)).t ?_;refine (Bl.one (o:=o+1) (bP v (by simp)) (λE=>by omega) (by rw [v];simp) (by rw [v];simp)).t ?_;exact (r S (o+1) (λh=>by omega)).t (Bl.cls y)
 | up n i j a q x _ M=>exact λS o F=>M S o λE=>(F E).up (by omega)
 | more n i j D k a b q x _ d _ _ e f=>
  intro S o F;have g:SC (λ_=>false) n:=λt H=>by cases H
  refine (e S o λE=>?_).t ?_
  .by_cases w:n=3
   .rw [aB w];exact (F E).up (by omega)
   .rw [aA w];exact F E
  refine (Bl.one (l9 d) (λE=>(vu d (F E)).1) (vu d g).2.1 (vu d g).2.2).t ?_;exact f S o λE=>(F E).up (by omega)
def uG (n:Nat):SC cH n:=λt a=>by
 simp only [cH,rE,beq_iff_eq] at a;exact a.imp id zR
def LH (o:Bool) (n:Nat) (h:o=false->2<=n):SC (dG o) n:=λt a=>by
 simp only [dG,rE,beq_iff_eq,qA] at a;rcases a with (C|C)|⟨C,b⟩
 .exact zR C
 .exact zZ (zR C)
 .exact zZ (zZ ⟨b,h (by simpa using C)⟩)
def su (o:Bool) (t:By) (h:cH t=true):dG o t=true:=by
 unfold cH at h;unfold dG;rw [h];rfl
inductive Fn where
 | rule|pA (o:Bool)|test|sum|product|atom
 | lp (n:Nat) (v:Vl) (no:Bool)
 | lg (o m:Bool) (v:Vl) (no:Bool)
def iw (o:Bool):By:=if o then [111,114] else [97,110,100]
def dY (v:Vl) (no:Bool):Bool:=no||v.1 == 3
def Vu (n:Nat):Fn:=if n=4 then .product else .atom
def de (o:Bool):Fn:=if o then .pA false else .test
inductive Ev (K:List (By × Nat)) (κ:By->Vl):Fn->Nat->Vl->Nat->Bool->Prop
 | num (i:Nat):ae (aw K i)=true->Ev K κ .atom i (1,(fw (aw K i):Int)) (i+1) false
 | tru (i:Nat):aw K i=[116,114,117,101]->Ev K κ .atom i (bD true) (i+1) false
 | fls (i:Nat):aw K i=[102,97,108,115,101]->Ev K κ .atom i (bD false) (i+1) false
 | name (i:Nat):ae (aw K i)=false->bm (aw K i)=true->Ev K κ .atom i (κ (aw K i)) (i+1) (decide ((κ (aw K i)).1=0))
 | neg (i j:Nat) (v:Vl) (no:Bool):aw K i=[45]->Ev K κ .atom (i+1) v j no->Ev K κ .atom i (if no=true then v else iW (aP 1 v)) j no
 | br (i j:Nat) (v:Vl) (no:Bool):aw K i=[40]->Ev K κ .rule (i+1) v j no->aw K j=[41]->Ev K κ .atom i v (j+1) no
 | if1 (i j1 j2 j3:Nat) (u:Vl) (no:Bool):aw K i=[105,102]->aw K (i+1)=[40]->Ev K κ .rule (i+1+1) (2,1) j1 false->aw K j1=[44]->Ev K κ .rule (j1+1) u j2 no->aw K j2=[44]->jy cH K (j2+1)=j3->aw K j3=[41]->Ev K κ .atom i u (j3+1) no
 | if0 (i j1 j2 j3:Nat) (v u:Vl) (no:Bool):aw K i=[105,102]->aw K (i+1)=[40]->Ev K κ .rule (i+1+1) v j1 false->aw K j1=[44]->v.1=2->v.2≠1->jy cH K (j1+1)=j2->aw K j2=[44]->Ev K κ .rule (j2+1) u j3 no->aw K j3=[41]->Ev K κ .atom i u (j3+1) no
 | ifn (i j1 j2 j3:Nat) (v:Vl) (no:Bool):aw K i=[105,102]->aw K (i+1)=[40]->Ev K κ .rule (i+1+1) v j1 no->aw K j1=[44]->(no=true\/v.1≠2)->jy cH K (j1+1)=j2->aw K j2=[44]->jy cH K (j2+1)=j3->aw K j3=[41]->Ev K κ .atom i (if v.1=1 then cL 2 else v) (j3+1) no
 | product (i j k:Nat) (v v':Vl) (no lf:Bool):Ev K κ .atom i v j no->Ev K κ (.lp 5 v no) j v' k lf->Ev K κ .product i v' k lf
 | sum (i j k:Nat) (v v':Vl) (no lf:Bool):Ev K κ .product i v j no->Ev K κ (.lp 4 v no) j v' k lf->Ev K κ .sum i v' k lf
 | lpE (n i:Nat) (v:Vl) (no:Bool):b5 (aw K i) (dc n)=false\/dY v no=true->Ev K κ (.lp n v no) i v i no
 | lpB (n i j:Nat) (v u:Vl) (no:Bool):b5 (aw K i) (dc n)=true->dY v false=false->Ev K κ (Vu n) (i+1) u j no->dY u no=true->Ev K κ (.lp n v false) i u j no
 | lpG (n i j k:Nat) (v u v':Vl) (lf:Bool):b5 (aw K i) (dc n)=true->dY v false=false->Ev K κ (Vu n) (i+1) u j false->dY u false=false->Ev K κ (.lp n (dK v (aw K i) u) false) j v' k lf->Ev K κ (.lp n v false) i v' k lf
 | adb (i j:Nat) (v:Vl) (no:Bool):aw K i=[110,111,116]->Ev K κ .test (i+1) v j no->Ev K κ .test i (if no=true then v else nH (aP 2 v)) j no
 | Sw (i j:Nat) (v:Vl) (no:Bool):aw K i≠[110,111,116]->Ev K κ .sum i v j no->b5 (aw K j) (dc 3)=false\/dY v no=true->Ev K κ .test i v j no
 | ade (i j k:Nat) (v u:Vl) (no:Bool):aw K i≠[110,111,116]->Ev K κ .sum i v j false->b5 (aw K j) (dc 3)=true->dY v false=false->Ev K κ .sum (j+1) u k no->Ev K κ .test i (if dY u no=true then u else dK v (aw K j) u) k no
 | pA (o:Bool) (i j k:Nat) (v v':Vl) (no lf:Bool):Ev K κ (de o) i v j no->Ev K κ (.lg o false v no) j v' k lf->Ev K κ (.pA o) i v' k lf
 | lgE (o m:Bool) (i:Nat) (v:Vl) (no:Bool):aw K i≠iw o->Ev K κ (.lg o m v no) i (if m=true/\dY v no=false/\v.1≠2 then cL 2 else v) i no
 | lgW (o m:Bool) (i:Nat) (v:Vl) (no:Bool):aw K i=iw o->dY v no=false->v.1≠2->Ev K κ (.lg o m v no) i (cL 2) i no
 | lgS (o m:Bool) (i:Nat) (v:Vl) (no:Bool):aw K i=iw o->(dY v no=true\/(v.1=2/\(v.2=1↔o=true)))->Ev K κ (.lg o m v no) i v (jy (dG o) K i) no
 | lgG (o m:Bool) (i j k:Nat) (v u v':Vl) (no lf:Bool):aw K i=iw o->v.1=2->¬ (v.2=1↔o=true)->Ev K κ (de o) (i+1) u j no->Ev K κ (.lg o true u no) j v' k lf->Ev K κ (.lg o m v false) i v' k lf
 | rule (i j:Nat) (v:Vl) (no:Bool):Ev K κ (.pA true) i v j no->Ev K κ .rule i v (jy cH K j) no
def vw (i:Nat):i<=jy S K i:=Nat.le_add_right _ _
def Ev.le {f:Fn} {i k:Nat} {v:Vl} {no:Bool} (h:Ev K κ f i v k no):i<=k/\(i<=G K->k<=G K):=by
 induction h with
 | num i h=>exact ⟨by omega,λ_=>bP rfl (by rintro C;rw [C] at h;cases h)⟩
 | tru i h=>exact ⟨by omega,λ_=>bP h (by simp)⟩
 | fls i h=>exact ⟨by omega,λ_=>bP h (by simp)⟩
 | name i _ h=>exact ⟨by omega,λ_=>bP rfl (by rintro C;rw [C] at h;cases h)⟩
 | neg i j v no h _ c=>
  have:=bP h (by simp);exact ⟨by omega,λ_=>c.2 this⟩
 | br i j v no h _ p c=>
  have:=bP p (by simp);exact ⟨by omega,λ_=>this⟩
 | if1 i g l q u no C r _ p _ w s e a b=>
  have:=bP e (by simp);have:=vw (S:=cH) (K:=K) (l+1);exact ⟨by omega,λ_=>by omega⟩
 | if0 i g l q v u no C r _ p _ _ s _ _ e a b=>
  have:=bP e (by simp);have:=vw (S:=cH) (K:=K) (g+1);exact ⟨by omega,λ_=>by omega⟩
 | ifn i g l q v no C r _ p _ s _ t e a=>
  have:=bP e (by simp);have:=vw (S:=cH) (K:=K) (g+1);have:=vw (S:=cH) (K:=K) (l+1);exact ⟨by omega,λ_=>by omega⟩
 | product i j k v D no d _ _ a b=>exact ⟨by omega,λh=>b.2 (a.2 h)⟩
 | sum i j k v D no d _ _ a b=>exact ⟨by omega,λh=>b.2 (a.2 h)⟩
 | lpE=>exact ⟨aG _,id⟩
 | lpB n i j v u no h _ _ _ c=>exact ⟨by omega,λ_=>c.2 (l9 h)⟩
 | lpG n i j k v u D d h _ _ _ _ a b=>exact ⟨by omega,λ_=>b.2 (a.2 (l9 h))⟩
 | adb i j v no h _ c=>exact ⟨by omega,λ_=>c.2 (bP h (by simp))⟩
 | Sw i j v no _ _ _ c=>exact c
 | ade i j k v u no _ _ h _ _ a b=>exact ⟨by omega,λ_=>b.2 (l9 h)⟩
 | pA o i j k v D no d _ _ a b=>exact ⟨by omega,λh=>b.2 (a.2 h)⟩
 | lgE=>exact ⟨aG _,id⟩
 | lgW=>exact ⟨aG _,id⟩
 | lgS=>exact ⟨vw _,λh=>Sv h⟩
 | lgG o m i j k v u D no d h _ _ _ _ a b=>
  have:i<G K:=bP h (by unfold iw;split<;>simp);exact ⟨by omega,λ_=>b.2 (a.2 this)⟩
 | rule i j v no _ c=>exact ⟨bf c.1 (vw _),λh=>Sv (c.2 h)⟩
end
section
attribute [local go_sem] ap aq
variable {w w' W:zW} {q cl cf i U j:Nat} {al af:Option zD} {K:List (By × Nat)} {fs:List RF} {no Z:Bool}
structure gp (q:Nat) (al:Option zD) (cl:Nat) (af:Option zD) (cf:Nat) (K:List (By × Nat)) (fs:List RF) (w:zW) (i:Nat) (no:Bool):Prop where
 row:w.heap[q]?=A (zM #[B al (G K) cl,J i,B af (G fs) cf,zF no] 245 (0,0))
 tok:∀ j (hj:j<G K),∃ g,al=A (yh g)/\g≠q/\g<w.heap.size/\w.cell? (X g (j*2))=A (Q K[j].1)
 bX:dU w (B af (G fs) cf) fs
 neq:∀ a,af=A a->a.block≠q
 tl:G K<=1000
def gp.kp (h:gp q al cl af cf K fs w i no) (k:Kp q w w') (s:w'.heap[q]?=A (zM #[B al (G K) cl,J U,B af (G fs) cf,zF Z] 245 (0,0))):gp q al cl af cf K fs w' U Z:=by
 refine ⟨s,λj t=>?_,?_,h.neq,h.tl⟩
 .obtain ⟨g,b,d,l,u⟩:=h.tok j t;exact ⟨g,b,d,bG l k.size,(aS (k.heap d l) _).t u⟩
 .obtain ⟨r,a,c,e,b⟩:=h.bX;refine ⟨r,a,c,e,b.imp id ?_⟩;rintro ⟨g,o,p,n,v⟩;have m:g≠q:=by
   cases e;exact h.neq _ p
  refine ⟨g,o,p,bG n k.size,λi f y=>?_⟩;obtain ⟨x,b,d,l⟩:=v i f y;have e:=aS (k.heap m n);exact ⟨(e _).t x,(e _).t b,(e _).t d,(e _).t l⟩
def gp.lt (h:gp q al cl af cf K fs w i no):q<w.heap.size:=(cz.1 h.row).1
def gp.next (h:gp q al cl af cf K fs w i no) (a:zB w w'):gp q al cl af cf K fs w' i no:=h.kp (Kp.of a h.lt) ((a.block q h.lt).t h.row)
def gp.Q7 (h:gp q al cl af cf K fs w i no) (U:Nat):gp q al cl af cf K fs (w.setCell (X q 1) (J U)) U no:=h.kp (Kp.here w 1 _) ((aj h.row 1 _).t rfl)
def gp.am0 (h:gp q al cl af cf K fs w i no) (Z:Bool):gp q al cl af cf K fs (w.setCell (X q 3) (zF Z)) i Z:=h.kp (Kp.here w 3 _) ((aj h.row 3 _).t rfl)
def fS (h:gp q al cl af cf K fs w i no):zC prog 209 #[zJ q] w λr w'=>r=zP (Q (aw K i))/\zB w w':=by
 obtain ⟨⟨j,k,l,n⟩,⟨f0,f1,f2,f3⟩,b⟩:=aX h.row;have e:(G K:Int)<=1000:=a6.2 h.tl;rcases cC i (G K) with a|a
 .obtain ⟨g,rfl,m,o,f⟩:=h.tok i a;rw [<- eY K i a] at f;have d:=eu a;clear h;go_in;go_wp2_with fail
  go_quiet (fail)
  go_wp2_with fail
  go_quiet (fail)
  go_wp2_with fail;go_ret;exact ⟨rfl,lG (lG (aM _ _) _) _⟩
 .have c:=eH a;rw [kV K i a];clear h;go_in;go_wp2_with fail
  go_quiet (fail)
  go_wp2_with fail;go_ret;exact ⟨rfl,lG (aM _ _) _⟩
end
section
variable {K:List (By × Nat)} {κ:By->Vl} {S:By->Bool} {i j Z k n:Nat} {p a b:Pt} {v u:Vl} {no:Bool}
def l8 (v:Vl):Prop:=v.1=1\/(v.1=2/\(v.2=0\/v.2=1))\/v.1=3
def LI (κ:By->Vl):Prop:=∀ x,(κ x).1≠0->l8 (κ x)
def fO (κ:By->Vl):Pt->Option Vl
 | .atom k C n=>if k=1 then A (1,(n:Int)) else if k=7 then A (bD true) else if k=8 then A (bD false) else if (κ C).1=0 then none else A (κ C)
 | .un k a=>match fO κ a with
  | none=>none
  | some v=>A (if k=9 then v else if k=14 then iW (aP 1 v) else nH (aP 2 v))
 | .bin k a b=>match fO κ a with
  | none=>none
  | some v=>
   if k=4\/k=5 then
    if aP 2 v=(2,if k=4 then 0 else 1)\/(aP 2 v).1=3 then A (aP 2 v) else match fO κ b with|none=>none|some u=>A (aP 2 u)
   else if v.1=3 then A v else match fO κ b with|none=>none|some u=>A (fR k v u)
 | .ifs a b c=>match fO κ a with
  | none=>none
  | some v=>if aP 2 v=(2,1) then fO κ b else if aP 2 v=(2,0) then fO κ c else A (aP 2 v)
def na (b:Bool):l8 (bD b):=by cases b<;>simp [l8,bD]
def DN (n:Int):l8 (cL n):=zZ (zZ rfl)
def kR (k:Int) (h:l8 v):l8 (aP k v):=by
 unfold aP;split
 .exact DN _
 .exact h
def E0 (h:l8 v):l8 (iW v):=by
 unfold iW;split
 .exact h
 .exact zR rfl
def RH (h:l8 v):l8 (nH v):=by
 unfold nH;split
 .exact h
 .exact na _
def oi (k:Nat) (a b:Int):l8 (iX k a b):=by
 unfold iX
 repeat' split
 all_goals first|exact zR rfl|exact na _|exact DN _
def RJ (k:Nat) (h:l8 v) (g:l8 u):l8 (fR k v u):=by
 unfold fR
 repeat' split
 all_goals first|exact h|exact g|exact oi _ _ _|exact na _|exact DN _
def Sx (r:LI κ):∀ (p:Pt) (v:Vl),fO κ p=A v->l8 v:=by
 intro p
 induction p with
 | atom k D n=>
  intro v h;unfold fO at h;split at h
  .cases h;exact zR rfl
  .split at h
   .cases h;exact na _
   .split at h
    .cases h;exact na _
    .split at h
     .cases h
     .rename_i q;cases h;exact r D q
 | un k a o=>
  intro v h;unfold fO at h;split at h
  .cases h
  .rename_i C e;have g:=o C e;cases h;split
   .exact g
   .split
    .exact E0 (kR _ g)
    .exact RH (kR _ g)
 | bin k a b i f=>
  intro v h;unfold fO at h;split at h
  .cases h
  .rename_i C e;have g:=i C e;generalize (if k=4 then (0:Int) else 1)=d at h;split at h
   .split at h
    .cases h;exact kR _ g
    .split at h
     .cases h
     .rename_i m l;cases h;exact kR _ (f m l)
   .split at h
    .cases h;exact g
    .split at h
     .cases h
     .rename_i m l;cases h;exact RJ _ g (f m l)
 | ifs a b c i f j=>
  intro v h;unfold fO at h;split at h
  .cases h
  .rename_i C e;have g:=i C e;split at h
   .exact f v h
   .split at h
    .exact j v h
    .cases h;exact kR _ g
def nU (κ:By->Vl) (p:Pt) (v:Vl) (no:Bool):Prop:=(no=false/\fO κ p=A v)\/(no=true/\fO κ p=none)
def I4 (h:dY v no=false):no=false/\v.1≠3:=by
 cases no
 .exact ⟨rfl,by simpa [dY] using h⟩
 .cases h
def vx (h:v.1≠3):dY v false=false:=by simpa [dY] using h
def nJ (h:dY v no=true):no=true\/(no=false/\v.1=3):=by
 cases no
 .exact zZ ⟨rfl,by simpa [dY] using h⟩
 .exact zR rfl
def QK (h:v.1=3):dY v no=true:=by simp [dY,h]
def nU.some (h:nU κ p v no) (hs:dY v no=false):fO κ p=A v/\v.1≠3/\no=false:=by
 obtain ⟨b,a⟩:=I4 hs;subst b;rcases h with ⟨_,h⟩|⟨h,_⟩
 .exact ⟨h,a,rfl⟩
 .cases h
def Gf (n:Nat):List By:=match n with
 | 0=>[[44],[41]]
 | 1=>[[44],[41],[111,114]]
 | 2=>[[44],[41],[111,114],[97,110,100]]
 | _=>[[44],[41],[111,114],[97,110,100],[61],[60],[43],[45]]
def Gl (K:List (By × Nat)) (n j:Nat):Prop:=G K<=j\/aw K j∈Gf n
def Gl.tok (h:Gl K n j):aw K j=[]\/aw K j∈Gf n:=h.imp (λh=>kV K j h) id
def Gl.no5 (h:Gl K 3 j):b5 (aw K j) (dc 5)=false:=by
 rcases h.tok with h|h
 .rw [h];decide
 .revert h;generalize aw K j=t;revert t;decide
def Gl.no4 (h:Gl K 2 j\/b5 (aw K j) (dc 3)=true):b5 (aw K j) (dc 4)=false:=by
 rcases h with h|h
 .rcases h.tok with h|h
  .rw [h];decide
  .revert h;generalize aw K j=t;revert t;decide
 .rcases dI h with h|h|⟨_,h|h⟩|h|h
  .omega
  .omega
  .rw [h];decide
  .rw [h];decide
  .omega
  .omega
def Gl.no3 (h:Gl K 2 j):b5 (aw K j) (dc 3)=false:=by
 rcases h.tok with h|h
 .rw [h];decide
 .revert h;generalize aw K j=t;revert t;decide
def Gl.I5 (h:Gl K 1 j):aw K j≠[97,110,100]:=by
 rcases h.tok with h|h
 .rw [h];decide
 .revert h;generalize aw K j=t;revert t;decide
def Gl.no1 (h:Gl K 0 j):aw K j≠[111,114]:=by
 rcases h.tok with h|h
 .rw [h];decide
 .revert h;generalize aw K j=t;revert t;decide
def QM (t:By):(t∈Gf 0->t∈Gf 1)/\(t∈Gf 1->t∈Gf 2)/\(t∈Gf 2->t∈Gf 3):=
 ⟨(by decide:∀ t∈Gf 0,t∈Gf 1) t,(by decide:∀ t∈Gf 1,t∈Gf 2) t,(by decide:∀ t∈Gf 2,t∈Gf 3) t⟩
def Gl.up0 (h:Gl K 0 j):Gl K 1 j:=h.imp id (QM _).1
def Gl.up1 (h:Gl K 1 j):Gl K 2 j:=h.imp id (QM _).2.1
def Gl.up2 (h:Gl K 2 j):Gl K 3 j:=h.imp id (QM _).2.2
def Gl.s4 (h:b5 (aw K j) (dc 4)=true):Gl K 3 j:=by
 refine zZ ?_;rcases dI h with h|h|h|⟨_,h|h⟩|h
 .omega
 .omega
 .omega
 .rw [h];decide
 .rw [h];decide
 .omega
def Gl.s3 (h:b5 (aw K j) (dc 3)=true):Gl K 3 j:=by
 refine zZ ?_;rcases dI h with h|h|⟨_,h|h⟩|h|h
 .omega
 .omega
 .rw [h];decide
 .rw [h];decide
 .omega
 .omega
def Gl.s2 (h:aw K j=[97,110,100]):Gl K 2 j:=zZ (by rw [h];decide)
def Gl.s1 (h:aw K j=[111,114]):Gl K 1 j:=zZ (by rw [h];decide)
def Gl.over (h:Gl K 1 j):G K<=j\/dG false (aw K j)=true:=by refine h.imp id ?_;generalize aw K j=t;revert t;decide
def Gl.pass (h:Gl K 0 j):G K<=j\/cH (aw K j)=true:=by refine h.imp id ?_;generalize aw K j=t;revert t;decide
def Gl.ajF (h:Gl K 0 j):G K<=j\/dG true (aw K j)=true:=h.pass.imp id (su true _)
def Md (K:List (By × Nat)) (n k j:Nat):Prop:=(∃ m,n<=m/\b5 (aw K k) (dc m)=true)/\Bl K cH 0 k 0 j
def Md.up {n m k j:Nat} (h:Md K n k j) (c:m<=n):Md K m k j:=⟨h.1.imp λ_ ⟨a,b⟩=>⟨by omega,b⟩,h.2⟩
def Md.on (h:Md K n k j) (a:Bl K cH 0 j 0 Z):Md K n k Z:=⟨h.1,h.2.t a⟩
def Fin (K:List (By × Nat)) (κ:By->Vl) (f:Fn) (n i j:Nat) (p:Pt):Prop:=∃ v k no,Ev K κ f i v k no/\nU κ p v no/\(k=j\/(dY v no=true/\Md K n k j))
def TL (K:List (By × Nat)) (κ:By->Vl) (f:Fn) (n i j:Nat) (p:Pt):Prop:=
 (∃ u,fO κ p=A u/\u.1≠3/\∀ v k no,Ev K κ (.lp n u false) j v k no->Ev K κ f i v k no) \/
 (∃ v k no,Ev K κ f i v k no/\nU κ p v no/\dY v no=true/\(k=j\/Md K n k j))
def TL.fin {f:Fn} (h:TL K κ f n i j p) (d:b5 (aw K j) (dc n)=false):Fin K κ f n i j p:=by
 rcases h with ⟨u,a,c,b⟩|⟨v,k,no,a,c,b,e⟩
 .exact ⟨u,j,false,b _ _ _ (.lpE n j u false (zR d)),zR ⟨rfl,a⟩,zR rfl⟩
 .exact ⟨v,k,no,a,c,e.imp id λh=>⟨b,h⟩⟩
def TL.up {f:Fn} (e:∀ i j k v v' no a,Ev K κ (Vu n) i v j no->Ev K κ (.lp n v no) j v' k a->Ev K κ f i v' k a) (h:Fin K κ (Vu n) (n+1) i j p):TL K κ f n i j p:=by
 obtain ⟨v,k,no,c,d,g⟩:=h;cases C:dY v no
 .obtain ⟨e1,l,rfl⟩:=d.some C;have b:k=j:=g.resolve_right λh=>(by rw [C] at h;cases h.1);subst b;exact zR ⟨v,e1,l,λv' o a m=>e _ _ _ _ _ _ _ c m⟩
 .exact zZ ⟨v,k,no,e _ _ _ _ _ _ _ c (.lpE n k v no (zZ C)),d,C,g.imp id λh=>h.2.up (by omega)⟩
def vy {t:By} {n k:Nat} (c:b5 t (dc n)=true) (l:3<=n) (j:ij t k) (g:v.1≠3) (f:u.1≠3):dK v t u=fR k v u/\¬ (k=4\/k=5):=by
 have a:∀ (x:By) (m:Nat),(x,m)∈eb->t=x->k=m:=λx m i h=>(cQ x m i t k j).2 h;rcases dI c with h|h|⟨_,h|h⟩|⟨_,h|h⟩|⟨_,h|h|h⟩
 .omega
 .omega
 all_goals
  first
  | (have b:=a _ 18 (by subst h;decide) h)
  | (have b:=a _ 19 (by subst h;decide) h)
  | (have b:=a _ 12 (by subst h;decide) h)
  | (have b:=a _ 13 (by subst h;decide) h)
  | (have b:=a _ 15 (by subst h;decide) h)
  | (have b:=a _ 16 (by subst h;decide) h)
  | (have b:=a _ 17 (by subst h;decide) h)
  subst b;subst h;refine ⟨?_,by decide⟩;obtain ⟨C,D⟩:=v;obtain ⟨u1,u2⟩:=u;simp only at g f;unfold dK fR iX;rw [aA g,aA f];by_cases d:C=1/\u1=1
  .simp [d]
  .by_cases e:C=u1
   .simp [e]
   .simp [d,e]
def vz (e:¬ (k=4\/k=5)) (c:fO κ a=A v) (d:v.1≠3):fO κ (.bin k a b)=match fO κ b with|none=>none|some u=>A (fR k v u):=by
 rw [fO,c];simp only;rw [aA e,aA d]
def LJ (d:¬ (k=4\/k=5)) (c:nU κ a v no) (hs:dY v no=true):nU κ (.bin k a b) v no:=by
 rcases c with ⟨rfl,c⟩|⟨rfl,c⟩
 .refine zR ⟨rfl,?_⟩;rw [fO,c];simp only;rw [aA d,aB ((nJ hs).resolve_left (by simp)).2]
 .refine zZ ⟨rfl,?_⟩;rw [fO,c]
def Sz (a:v.1≠3) (b:u.1=3):fR k v u=u:=by
 unfold fR;rw [aA a,aB b]
def TL.more {f:Fn} {t:By} (H:aw K j=t) (C:3<=n) (h:TL K κ f n i j a) (c:b5 (aw K j) (dc n)=true) (Q0:ij (aw K j) k) (F:Fin K κ (Vu n) (n+1) (j+1) Z b) (x:Bl K cH 0 j 0 Z):TL K κ f n i Z (.bin k a b):=by
 have o:¬ (k=4\/k=5):=(vy (v:=(1,0)) (u:=(1,0)) c C Q0 (by decide) (by decide)).2;rcases h with ⟨u,m,d,l⟩|⟨v,G,no,m,d,L,s⟩
 .obtain ⟨M,g,N,r,O,w⟩:=F;cases L:dY M N
  .obtain ⟨e1,D,rfl⟩:=O.some L;have p:g=Z:=w.resolve_right λh=>(by rw [L] at h;cases h.1);subst p;have z:=(vy c C Q0 d D).1;have y:fO κ (.bin k a b)=A (fR k u M):=by rw [vz o m d,e1]
   by_cases q:(fR k u M).1=3
   .refine zZ ⟨fR k u M,g,false,?_,zR ⟨rfl,y⟩,QK q,zR rfl⟩;refine l _ _ _ (.lpG n j g g u M _ false c (vx d) r L ?_);rw [z];exact .lpE n g _ false (zZ (QK q))
   .refine zR ⟨fR k u M,y,q,λv k no E=>?_⟩;refine l _ _ _ (.lpG n j g k u M v no c (vx d) r L ?_);rw [z];exact E
  .refine zZ ⟨M,g,N,l _ _ _ (.lpB n j g u M N c (vx d) r L),?_,L,w.imp id λh=>h.2.up (by omega)⟩;rcases O with ⟨rfl,e⟩|⟨rfl,e⟩
   .refine zR ⟨rfl,?_⟩;rw [vz o m d,e];simp only;rw [Sz d ((nJ L).resolve_left (by simp)).2]
   .refine zZ ⟨rfl,?_⟩;rw [vz o m d,e]
 .refine zZ ⟨v,G,no,m,LJ o d L,L,zZ ?_⟩;rcases s with rfl|s
  .exact ⟨⟨n,aG _,c⟩,x⟩
  .exact s.on x
def bh.first {n i j:Nat} {p:Pt} (h:bh K n i j p):4<=n->aw K i≠[110,111,116]:=by
 induction h with
 | atom i k t f s=>
  intro _ h;rw [h] at f;have:=(cQ [110,111,116] 6 (by decide) _ k f).2 rfl;omega
 | jV=>intro h;omega
 | neg i j a d=>intro _;rw [d];simp
 | br i j a d=>intro _;rw [d];simp
 | ifs i o r q a b c d=>intro _;rw [d];simp
 | up n i j a g m _ l=>intro h;exact l (by omega)
 | more n i j Z k a b g m _ _ _ _ e _=>
  intro h;refine e ?_;split<;>omega
def oj (d:aw K i≠[110,111,116]) (h:Fin K κ .sum 4 i j p) (c:b5 (aw K j) (dc 3)=false):Fin K κ .test 3 i j p:=by
 obtain ⟨v,k,no,b,e,a⟩:=h;refine ⟨v,k,no,.Sw i k v no d b ?_,e,a.imp id λh=>⟨h.1,h.2.up (by omega)⟩⟩;rcases a with rfl|a
 .exact zR c
 .exact zZ a.1
def QN (x:aw K i≠[110,111,116]) (D:Fin K κ .sum 4 i j a) (c:b5 (aw K j) (dc 3)=true) (s:ij (aw K j) k) (Q0:Fin K κ .sum 4 (j+1) Z b) (r:Bl K cH 0 j 0 Z):Fin K κ .test 3 i Z (.bin k a b):=by
 have l:¬ (k=4\/k=5):=(vy (v:=(1,0)) (u:=(1,0)) c (aG 3) s (by decide) (by decide)).2;obtain ⟨v,g,no,t,w,m⟩:=D;cases E:dY v no
 .obtain ⟨e1,f,rfl⟩:=w.some E;have o:g=j:=m.resolve_right λh=>(by rw [E] at h;cases h.1);subst o;obtain ⟨u,p,F,C,y,q⟩:=Q0;refine ⟨_,p,F,.ade i g p v u F x t c E C,?_⟩;cases d:dY u F
  .obtain ⟨H,z,rfl⟩:=y.some d;have n:p=Z:=q.resolve_right λh=>by rw [d] at h;cases h.1
   rw [aA (by simp)];refine ⟨zR ⟨rfl,?_⟩,zR n⟩;rw [vz l e1 f,H,(vy c (aG 3) s f z).1]
  .rw [aB rfl];refine ⟨?_,q.imp id λh=>⟨d,h.2.up (by omega)⟩⟩;rcases y with ⟨rfl,e⟩|⟨rfl,e⟩
   .refine zR ⟨rfl,?_⟩;rw [vz l e1 f,e];simp only;rw [Sz f ((nJ d).resolve_left (by simp)).2]
   .refine zZ ⟨rfl,?_⟩;rw [vz l e1 f,e]
 .refine ⟨v,g,no,.Sw i g v no x t (zZ E),LJ l w E,zZ ⟨E,?_⟩⟩;rcases m with rfl|m
  .exact ⟨⟨3,aG _,c⟩,r⟩
  .exact (m.2.up (by omega)).on r
def Vw (d:aw K i=[110,111,116]) (h:Fin K κ .test 3 (i+1) j a):Fin K κ .test 3 i j (.un 6 a):=by
 obtain ⟨v,k,no,c,f,g⟩:=h;refine ⟨_,k,no,.adb i k v no d c,?_,g.imp id λh=>⟨?_,h.2⟩⟩
 .rcases f with ⟨rfl,e⟩|⟨rfl,e⟩
  .refine zR ⟨rfl,?_⟩;rw [fO,e];rfl
  .refine zZ ⟨rfl,?_⟩;rw [fO,e]
 .rcases nJ h.1 with rfl|⟨rfl,b⟩
  .rfl
  .rw [aA (by simp)];refine QK ?_;have e:aP 2 v=v:=(by unfold aP;rw [aA (by omega)]);rw [e];unfold nH;rw [aB b];exact b
variable {F w w' W w1 w2:zW} {T Z:Nat->Prop} {E:List En} {e:Nat} {a:Ab} {s:By} {l:Ln}
def Kt.below (h:Kt T w w1) (c:∀ q,T q->q<w1.heap.size) (a:zB w1 w2):Kt T w w2:=h.t ⟨a.size,λq b=>a.block q (c q b)⟩
def Lv (F:zW) (T:Nat->Prop) (E:List En) (w w':zW):Prop:=Kt T w w'/\jH F T E w'
def Lv.next (h:Lv F T E w w1) (a:zB w1 w2):Lv F T E w w2:=⟨h.1.below h.2.P5 a,h.2.next a⟩
end
section
attribute [local go_sem] ap aq
variable {w w' W:zW} {q cl cf i U j:Nat} {al af:Option zD} {K:List (By × Nat)} {fs:List RF} {no Z:Bool}
def dC (v:Vl) (h:gp q al cl af cf K fs w i no):zC prog 210 #[zJ q,gH v] w λr w'=>r=zP (zF (dY v no))/\zB w w':=by
 obtain ⟨⟨b,c,d,e⟩,⟨f0,f1,f2,f3⟩,a⟩:=aX h.row;obtain ⟨g,f⟩:=v;clear h;unfold dY;cases no
 .go_in;go_wp2_with fail;go_ret;exact ⟨rfl,(aM _ _).alloc (aG _) _⟩
 .go_in;go_wp2_with fail;go_ret;exact ⟨rfl,(aM _ _).alloc (aG _) _⟩
def LN {S:By->Bool} {j o C:Nat} (a:j<G K) (b:¬ (o=0/\S (aw K j)=true)) (h:j+qu S (K.drop j) o=C):j+1+qu S (K.drop (j+1)) (oN (aw K j) o)=C:=by
 obtain ⟨n,e⟩:=vr a;rw [e,qu,aA b] at h;have c:j+(qu S (K.drop (j+1)) (oN (aw K j) o)+1)=C:=h;omega
def LO {S:By->Bool} {j C:Nat} (b:j<G K) (a:S (aw K j)=true) (h:j+qu S (K.drop j) 0=C):j=C:=by
 obtain ⟨n,e⟩:=vr b;rw [e,qu,aB ⟨rfl,a⟩] at h;exact h
def SA {S:By->Bool} {j o C:Nat} (a:G K<=j) (h:j+qu S (K.drop j) o=C):j=C:=by
 rw [List.drop_eq_nil_of_le a] at h;exact h
def dv {o:Nat} (h:o≠0):((o:Int) == 0)=false:=by simp;omega
def SB {t:By} {o j:Nat} (h:o<=j):oN t o<=j+1:=by
 unfold oN;split
 .omega
 .split<;>omega
def fd {o:Nat}:((oN [40] o:Nat):Int)=(o:Int)+1:=rfl
def oA {o:Nat} (h:o≠0):((oN [41] o:Nat):Int)=(o:Int) - 1:=by
 show ((o - 1:Nat):Int)=_;omega
def ec {t:By} {o:Nat} (b:t≠[40]) (a:t≠[41]):((oN t o:Nat):Int)=(o:Int):=by
 unfold oN;rw [aA b,aA a]
def oE:Bool->By|true=>[111,114]|false=>[97,110,100]
inductive OvS:Bool->By->Prop
 | c b:OvS b [44]
 | r b:OvS b [41]
 | or:OvS false [111,114]
inductive QR:Bool->By->Nat->Prop
 | l0 b:Hid (((oN [40] 0:Nat):Int)=((0:Nat):Int)+1)->QR b [40] 0
 | l b (o:Nat):((o:Int) == 0)=false->Hid (((oN [40] o:Nat):Int)=(o:Int)+1)->QR b [40] o
 | r b (o:Nat):((o:Int) == 0)=false->(1:Int)<=(o:Int)->Hid (((oN [41] o:Nat):Int)=(o:Int) - 1)->QR b [41] o
 | x1 t:(t == [40])=false->(t == [41])=false->(t == [44])=false->Hid (((oN t 0:Nat):Int)=((0:Nat):Int))->QR true t 0
 | x0 t:(t == [40])=false->(t == [41])=false->(t == [44])=false->(t == [111,114])=false->Hid (((oN t 0:Nat):Int)=((0:Nat):Int))->QR false t 0
 | x b t (o:Nat):(t == [40])=false->(t == [41])=false->((o:Int) == 0)=false->Hid (((oN t o:Nat):Int)=(o:Int))->QR b t o
def ff {b:Bool} {t:By} (h:dG b t=true):OvS b t:=by
 cases b
 .rcases (by simpa [dG] using h:(t=[44]\/t=[41])\/t=[111,114]) with (rfl|rfl)|rfl
  .exact .c _
  .exact .r _
  .exact .or
 .rcases (by simpa [dG] using h:t=[44]\/t=[41]) with rfl|rfl
  .exact .c _
  .exact .r _
def fm {b:Bool} {t:By} {o:Nat} (h:¬ (o=0/\dG b t=true)):QR b t o:=by
 by_cases c:t=[40]
 .subst c;by_cases d:o=0
  .subst d;exact .l0 b (I fd)
  .exact .l b o (dv d) (I fd)
 .by_cases a:t=[41]
  .subst a;have d:o≠0:=λe=>h ⟨e,by cases b<;>decide⟩;exact .r b o (dv d) (by omega) (I (oA d))
  .have f:=bo.2 c;have g:=bo.2 a;by_cases d:o=0
   .subst d;have i:(t == [44])=false:=bo.2 λe=>h ⟨rfl,by rw [e];cases b<;>decide⟩;cases b
    .exact .x0 t f g i (bo.2 λe=>h ⟨rfl,by rw [e];decide⟩) (I (ec c a))
    .exact .x1 t f g i (I (ec c a))
   .exact .x b t o f g (dv d) (I (ec c a))
def FQ (t:By):cH t=dG true t:=by simp [cH,dG]
def BW (h:gp q al cl af cf K fs w i no) (Y:i<=G K):zC prog 186 #[zJ q] w λr w'=>r=zP (zp #[])/\gp q al cl af cf K fs w' (jy cH K i) no/\Kp q w w':=by
 have V:=I h;have HI:(G K:Int)<=1000:=a6.2 h.tl;clear h;go_in;go_wp2_with fail;go_loopg [2] (G K) (λgk x wr=>∃ j o:Nat,j<=G K/\o<=j/\G K<=j+gk/\x=J o/\Hid (gp q al cl af cf K fs wr j no/\Kp q w wr/\j+qu cH (K.drop j) o=jy cH K i))
 case atStart=>exact ⟨i,0,Y,bE _,Nat.le_add_left _ _,rfl,I ⟨V.o,Kp.refl _ _,rfl⟩⟩
 case round=>
  obtain ⟨j,o,e,N,f,rfl,L⟩:=hrel;obtain ⟨⟨u,y,C,F⟩,⟨f0,f1,f2,f3⟩,R⟩:=aX L.o.1.row;rcases cC j (G K) with a|a
  .obtain ⟨g,rfl,E,H,z⟩:=L.o.1.tok j a;rw [<- eY K j a] at z;have s:=eu a;have P:=I (eJ a f);have n:=I (show o<=j/\j<=1000 from ⟨N,bf e L.o.1.tl⟩);have ho:(o:Int)<=1000:=a6.2 (bf N (bf e L.o.1.tl));have l:(j:Int)<=1000:=a6.2 (bf e L.o.1.tl);have D:=I (rfl:aw K j=aw K j);have d:=I (λh m=>LO (S:=cH) a h m:cH (aw K j)=true->j+qu cH (K.drop j) 0=jy cH K i->j=jy cH K i);have c:=I (λp=>LN (S:=cH) a p L.o.2.2:¬ (o=0/\cH (aw K j)=true)->j+1+qu cH (K.drop (j+1)) (oN (aw K j) o)=jy cH K i);clear e N;generalize aw K j=t at *;by_cases M:o=0/\cH t=true
   .obtain ⟨rfl,M⟩:=M;have O:=I (d.o M L.o.2.2);clear c d;have N:=ff (b:=true) (FQ t▸M);clear M;rcases N with _|_|_
    all_goals
     go_wp2_with fail
     go_quiet (fail)
     go_wp2_with fail
     go_quiet (fail)
     go_wp2_with fail;refine aK (v:=zp #[]) (by simp [results,results186,go_sem]) rfl ?_;exact ⟨rfl,O.o▸L.o.1.next (lG (aM _ _) _),L.o.2.1.next (lG (aM _ _) _) R⟩
   .have O:=I (c.o M);have T:=I (SB (t:=t) n.o.1);clear c d;have N:=fm (b:=true) (FQ t▸M);clear M;cases N
    all_goals
     go_wp2_with fail
     go_quiet (fail)
     go_wp2_with fail
     go_quiet (fail)
     go_wp2_with fail;go_roundg (G K - (j+1))
     case measure=>exact P.o.2.1
     case rel=>exact ⟨j+1,_,P.o.2.2,T.o,P.o.1,eL (Value.int .i64) (‹Hid (((oN _ _:Nat):Int)=_)›).o.symm,I ⟨(L.o.1.next (lG (aM _ _) _)).Q7 (j+1),(L.o.2.1.next (lG (aM _ _) _) R).t (Kp.here _ 1 _),O.o⟩⟩
  .have k:=eH a;have O:=I (SA a L.o.2.2);go_wp2_with fail
   go_quiet (fail)
   go_wp2_with fail;refine bodyPost_end (v:=zp #[]) (by simp [results,results186,go_sem]) rfl ?_;exact ⟨rfl,O.o▸L.o.1.next (lG (aM _ _) _),L.o.2.1.next (lG (aM _ _) _) R⟩
def LP {Q4:Bool} (b:Bool) (k:Q4=b) (h:gp q al cl af cf K fs w i no) (m:i<=G K):zC prog 212 #[zJ q,Q (oE b)] w λr w'=>r=zP (zp #[])/\gp q al cl af cf K fs w' (jy (dG Q4) K i) no/\Kp q w w':=by
 have Y:=I h;have eQ:(G K:Int)<=1000:=a6.2 h.tl;have l:=I k;clear h k;cases b
 all_goals
  go_in;go_wp2_with fail;go_loopg [4] (G K) (λgk x wr=>∃ j o:Nat,j<=G K/\o<=j/\G K<=j+gk/\x=J o/\Hid (gp q al cl af cf K fs wr j no/\Kp q w wr/\j+qu (dG Q4) (K.drop j) o=jy (dG Q4) K i))
  case atStart=>exact ⟨i,0,m,bE _,Nat.le_add_left _ _,rfl,I ⟨Y.o,Kp.refl _ _,rfl⟩⟩
  case round=>
   obtain ⟨j,o,e,N,f,rfl,M⟩:=hrel;obtain ⟨⟨D,E,F,y⟩,⟨f0,f1,f2,f3⟩,T⟩:=aX M.o.1.row;rcases cC j (G K) with a|a
   .obtain ⟨g,rfl,z,L,C⟩:=M.o.1.tok j a;rw [<- eY K j a] at C;have HX:=eu a;have R:=I (eJ a f);have s:=I (show o<=j/\j<=1000 from ⟨N,bf e M.o.1.tl⟩);have n:(o:Int)<=1000:=a6.2 (bf N (bf e M.o.1.tl));have ho:(j:Int)<=1000:=a6.2 (bf e M.o.1.tl);have H:=I (rfl:aw K j=aw K j);have d:=I (λh p=>LO (S:=(dG Q4)) a h p:(dG Q4) (aw K j)=true->j+qu (dG Q4) (K.drop j) 0=jy (dG Q4) K i->j=jy (dG Q4) K i);have c:=I (λu=>LN (S:=(dG Q4)) a u M.o.2.2:¬ (o=0/\(dG Q4) (aw K j)=true)->j+1+qu (dG Q4) (K.drop (j+1)) (oN (aw K j) o)=jy (dG Q4) K i);clear e N;generalize aw K j=t at *;by_cases O:o=0/\(dG Q4) t=true
    .obtain ⟨rfl,O⟩:=O;have P:=I (d.o O M.o.2.2);clear c d;have N:=ff O;rw [l.o] at N;clear O;rcases N with _|_|_
     all_goals
      go_wp2_with fail
      go_quiet (fail)
      go_wp2_with fail
      go_quiet (fail)
      go_wp2_with fail;refine aK (v:=zp #[]) (by simp [results,results212,go_sem]) rfl ?_;exact ⟨rfl,P.o▸M.o.1.next (lG (aM _ _) _),M.o.2.1.next (lG (aM _ _) _) T⟩
    .have P:=I (c.o O);have V:=I (SB (t:=t) s.o.1);clear c d;have N:=fm O;rw [l.o] at N;clear O;cases N
     all_goals
      go_wp2_with fail
      go_quiet (fail)
      go_wp2_with fail
      go_quiet (fail)
      go_wp2_with fail;go_roundg (G K - (j+1))
      case measure=>exact R.o.2.1
      case rel=>exact ⟨j+1,_,R.o.2.2,V.o,R.o.1,eL (Value.int .i64) (‹Hid (((oN _ _:Nat):Int)=_)›).o.symm,I ⟨(M.o.1.next (lG (aM _ _) _)).Q7 (j+1),(M.o.2.1.next (lG (aM _ _) _) T).t (Kp.here _ 1 _),P.o⟩⟩
   .have HI:=eH a;have P:=I (SA a M.o.2.2);go_wp2_with fail
    go_quiet (fail)
    go_wp2_with fail;refine bodyPost_end (v:=zp #[]) (by simp [results,results212,go_sem]) rfl ?_;exact ⟨rfl,P.o▸M.o.1.next (lG (aM _ _) _),M.o.2.1.next (lG (aM _ _) _) T⟩
def SQ {o:Bool} {z:By} (hz:z=iw o) (h:gp q al cl af cf K fs w i no) (a:i<=G K):zC prog 212 #[zJ q,Q z] w λr w'=>r=zP (zp #[])/\gp q al cl af cf K fs w' (jy (dG o) K i) no/\Kp q w w':=by subst hz;cases o;exact LP false rfl h a;exact LP true rfl h a
def gp.AA {a:Nat} (c:gp q al cl af cf K fs w i no) (h:Kp q w W) (g:gp q al cl af cf K fs W U Z) (d:w.heap.size<=a) (v0 v1:zV):gp q al cl af cf K fs ((W.setCell (yh a) v0).setCell (X a 1) v1) U Z/\Kp q w ((W.setCell (yh a) v0).setCell (X a 1) v1):=by
 have e:q≠a:=cZ (bG c.lt d);have f:=(h.there a 0 v0 d c.lt).there a 1 v1 d c.lt;exact ⟨c.kp f (((Kp.here (b:=a) W 0 v0).t (Kp.here _ 1 v1)).blk g.row e),f⟩
def eO:List RF->By->Vl
 | [],_=>(3,3)
 | f::r,x=>if f.nm=x then (f.kd,f.n) else eO r x
def oR (fs:List RF) (x:By) (j:Nat) (f:RF) (C:fs[j]?=A f) (d:f.nm=x) (h:∀ i,i<j->∀ f,fs[i]?=A f->f.nm≠x):eO fs x=(f.kd,f.n):=by
 induction fs generalizing j with
 | nil=>simp at C
 | cons g r c=>
  cases j with
  | zero=>
   simp at C;subst C;rw [eO,aB d]
  | succ j=>
   rw [eO,aA (h 0 (by omega) g rfl)];exact c j (by simpa using C) (λi e b a=>h (i+1) (by omega) b (by simpa using a))
def oS (fs:List RF) (x:By) (h:∀ i,i<G fs->∀ f,fs[i]?=A f->f.nm≠x):eO fs x=(3,3):=by
 induction fs with
 | nil=>rfl
 | cons g r a=>
  rw [eO,aA (h 0 (by simp) g rfl)];exact a λi D f C=>h (i+1) (by simpa using D) f (by simpa using C)
def Vz (x:By) (h:gp q al cl af cf K fs w i false):zC prog 264 #[zJ q,Q x] w λr w'=>r=zP (gH (eO fs x))/\gp q al cl af cf K fs w' i (decide ((eO fs x).1=0))/\Kp q w w':=by
 have k:=I h;have L:(G fs:Int)<=1000:=a6.2 h.bX.1;clear h;go_in;go_wp2_with fail;go_loopg [5] (G fs) (λgk y wr=>∃ j:Nat,j<=G fs/\G fs<=j+gk/\y=J j/\Hid ((∀ i,i<j->∀ f,fs[i]?=A f->f.nm≠x)/\gp q al cl af cf K fs wr i false/\zB w wr/\wr.heap[w.heap.size]?=A (zM #[J 0,J 0] 129 (0,0))))
 case atStart=>exact ⟨0,bE _,Nat.le_add_left _ _,rfl,I ⟨λi t=>absurd t (pH i),k.o.next (bZ _),(aM _ _).alloc (aG _) _,bL w _⟩⟩
 case round=>
  obtain ⟨j,Q6,D,rfl,d⟩:=hrel;obtain ⟨⟨U,HF,r1,Q4⟩,⟨f0,f1,f2,f3⟩,QV⟩:=aX d.o.2.1.row;obtain ⟨⟨R,S⟩,⟨a,z⟩,n⟩:=cq d.o.2.2.2;have C:q≠w.heap.size:=cZ k.o.lt;have hz:w.heap.size≠q:=λh=>C h.symm;rcases cC j (G fs) with M|M
  .have r0:=eu M;have m:=I (eJ M D);obtain ⟨f,T⟩:∃ f,fs[j]?=A f:=⟨_,cU M⟩;have Y:=I T;obtain ⟨-,Q0,Q5,e,c⟩:=d.o.2.1.bX;cases e;rcases c with o|⟨g,h0,rfl,W,s⟩
   .rw [o] at M;exact absurd M (pH j)
   .obtain ⟨c0,c1,c2,c3⟩:=s j f T;have E:g≠q:=d.o.2.1.neq _ rfl;have QT:q≠g:=λh=>E h.symm;clear s T;by_cases O:f.nm=x
    .have b:=I (oR fs x j f Y.o O d.o.1);subst O;have u:(f.nm == f.nm)=true:=(by simp);by_cases P:f.kd=0
     .have p:=I (show gH (eO fs f.nm)=zd #[J 0,J f.n]/\decide ((eO fs f.nm).1=0)=true from ⟨by rw [b.o,P],by rw [b.o];exact decide_eq_true P⟩);go_wp2_with fail;refine aK (v:=zd #[J 0,J f.n]) (by simp [results,results264,go_sem,R,S]) rfl ?_;rw [p.o.1,p.o.2];exact ⟨rfl,k.o.AA ((Kp.of d.o.2.2.1 k.o.lt).t (Kp.here _ 3 _)) (d.o.2.1.am0 true) (aG _) _ _⟩
     .have ee:(f.kd == 0)=false:=(by simpa using P);have p:=I (show gH (eO fs f.nm)=zd #[J f.kd,J f.n]/\decide ((eO fs f.nm).1=0)=false from ⟨by rw [b.o],by rw [b.o];exact decide_eq_false P⟩);go_wp2_with fail;refine aK (v:=zd #[J f.kd,J f.n]) (by simp [results,results264,go_sem,R,S]) rfl ?_;rw [p.o.1,p.o.2];exact ⟨rfl,k.o.AA (Kp.of d.o.2.2.1 k.o.lt) d.o.2.1 (aG _) _ _⟩
    .have u:(f.nm == x)=false:=(by simpa using O);have H:Hid (∀ i,i<j+1->∀ f,fs[i]?=A f->f.nm≠x):=I λi t N V=>by
      rcases cC i j with h|h
      .exact d.o.1 i h N V
      .obtain rfl:i=j:=(by omega);rw [Y.o] at V;cases V;exact O
     clear O;go_wp2_with fail;go_roundg (G fs - (j+1))
     case measure=>exact m.o.2.1
     case rel=>exact ⟨j+1,m.o.2.2,m.o.1,(by simp),I ⟨H.o,d.o.2⟩⟩
  .have hx:=eH M;have b:=I (oS fs x λi t=>d.o.1 i (bG t M));go_wp2_with (go_at_call 211;refine mo (mR _ _) ?_;rintro e w1 ⟨rfl,l⟩);obtain ⟨⟨R,S⟩,⟨a,z⟩,n⟩:=cq ((l.block w.heap.size n).t d.o.2.2.2);have F:=I l;clear l;apply I;go_wp2_with fail;refine aK (v:=gH (cL 3)) (by simp [results,results264,go_sem,R,S]) rfl ?_;rw [b.o];exact ⟨rfl,k.o.AA (Kp.of (d.o.2.2.1.t (F.o.m d.o.2.2.1.size)) k.o.lt) (d.o.2.1.next F.o) (aG _) _ _⟩
end
section
variable {K:List (By × Nat)} {κ:By->Vl} {S:By->Bool} {i j Z k n:Nat} {p a b c:Pt} {v u:Vl} {no o:Bool}
def fW (K:List (By × Nat)) (o:Bool) (j QV:Nat):Prop:=Bl K (dG o) 0 j 0 QV/\(G K<=QV\/dG o (aw K QV)=true)
def ga (K:List (By × Nat)) (o:Bool) (k QV:Nat):Prop:=(o=false->aw K k≠[111,114])/\Bl K cH 0 k 0 QV
def dO (o:Bool):Vl:=(2,if o=true then 1 else 0)
def kO (o:Bool):Nat:=if o=true then 5 else 4
def b8 (K:List (By × Nat)) (κ:By->Vl) (o:Bool) (i j:Nat) (p:Pt):Prop:=
 ∃ v k no,Ev K κ (de o) i v k no/\nU κ p v no/\(k=j\/(dY v no=true/\aw K k≠iw o/\(o=false->aw K k≠[111,114])/\Bl K cH 0 k 0 j))
def TG (K:List (By × Nat)) (κ:By->Vl) (o:Bool) (i j:Nat) (p:Pt):Prop:=
 (∃ (m:Bool) (v:Vl),fO κ p=A (if m=true then aP 2 v else v)/\v.1≠3/\∀ D k a,Ev K κ (.lg o m v false) j D k a->Ev K κ (.pA o) i D k a) \/
 (∃ v no,nU κ p v no/\(dY v no=true\/v=dO o)/\∀ C,fW K o j C->∃ k,Ev K κ (.pA o) i v k no/\(k=C\/(dY v no=true/\ga K o k C)))
def FP (h:Fin K κ .test 3 i j p):b8 K κ false i j p:=by
 obtain ⟨v,k,no,d,c,e⟩:=h;refine ⟨v,k,no,d,c,e.imp id λ⟨a,⟨m,hm,kL⟩,b⟩=>⟨a,?_,λ_=>?_,b⟩⟩
 .intro h;rcases dI kL with ⟨_,C⟩|⟨_,C⟩|⟨_,C|C⟩|⟨_,C|C⟩|⟨_,C|C|C⟩<;>first|omega|(rw [C] at h;cases h)
 .intro h;rcases dI kL with ⟨_,C⟩|⟨_,C⟩|⟨_,C|C⟩|⟨_,C|C⟩|⟨_,C|C|C⟩<;>first|omega|(rw [C] at h;cases h)
def LK (m:Bool) (hs:dY v no=true) (f:k=j\/(aw K k≠iw o/\(o=false->aw K k≠[111,114])/\Bl K cH 0 k 0 j)) (QV:Nat) (b:fW K o j QV):∃ e,Ev K κ (.lg o m v no) k v e no/\(e=QV\/(dY v no=true/\ga K o e QV)):=by
 by_cases c:aw K k=iw o
 .have d:k=j:=f.resolve_right λh=>h.1 c;subst d;exact ⟨_,.lgS o m k v no c (zR hs),zR (b.1.jy b.2)⟩
 .refine ⟨k,?_,?_⟩
  .have:=Ev.lgE (κ:=κ) o m k v no c;rw [aA (by rw [hs];simp)] at this;exact this
  .rcases f with rfl|⟨_,i,l⟩
   .by_cases a:k=QV
    .exact zR a
    .refine zZ ⟨hs,λg h=>a ?_,b.1.less (su o)⟩;refine (b.1.stuck (zZ ?_)).symm;rw [h,g];decide
   .exact zZ ⟨hs,i,l.t (b.1.less (su o))⟩
def TG.up (h:b8 K κ o i j p):TG K κ o i j p:=by
 obtain ⟨v,k,no,e,f,g⟩:=h;cases C:dY v no
 .obtain ⟨e1,l,rfl⟩:=f.some C;have c:k=j:=g.resolve_right λh=>(by rw [C] at h;cases h.1);subst c;exact zR ⟨false,v,by rw [aA (by simp)];exact e1,l,λE a b d=>.pA o i k a v E false b e d⟩
 .refine zZ ⟨v,no,f,zR C,λD n=>?_⟩;obtain ⟨a,d,m⟩:=LK (κ:=κ) false C (g.imp id λh=>h.2) D n;exact ⟨a,.pA o i k a v v no no e d,m⟩
def sw (h:v.1=2):aP 2 v=v:=by unfold aP;rw [aA (by omega)]
def yf (h:v.1=3) (k:Int):aP k v=v:=by unfold aP;rw [aA (by omega)]
def uH (h:v.1≠2) (a:v.1≠3):aP 2 v=cL 2:=by unfold aP;rw [aB ⟨h,a⟩]
def QO:aP 2 (aP 2 v)=aP 2 v:=by
 by_cases h:v.1≠2/\v.1≠3
 .rw [uH h.1 h.2];rfl
 .unfold aP;rw [aA h,aA h]
def Vy (m:Bool):aP 2 (if m=true then aP 2 v else v)=aP 2 v:=by
 cases m
 .rw [aA (by simp)]
 .rw [aB rfl];exact QO
def oT:(2,if kO o=4 then 0 else 1)=dO o:=by cases o<;>rfl
def oV:kO o=4\/kO o=5:=by cases o<;>simp [kO]
def gc (c:fO κ a=A u):fO κ (.bin (kO o) a b)=if aP 2 u=dO o\/(aP 2 u).1=3 then A (aP 2 u) else match fO κ b with|none=>none|some u=>A (aP 2 u):=by
 rw [fO,c];simp only;rw [aB oV,oT]<;>rfl
def TG.more (r:aw K j=iw o) (H:LI κ) (h:TG K κ o i j a) (R:b8 K κ o (j+1) Z b) (x:Bl K (dG o) 0 j 0 Z):TG K κ o i Z (.bin (kO o) a b):=by
 rcases h with ⟨m,v,t,c,q⟩|⟨v,no,t,c,q⟩
 .have f:=gc (o:=o) (b:=b) t;rw [Vy] at f;by_cases n:v.1=2
  .rw [sw n] at f;by_cases p:v.2=1↔o=true
   .have l:v=dO o:=by
     have g:=Sx H a _ t;rw [show (if m=true then aP 2 v else v)=v by rw [sw n];exact ite_self v] at g;have w:v.2=0\/v.2=1:=by
      rcases g with g|⟨_,g⟩|g
      .omega
      .exact g
      .omega
     refine Prod.ext n ?_;cases o
     .rcases w with h|h
      .exact h
      .exact absurd (p.1 h) (by simp)
     .exact p.2 rfl
    refine zZ ⟨v,false,zR ⟨rfl,?_⟩,zZ l,λM d=>⟨M,?_,zR rfl⟩⟩
    .rw [f,aB (zR l)]
    .have:=q _ _ _ (.lgS o m j v false r (zZ ⟨n,p⟩));rw [(x.t d.1).jy d.2] at this;exact this
   .have l:¬ (v=dO o\/v.1=3):=by
     rintro (h|h)
     .refine p ?_;rw [h];cases o<;>simp [dO]
     .omega
    rw [aA l] at f;obtain ⟨u,k,no,D,F,C⟩:=R;cases N:dY u no
    .obtain ⟨e1,G,rfl⟩:=F.some N;have z:k=Z:=C.resolve_right λh=>(by rw [N] at h;cases h.1);subst z;refine zR ⟨true,u,?_,G,λT s y L=>q _ _ _ (.lgG o m j k s v u T false y r n p D L)⟩;rw [f,e1,aB rfl]
    .refine zZ ⟨u,no,?_,zR N,λM d=>?_⟩
     .rcases F with ⟨rfl,e⟩|⟨rfl,e⟩
      .refine zR ⟨rfl,?_⟩;rw [f,e];simp only;rw [yf ((nJ N).resolve_left (by simp)).2]
      .refine zZ ⟨rfl,?_⟩;rw [f,e]
     .obtain ⟨s,P,O⟩:=LK (κ:=κ) true N (C.imp id λh=>h.2) M d;exact ⟨s,q _ _ _ (.lgG o m j k s v u u no no r n p D P),O⟩
  .rw [uH n c] at f;refine zZ ⟨cL 2,false,zR ⟨rfl,?_⟩,zR rfl,λM d=>⟨j,q _ _ _ (.lgW o m j v false r (vx c) n),zZ ⟨rfl,?_,(x.t d.1).less (su o)⟩⟩⟩
   .rw [f,aB (zZ (show (cL 2).1=3 from rfl))]
   .rintro rfl h;rw [r] at h;cases h
 .refine zZ ⟨v,no,?_,c,λM d=>q M ⟨x.t d.1,d.2⟩⟩;rcases t with ⟨rfl,e⟩|⟨rfl,e⟩
  .refine zR ⟨rfl,?_⟩;rw [gc e];rcases c with c|c
   .have E:=((nJ c).resolve_left (by simp)).2;rw [yf E,aB (zZ E)]
   .rw [sw (by rw [c];rfl),aB (zR c)]
  .refine zZ ⟨rfl,?_⟩;rw [fO,e]
def LL (m:Bool) (h:v.1≠3):(if m=true/\dY v false=false/\v.1≠2 then cL 2 else v)=if m=true then aP 2 v else v:=by
 cases m
 .rw [aA (by simp),aA (by simp)]
 .rw [aB rfl];by_cases a:v.1=2
  .rw [aA (by simp [a]),sw a]
  .rw [aB ⟨rfl,vx h,a⟩,uH a h]
def LM (h:TG K κ false i j p) (f:Gl K 1 j):b8 K κ true i j p:=by
 rcases h with ⟨m,v,d,g,e⟩|⟨v,no,d,g,e⟩
 .refine ⟨_,j,false,e _ _ _ (.lgE false m j v false f.I5),?_,zR rfl⟩;rw [LL m g];exact zR ⟨rfl,d⟩
 .obtain ⟨k,n,l⟩:=e j ⟨.here _ _,f.over⟩;exact ⟨v,k,no,n,d,l.imp id λ⟨a,b,c⟩=>⟨a,b rfl,λh=>absurd h (by simp),c⟩⟩
def oW (h:TG K κ true i j p) (b:Gl K 0 j):∃ v no,Ev K κ .rule i v j no/\nU κ p v no:=by
 have a:jy cH K j=j:=(Bl.here 0 j).jy b.pass;rcases h with ⟨m,v,c,e,d⟩|⟨v,no,c,e,d⟩
 .have:=Ev.rule _ _ _ _ (d _ _ _ (.lgE true m j v false b.no1));rw [a] at this;refine ⟨_,false,this,?_⟩;rw [LL m e];exact zR ⟨rfl,c⟩
 .obtain ⟨k,l,f⟩:=d j ⟨.here _ _,b.ajF⟩;refine ⟨v,no,?_,c⟩;have:=Ev.rule _ _ _ _ l;rcases f with rfl|⟨_,_,g⟩
  .rw [a] at this;exact this
  .rw [g.jy b.pass] at this;exact this
def DO (K:List (By × Nat)) (κ:By->Vl) (n i j:Nat) (p:Pt):Prop:=
 (n=6->∃ v no,Ev K κ .atom i v j no/\nU κ p v no)/\(n=5->TL K κ .product 5 i j p)/\(n=4->Gl K 3 j->TL K κ .sum 4 i j p) /\
 (n=3->Gl K 2 j->Fin K κ .test 3 i j p)/\(n=2->Gl K 2 j->TG K κ false i j p)/\(n=1->Gl K 1 j->TG K κ true i j p)
def ge (h:∃ v no,Ev K κ .atom i v j no/\nU κ p v no):Fin K κ (Vu 5) 6 i j p:=by
 obtain ⟨v,no,b,a⟩:=h;exact ⟨v,j,no,b,a,zR rfl⟩
def DO.at6 (h:∃ v no,Ev K κ .atom i v j no/\nU κ p v no):DO K κ 6 i j p:=⟨λ_=>h,λh=>by omega,λh=>by omega,λh=>by omega,λh=>by omega,λh=>by omega⟩
def DO.rule (h:DO K κ 1 i j p) (a:Gl K 0 j):∃ v no,Ev K κ .rule i v j no/\nU κ p v no:=oW (h.2.2.2.2.2 rfl a.up0) a
def QP (h:aw K j=[41]):Gl K 0 j:=zZ (by rw [h];decide)
def QQ (h:aw K j=[44]):Gl K 0 j:=zZ (by rw [h];decide)
def DO.if6 {j f k:Nat} (E:LI κ) (s:aw K i=[105,102]) (p:aw K (i+1)=[40]) (QV:∃ v no,Ev K κ .rule (i+1+1) v j no/\nU κ a v no) (q:aw K j=[44]) (F:∃ v no,Ev K κ .rule (j+1) v f no/\nU κ b v no) (w:aw K f=[44]) (G:∃ v no,Ev K κ .rule (f+1) v k no/\nU κ c v no) (t:aw K k=[41]) (Q0:jy cH K (j+1)=f) (z:jy cH K (f+1)=k):∃ v no,Ev K κ .atom i v (k+1) no/\nU κ (.ifs a b c) v no:=by
 obtain ⟨v,no,r,H⟩:=QV;rcases H with ⟨rfl,e⟩|⟨rfl,e⟩
 .have g:=Sx E a v e;by_cases n:v=(2,1)
  .subst n;obtain ⟨u,D,l,m⟩:=F;refine ⟨u,D,.if1 i j f k u D s p r q l w z t,?_⟩;have y:fO κ (.ifs a b c)=fO κ b:=by
    rw [fO,e];simp only;rw [sw rfl,aB rfl]
   unfold nU;rw [y];exact m
  .by_cases d:v.1=2
   .have x:v.2=0:=by
     rcases g with g|⟨_,g|g⟩|g
     .omega
     .exact g
     .exact absurd (Prod.ext d g) n
     .omega
    obtain ⟨u,C,l,m⟩:=G;refine ⟨u,C,.if0 i j f k v u C s p r q d (by omega) Q0 w l t,?_⟩;have y:fO κ (.ifs a b c)=fO κ c:=by
     rw [fO,e];simp only;rw [sw d,aA n,aB (Prod.ext d x)]
    unfold nU;rw [y];exact m
   .refine ⟨_,false,.ifn i j f k v false s p r q (zZ d) Q0 w z t,zR ⟨rfl,?_⟩⟩;have L:aP 2 v≠(2,1)/\aP 2 v≠(2,0)/\(aP 2 v)=(if v.1=1 then cL 2 else v):=by
     by_cases o:v.1=3
     .rw [yf o,aA (by omega)];exact ⟨λh=>d (by rw [h]),λh=>d (by rw [h]),rfl⟩
     .rw [uH d o,aB (by rcases g with g|g|g<;>omega)];exact ⟨by decide,by decide,rfl⟩
    rw [fO,e];simp only;rw [aA L.1,aA L.2.1,L.2.2]
 .refine ⟨_,true,.ifn i j f k v true s p r q (zR rfl) Q0 w z t,zZ ⟨rfl,?_⟩⟩;rw [fO,e]
def o3 {t:By} (h:ij t 2) (a:eh t=t):fO κ (.atom 2 (ej t) (fw t))=if (κ t).1=0 then none else A (κ t):=by
 have b:ae t=false:=by
  rcases h with ⟨_,h⟩|⟨h,_⟩|⟨_,h⟩|h
  .omega
  .exact h
  .omega
  .exfalso;revert h;simp [eb]
 rw [fO,aA (by decide),aA (by decide),aA (by decide)];have e:ej t=t:=by
  unfold ej;rw [b,aA (by simp),a]
 rw [e]
def bh.lvm {n i j:Nat} {p:Pt} (F:LI κ) (C:∀ t,bm t=true->eh t=t) (h:bh K n i j p):DO K κ n i j p:=by
 induction h with
 | atom i k Q4 s T=>
  refine DO.at6 ?_;rcases T with rfl|rfl|rfl|rfl
  .have R:ae (aw K i)=true:=by
    rcases s with ⟨h,_⟩|⟨_,_,h⟩|⟨_,h⟩|h
    .exact h
    .omega
    .omega
    .exfalso;revert h;simp [eb]
   exact ⟨_,false,.num i R,zR ⟨rfl,rfl⟩⟩
  .have R:ae (aw K i)=false/\bm (aw K i)=true:=by
    rcases s with ⟨_,h⟩|⟨u,w,_⟩|⟨_,h⟩|h
    .omega
    .exact ⟨u,w⟩
    .omega
    .exfalso;revert h;simp [eb]
   refine ⟨_,_,.name i R.1 R.2,?_⟩;have E:=o3 (κ:=κ) s (C _ R.2);by_cases D:(κ (aw K i)).1=0
   .rw [aB D] at E;exact zZ ⟨decide_eq_true D,E⟩
   .rw [aA D] at E;exact zR ⟨decide_eq_false D,E⟩
  .have l:=(cQ [116,114,117,101] 7 (by decide) _ _ s).1 rfl;exact ⟨_,false,.tru i l,zR ⟨rfl,rfl⟩⟩
  .have l:=(cQ [102,97,108,115,101] 8 (by decide) _ _ s).1 rfl;exact ⟨_,false,.fls i l,zR ⟨rfl,rfl⟩⟩
 | jV i j a l _ r=>exact ⟨λh=>by omega,λh=>by omega,λh=>by omega,λ_ g=>Vw l (r.2.2.2.1 rfl g),λh=>by omega,λh=>by omega⟩
 | neg i j a l _ r=>
  obtain ⟨v,no,u,w⟩:=r.1 rfl;refine DO.at6 ⟨_,no,.neg i j v no l u,?_⟩;rcases w with ⟨rfl,e⟩|⟨rfl,e⟩
  .refine zR ⟨rfl,?_⟩;rw [fO,e];rfl
  .refine zZ ⟨rfl,?_⟩;rw [fO,e]
 | br i j a l _ z r=>
  obtain ⟨v,no,u,w⟩:=r.rule (QP z);refine DO.at6 ⟨v,no,.br i j v no l u z,?_⟩;rcases w with ⟨rfl,e⟩|⟨rfl,e⟩
  .refine zR ⟨rfl,?_⟩;rw [fO,e];rfl
  .refine zZ ⟨rfl,?_⟩;rw [fO,e]
 | ifs i P Q0 Q5 a b c N u L w G U O V m q H=>
  exact DO.at6 (DO.if6 F N u (m.rule (QQ w)) w (q.rule (QQ U)) U (H.rule (QP V)) V ((G.bl cH 0 λ_=>uG 1).jy (QQ U).pass) ((O.bl cH 0 λ_=>uG 1).jy (QP V).pass))
 | up n i j a u M d r=>
  refine ⟨λh=>by omega,λh=>?_,λh g=>?_,λh g=>?_,λh g=>?_,λh g=>?_⟩
  .subst h;exact TL.up (λi j k v W no x=>Ev.product i j k v W no x) (ge (r.1 rfl))
  .subst h;exact TL.up (λi j k v W no x=>Ev.sum i j k v W no x) ((r.2.1 rfl).fin g.no5)
  .subst h;exact oj (d.first (by omega)) ((r.2.2.1 rfl g.up2).fin (Gl.no4 (zR g))) g.no3
  .subst h;exact TG.up (FP (r.2.2.2.1 rfl g))
  .subst h;exact TG.up (LM (r.2.2.2.2.1 rfl g.up1) g)
 | more n i j Z k a b u M L f s G m q=>
  have C:SC (λ_=>false) n:=λt l=>by cases l
  have y:∀ S,SC S n->Bl K S 0 j 0 Z:=λS Y=>(Bl.one (l9 f) (λ_=>(vu f Y).1) (vu f C).2.1 (vu f C).2.2).t (G.bl S 0 λ_=>Y.up (by omega));refine ⟨λh=>by omega,λh=>?_,λh g=>?_,λh g=>?_,λh g=>?_,λh g=>?_⟩
  .subst h;exact TL.more rfl (by omega) (m.2.1 rfl) f s (ge (q.1 rfl)) (y _ (uG 5))
  .subst h;exact TL.more rfl (by omega) (m.2.2.1 rfl (Gl.s4 f)) f s ((q.2.1 rfl).fin g.no5) (y _ (uG 4))
  .subst h;exact QN (L.first (by decide)) ((m.2.2.1 rfl (Gl.s3 f)).fin (Gl.no4 (zZ f))) f s ((q.2.2.1 rfl g.up2).fin (Gl.no4 (zR g))) (y _ (uG 3))
  .subst h;have l:aw K j=[97,110,100]:=by
    rcases dI f with ⟨h,_⟩|⟨_,h⟩|⟨h,_⟩|⟨h,_⟩|⟨h,_⟩
    .omega
    .exact h
    .omega
    .omega
    .omega
   have T:=(cQ [97,110,100] 4 (by decide) _ _ s).2 l;subst T;exact TG.more (o:=false) l F (m.2.2.2.2.1 rfl (Gl.s2 l)) (FP (q.2.2.2.1 rfl g)) (y _ (LH false 2 λ_=>aG 2))
  .subst h;have l:aw K j=[111,114]:=by
    rcases dI f with ⟨_,h⟩|⟨h,_⟩|⟨h,_⟩|⟨h,_⟩|⟨h,_⟩
    .exact h
    .omega
    .omega
    .omega
    .omega
   have T:=(cQ [111,114] 5 (by decide) _ _ s).2 l;subst T;exact TG.more (o:=true) l F (m.2.2.2.2.2 rfl (Gl.s1 l)) (LM (q.2.2.2.2.1 rfl g.up1) g) (y _ (LH true 1 λh=>by cases h))
def bh.ev {j:Nat} {p:Pt} (a:LI κ) (c:∀ t,bm t=true->eh t=t) (h:bh K 1 0 j p) (b:G K<=j):∃ v no,Ev K κ .rule 0 v j no/\nU κ p v no:=(h.lvm a c).rule (zR b)
end
section
attribute [local go_sem] ap aq
variable {w w' W:zW} {v:zV}
def dw (fs:List RF):List zV:=fs.flatMap λf=>[Q f.nm,Q f.rl,J f.kd,J f.n]
def pz (fs:List RF):(dw fs).length=G fs*4:=by
 induction fs with
 | nil=>rfl
 | cons f r a=>simp only [dw,sD,b6,gS,nZ] at a ⊢;omega
def FK (fs:List RF) (f:RF):dw (fs++[f])=dw fs++[Q f.nm,Q f.rl,J f.kd,J f.n]:=by simp [dw]
def IZ:∀ (fs:List RF) (i:Nat) (f:RF),fs[i]?=A f->(dw fs)[i*4]?=A (Q f.nm)/\(dw fs)[i*4+1]?=A (Q f.rl)/\(dw fs)[i*4+2]?=A (J f.kd)/\(dw fs)[i*4+3]?=A (J f.n)
 | [],i,f,h=>by simp at h
 | g::r,0,f,h=>by
  simp at h;subst h;simp [dw]
 | g::r,i+1,f,h=>by
  have:=IZ r i f (by simpa using h);have e:dw (g::r)=Q g.nm::Q g.rl::J g.kd::J g.n::dw r:=(by simp [dw]);rw [e,show (i+1)*4=i*4+1+1+1+1 by omega];simpa [oJ] using this
def dU.nj {Q4:Nat} {fs:List RF} (h:w.ownsRow Q4 131 4 v (G fs) (dw fs)) (j:G fs<=1000):dU w v fs:=by
 refine ⟨j,?_⟩;rcases h.2 with ⟨rfl,a⟩|⟨g,c,n,rfl,o,d,u,q,s,r⟩
 .exact ⟨none,0,by rw [a],zR (oD a)⟩
 .refine ⟨_,c,rfl,zZ ⟨g,0,rfl,(cz.1 d).1,λi f b=>?_⟩⟩;have t:i<G fs:=(fI.1 b).1;obtain ⟨l,e,k,m⟩:=IZ fs i f b;have p:=pz fs;refine ⟨?_,?_,?_,?_⟩
  .rw [cS,h.cellAt (i*4) (by omega),l]
  .rw [cS,h.cellAt (i*4+1) (by omega),e]
  .rw [cS,h.cellAt (i*4+2) (by omega),k]
  .rw [cS,h.cellAt (i*4+3) (by omega),m]
def I0:(prog.info? 131).map (λi=>(i.zero,i.size,i.bytes))=A (A (zd #[Q [],Q [],J 0,J 0]),4,48):=by kernel_rfl
def gv (fs:List RF) (x:By):List RF:=fs.filter λf=>f.nm != x
def o4 {fs:List RF} {x:By} {j:Nat} (C:j<G fs) (h:fs[j].nm=x):gv (fs.take (j+1)) x=gv (fs.take j) x:=by rw [vJ C];unfold gv;rw [List.filter_append];simp [h]
def pa {fs:List RF} {x:By} {j:Nat} (C:j<G fs) (h:fs[j].nm≠x):gv (fs.take (j+1)) x=gv (fs.take j) x++[fs[j]]:=by rw [vJ C];unfold gv;rw [List.filter_append];simp [h]
def uS (fs:List RF) (x:By):(gv fs x).length<=G fs:=List.length_filter_le _ _
def Ad (fs:List RF) (x:By) (h:dU w v fs):zC prog 183 #[v,Q x] w λr w'=>∃ T,r=zP T/\w'.ownsRow w.heap.size 131 4 T (gv fs x).length (dw (gv fs x))/\zB w w':=by
 obtain ⟨C,F,l,m,t⟩:=fe I0;have g:=I h;obtain ⟨s,eQ,hx,rfl,L⟩:=h;have E:(G fs:Int)<=1000:=a6.2 s;have p:=I s;clear L s;go_in;go_wp2_with fail;go_loopg [5,6] (G fs) (λgk D i wr=>∃ j:Nat,j<=G fs/\G fs<=j+gk/\i=J j/\Hid (wr.ownsRow w.heap.size 131 4 D (gv (fs.take j) x).length (dw (gv (fs.take j) x))/\zB w wr))
 case atStart=>exact ⟨0,bE _,jD (cS _).symm,rfl,I ⟨eW _ _ _ _,aM _ _⟩⟩
 case round=>
  obtain ⟨j,c,z,rfl,P⟩:=hrel;rcases cC j (G fs) with K|K
  .have N:=eu K;have R:=I (eJ K z);obtain ⟨_,O,ee,a,b⟩:=g.o.next P.o.2;cases a;rcases b with o|⟨v',HN,rfl,HI,b⟩
   .rw [o] at K;exact absurd K (pH j)
   .obtain ⟨c0,c1,c2,c3⟩:=b j fs[j] (cU K);clear b;by_cases S:fs[j].nm=x
    .have n:(fs[j].nm == x)=true:=(by simpa using S);have U:Hid (wr.ownsRow w.heap.size 131 4 u5 (gv (fs.take (j+1)) x).length (dw (gv (fs.take (j+1)) x))/\zB w wr):=I (by rw [o4 K S];exact P.o);clear S;go_wp2_with fail;go_roundg (G fs - (j+1))
     case measure=>exact R.o.2.1
     case rel=>exact ⟨j+1,R.o.2.2,R.o.1,(by simp),U⟩
    .have n:(fs[j].nm == x)=false:=(by simpa using S);have y:=I (pa K S);have e:Hid ((gv (fs.take j) x).length+1<=maxLen/\((gv (fs.take j) x).length+1)*48<=140737488355328):=I (by have M:=uS (fs.take j) x;have Q5:=p.o;simp at M;unfold maxLen;omega);clear S;generalize fs[j]=f at *;go_wp2_with (at_builtin;refine km _ rfl (.tmp 20) (.tmp 25) 111 rfl w.heap.size 131 C (zd #[Q [],Q [],J 0,J 0]) 4 48 underlying111 F l m t rfl (by decide) u5 (gv (fs.take j) x).length (dw (gv (fs.take j) x)) rfl (P.o.1.alloc _) (yh wr.heap.size) 1 1 [Q f.nm,Q f.rl,J f.kd,J f.n] rfl rfl (λq u V=>bC wr _ 131 q u V) (λu Y=>by simp at Y;rcases Y with rfl|rfl|rfl|rfl<;>rfl) e.o.1 e.o.2 (bf P.o.2.size (by simp)) ?_;intro T Z k d _;apply Hid.o);apply I;have U:Hid (Z.ownsRow w.heap.size 131 4 T (gv (fs.take (j+1)) x).length (dw (gv (fs.take (j+1)) x))/\zB w Z):=I (by
      rw [y.o,FK,b6];exact ⟨k,(P.o.2.alloc P.o.2.size _).grown d (by simp;have:=P.o.2.size;omega) λq V=>(fJ P.o.1 q V).1⟩)
     go_wp2_with fail;go_roundg (G fs - (j+1))
     case measure=>exact R.o.2.1
     case rel=>exact ⟨j+1,R.o.2.2,R.o.1,(by simp),U⟩
  .have H:=eH K;obtain rfl:j=G fs:=lT c K;go_wp2_with fail;go_ret;have h:=P.o;rw [tq] at h;exact ⟨_,rfl,h.1,h.2⟩
def iu (rs:List RF) (f:RF):List RF:=rs.takeWhile (λg=>Op.bytesLess g.nm f.nm)++f::rs.dropWhile (λg=>Op.bytesLess g.nm f.nm)
def QI {p:RF->Bool}:∀ {rs:List RF} {j:Nat},j<=G rs->(∀ i (h:i<G rs),i<j->p rs[i]=true)->(∀ h:j<G rs,p rs[j]=false)->rs.take j=rs.takeWhile p/\rs.drop j=rs.dropWhile p
 | [],j,_,_,_=>by simp
 | g::r,0,_,_,h=>by
  have:=h (by simp);simp at this;simp [this]
 | g::r,j+1,C,a,c=>by
  have b:=a 0 (by simp) (by omega);have d:=QI (p:=p) (rs:=r) (j:=j) (by simpa using C) (λi h e=>by have:=a (i+1) (by simpa using h) (by omega);simpa using this) (λh=>by have:=c (by simpa using h);simpa using this);simp at b;simp [b,d]
def JI (a b:List RF):dw (a++b)=dw a++dw b:=by simp [dw]
def FM {Q4:Nat} {rs:List RF} {g c:Nat} (h:w.ownsRow Q4 131 4 (zS g (G rs) c) (G rs) (dw rs)) {k:Nat} {u:zV} (a:(dw rs)[k]?=A u):w.cell? (X g k)=A u:=by
 have b:k<(dw rs).length:=(fI.1 a).1;rw [pz] at b;rw [h.cellAt k (by omega),a]
def LF {rs:List RF}:∀ u,u∈dw rs->u.oneCell'=true:=by
 intro u a;unfold dw at a;obtain ⟨f,_,a⟩:=List.mem_flatMap.1 a;simp at a;rcases a with rfl|rfl|rfl|rfl<;>rfl
def Vr (rs:List RF) (j k:Nat) (u:zV) (h:(dw (rs.take j))[k]?=A u):(dw rs)[k]?=A u:=by
 have a:k<(dw (rs.take j)).length:=(fI.1 h).1;have e:dw rs=dw (rs.take j)++dw (rs.drop j):=(by rw [<- JI,wa]);rw [e,sy a];exact h
def Vs (rs:List RF) (j k:Nat) (u:zV) (b:j<=G rs) (h:(dw (rs.drop j))[k]?=A u):(dw rs)[j*4+k]?=A u:=by
 have e:dw rs=dw (rs.take j)++dw (rs.drop j):=(by rw [<- JI,wa]);have a:(dw (rs.take j)).length=j*4:=by rw [pz];simp;omega
 rw [e,qx (by omega),a,show j*4+k - j*4=k by omega];exact h
def FN {Q4 j m:Nat} {rs:List RF} {x s:By} (a:rs.take j=rs.takeWhile (λg=>Op.bytesLess g.nm x)) (c:rs.drop j=rs.dropWhile (λg=>Op.bytesLess g.nm x)) (d:j<=G rs) (h:w.ownsRow Q4 131 4 v m ([]++dw (rs.take j)++[Q x,Q s,J 0,J 0]++dw (rs.drop j))):w.ownsRow Q4 131 4 v (iu rs ⟨x,s,0,0⟩).length (dw (iu rs ⟨x,s,0,0⟩)):=by
 have e:dw (iu rs ⟨x,s,0,0⟩)=[]++dw (rs.take j)++[Q x,Q s,J 0,J 0]++dw (rs.drop j):=by
  unfold iu;rw [<- a,<- c,JI];simp [dw]
 have b:=h.1;rw [<- e,pz] at b;rw [e,show (iu rs ⟨x,s,0,0⟩).length=m by omega];exact h
def BQ (fs:List RF) (x s:By) (h:dU w v fs):zC prog 182 #[v,Q x,Q s] w λh0 w'=>∃ v',h0=zP v'/\w'.ownsRow w.heap.size 131 4 v' (iu (gv fs x) ⟨x,s,0,0⟩).length (dw (iu (gv fs x) ⟨x,s,0,0⟩))/\zB w w':=by
 have HR:=I (Ad fs x h);have v3:=I (bf (uS fs x) h.1);clear h;generalize gv fs x=F at *;go_in;go_wp2_with (go_at_call 183;refine mo HR.o ?_;rintro aa w1 ⟨v1,rfl,d,QV⟩;have Y:=I d;have y:=I QV;clear d QV);apply I;have HF:=I (dU.nj Y.o v3.o);obtain ⟨hn,v4,c,rfl,hc⟩:=HF.o;have Q4:(G F:Int)<=1000:=a6.2 hn;clear hc hn
 go_upto_block 0 with fail
 go_cut [9] (λs9 wc=>∃ j:Nat,j<=G F/\s9=J j/\wc=w1/\Hid (F.take j=F.takeWhile (λg=>Op.bytesLess g.nm x)/\F.drop j=F.dropWhile (λg=>Op.bytesLess g.nm x)))
 case first=>
  go_wp2_with fail;go_loopg [9] (G F) (λgk i wr=>∃ j:Nat,j<=G F/\G F<=j+gk/\i=J j/\wr=w1/\Hid (∀ i (h:i<G F),i<j->Op.bytesLess F[i].nm x=true))
  case atStart=>exact ⟨0,bE _,jD (cS _).symm,rfl,rfl,I λi _ h=>absurd h (pH i)⟩
  case round=>
   obtain ⟨j,K,W,rfl,rfl,Z⟩:=hrel;rcases cC j (G F) with L|L
   .have af:=eu L;have a:=I (eJ L W);obtain ⟨_,a',c',eQ,U⟩:=HF.o;cases eQ;rcases U with e|⟨g,ak,rfl,hg,U⟩
    .rw [e] at L;exact absurd L (pH j)
    .obtain ⟨c0,c1,c2,c3⟩:=U j F[j] (cU L);clear U;cases hb:Op.bytesLess F[j].nm x with
     | true=>
      have P:Hid (∀ i (h:i<G F),i<j+1->Op.bytesLess F[i].nm x=true):=I λi h z=>by
       rcases cC i j with O|O
       .exact Z.o i h O
       .obtain rfl:i=j:=(by omega);exact hb
      go_wp2_with fail;go_roundg (G F - (j+1))
      case measure=>exact a.o.2.1
      case rel=>exact ⟨j+1,a.o.2.2,a.o.1,(by simp),rfl,P⟩
     | false=>
      have P:=I (QI (p:=λg=>Op.bytesLess g.nm x) K Z.o λ_=>hb);go_wp2_with fail
      go_meet
      exact ⟨j,K,rfl,rfl,P⟩
   .have tA:=eH L;have P:=I (QI (p:=λg=>Op.bytesLess g.nm x) K Z.o λh=>absurd h (Nat.not_lt.2 L));go_wp2_with fail
    go_meet
    exact ⟨j,K,rfl,rfl,P⟩
 case rest=>
 obtain ⟨j,K,rfl,rfl,N⟩:=hcut;have ad:(j:Int)<=(G F:Int):=a6.2 K;rcases Y.o.2 with ⟨T,e⟩|⟨g,c',w2,T,O,h2,h3,h4,h5,h6⟩
 .have hu:=oD e;subst hu;cases T;obtain rfl:j=0:=Nat.le_zero.1 K;obtain ⟨C,z,l,m,n⟩:=fe I0;go_wp2_with (at_builtin;refine Bv rfl (.tmp 28) (.tmp 31) 111 rfl wc.heap.size 131 C 4 underlying111 z (zN) 0 [] rfl (eW _ _ _ _) rfl ?_;apply Hid.o);apply I;go_wp2_with (at_builtin;refine km _ rfl (.tmp 33) (.tmp 37) 111 rfl wc.heap.size 131 C (zd #[Q [],Q [],J 0,J 0]) 4 48 underlying111 z l m n rfl (by decide) (zN) 0 [] rfl (eW _ _ _ _) (yh wc.heap.size) 1 1 [Q x,Q s,J 0,J 0] rfl rfl (λq u H=>bC wc _ 131 q u H) (λu M=>by simp at M;rcases M with rfl|rfl|rfl<;>rfl) (by decide) (by decide) (by simp) ?_;intro R V d b _;apply Hid.o);apply I;have k:=I d;have f:Hid (zB wc V):=I ((bZ _).grown b (by simp) λq H=>by simp [Value.ownBlock] at H);clear d b;go_wp2_with (at_builtin;refine Bv rfl (.tmp 39) (.tmp 42) 111 rfl wc.heap.size 131 C 4 underlying111 z R (0+1) ([]++[Q x,Q s,J 0,J 0]) rfl k.o rfl ?_;apply Hid.o);apply I;go_wp2_with fail;go_ret;exact ⟨R,rfl,dS k.o y.o.size,y.o.t (f.o.m y.o.size)⟩
 .cases T;have ee:=I Y.o;have w3:(j:Int)<=(c:Int):=a6.2 (bf K h3);have L:¬ (c:Int)<(j:Int):=Int.not_lt.2 w3;have ac:(0:Int)<=(j:Int):=mF j;have hq:Hid (G F<=1000):=I (a6.1 Q4);have rs:Hid (0+j<=maxLen/\(0+j)*48<=140737488355328):=I (by have:=hq.o;unfold maxLen;omega);clear O h2 h4 h5 h6;obtain ⟨C,z,l,m,n⟩:=fe I0;go_wp2_with (at_builtin;refine km _ rfl (.tmp 28) (.tmp 31) 111 rfl wc.heap.size 131 C (zd #[Q [],Q [],J 0,J 0]) 4 48 underlying111 z l m n rfl (by decide) (zN) 0 [] rfl (eW _ _ _ _) (yh g) j c (dw (F.take j)) rfl (by rw [pz];simp;omega) (λq u H=>by rw [show ((yh g):zD).add q=(X g q) by cases q<;>simp [Addr.add]];exact FM ee.o (Vr F j q u H)) LF rs.o.1 rs.o.2 (aG _) ?_;intro v2 r d b _;apply Hid.o);apply I;have hj:=I d;have S:Hid (zB wc r):=I ((aM _ _).grown b (aG _) λq H=>by simp [Value.ownBlock] at H);clear d b;have t:Hid (0+j+1<=maxLen/\(0+j+1)*48<=140737488355328/\0+j+1+(G F - j)<=maxLen/\(0+j+1+(G F - j))*48<=140737488355328):=I (by have:=hq.o;unfold maxLen;omega);go_wp2_with (at_builtin;refine km _ rfl (.tmp 33) (.tmp 37) 111 rfl wc.heap.size 131 C (zd #[Q [],Q [],J 0,J 0]) 4 48 underlying111 z l m n rfl (by decide) v2 (0+j) ([]++dw (F.take j)) rfl (hj.o.alloc _) (yh r.heap.size) 1 1 [Q x,Q s,J 0,J 0] rfl rfl (λq u H=>bC r _ 131 q u H) (λu M=>by simp at M;rcases M with rfl|rfl|rfl<;>rfl) t.o.1 t.o.2.1 (bf S.o.size (by simp)) ?_;intro R V d b _;apply Hid.o);apply I;have k:=I d;have f:Hid (zB wc V):=I ((S.o.alloc S.o.size _).grown b (by simp;have:=S.o.size;omega) λq H=>(fJ hj.o q H).1);clear d b;have HN:=I (aZ ee.o f.o);have QT:Hid (∀ q u,(dw (F.drop j))[q]?=A u->V.cell? (((X g (j*4)):zD).add q)=A u):=I λq u H=>by rw [aW];exact FM HN.o (Vs F j q u K H)
  have Q6:Hid ((dw (F.drop j)).length=(G F - j)*4):=I (by rw [pz];simp);by_cases Q0:c=j
  .have Q5:G F=j:=lT (Q0▸h3) K;have HD:=I (show F.drop j=[] by rw [<- Q5];exact List.drop_length);have hz:G F - j=0:=(by omega);have ag:c - j=0:=(by omega);go_wp2_with (at_builtin;refine km _ rfl (.tmp 39) (.tmp 42) 111 rfl wc.heap.size 131 C (zd #[Q [],Q [],J 0,J 0]) 4 48 underlying111 z l m n rfl (by decide) R (0+j+1) ([]++dw (F.take j)++[Q x,Q s,J 0,J 0]) rfl k.o (yh g) 0 0 [] rfl rfl (λq u H=>by simp at H) (λu M=>by simp at M) t.o.1 t.o.2.1 f.o.size ?_;intro o w4 d b _;apply Hid.o);apply I;have E:Hid (zB wc w4):=I (f.o.grown b f.o.size λq H=>(fJ k.o q H).1);have D:=I (FN (rs:=F) (x:=x) (s:=s) N.o.1 N.o.2 K (by rw [HD.o];simpa [dw] using d));clear d b;go_wp2_with fail;go_ret;exact ⟨o,rfl,dS D.o y.o.size,y.o.t (E.o.m y.o.size)⟩
  .go_wp2_with (at_builtin;refine km _ rfl (.tmp 39) (.tmp 42) 111 rfl wc.heap.size 131 C (zd #[Q [],Q [],J 0,J 0]) 4 48 underlying111 z l m n rfl (by decide) R (0+j+1) ([]++dw (F.take j)++[Q x,Q s,J 0,J 0]) rfl k.o (X g (j*4)) (G F - j) (c - j) (dw (F.drop j)) rfl Q6.o (QT.o) LF t.o.2.2.1 t.o.2.2.2 f.o.size ?_;intro o w4 d b _;apply Hid.o);apply I;have D:=I (FN (rs:=F) (x:=x) (s:=s) N.o.1 N.o.2 K d);have E:Hid (zB wc w4):=I (f.o.grown b f.o.size λq H=>(fJ k.o q H).1);clear d b;go_wp2_with fail;go_ret;exact ⟨o,rfl,dS D.o y.o.size,y.o.t (E.o.m y.o.size)⟩
variable {w1:zW} {m:By} {P C:Nat->Prop}
def ml (w:zW) (C:Nat->Prop) (v:zV) (m:By):Prop:=∃ a n c,v=B a n c/\n<=10000/\(n=0\/∃ g,a=A (yh g)/\C g/\g<w.heap.size/\∀ i,i<n->w.cell? (X g i)=A (Q m))
def ml.ks (h:ml w C v m) (d:Ks P w w') (e:∀ q,C q->¬ P q):ml w' C v m:=by
 obtain ⟨f,n,c,rfl,k,h⟩:=h;refine ⟨f,n,c,rfl,k,h.imp id ?_⟩;rintro ⟨g,rfl,b,a,j⟩;exact ⟨g,rfl,b,bG a d.size,λi l=>(aS (d.block g a (e g b)) i).t (j i l)⟩
def ml.wide {a:Nat->Prop} (h:ml w C v m) (e:∀ q,C q->a q):ml w a v m:=by
 obtain ⟨f,n,c,rfl,j,h⟩:=h;refine ⟨f,n,c,rfl,j,h.imp id ?_⟩;rintro ⟨g,rfl,b,d,i⟩;exact ⟨g,rfl,e g b,d,i⟩
def xU (h:ml w C v m):zC prog 58 #[v,Q m] w λr w'=>r=zP (zF true)/\w'=w:=by
 obtain ⟨q,n,c,rfl,e,h⟩:=h;have l:=I h;have s:(n:Int)<=10000:=a6.2 e;have t:(m == m)=true:=(by simp);clear h e;go_in;go_wp2_with fail;go_loopg [5] n (λgk i wr=>∃ j:Nat,j<=n/\n<=j+gk/\i=J j/\wr=w)
 case atStart=>exact ⟨0,bE _,jD (cS _).symm,rfl,rfl⟩
 case round=>
  obtain ⟨j,p,d,rfl,rfl⟩:=hrel;rcases cC j n with a|a
  .have o:=eu a;have b:=I (eJ a d);obtain ⟨g,rfl,f⟩:∃ g,q=A (yh g)/\wr.cell? (X g j)=A (Q m):=by
    rcases l.o with h|⟨g,rfl,_,_,f⟩
    .rw [h] at a;exact absurd a (pH _)
    .exact ⟨g,rfl,f j a⟩
   go_wp2_with fail;go_roundg (n - (j+1))
   case measure=>exact b.o.2.1
   case rel=>exact ⟨j+1,b.o.2.2,b.o.1,(by simp),rfl⟩
  .have k:=eH a;obtain rfl:j=n:=lT p a;go_wp2_with fail;go_ret;exact ⟨rfl,rfl⟩
structure Bk where
 l:zV
 a:zV
 b:zV
 c:zV
 m:By
def Bk.cells (x:Bk):List zV:=[x.l,x.a,x.b,x.c,Q x.m]
def xV (a:List Bk):List zV:=a.flatMap Bk.cells
def RO:∀ (a:List Bk) (j:Nat) (D:j<G a) (k:Nat),k<5->(xV a)[j*5+k]?=(a[j].cells)[k]?
 | x::r,0,_,k,b=>by
  rw [xV,sD,sy (by simp [Bk.cells];omega)];simp
 | x::r,j+1,D,k,b=>by
  rw [xV,sD,qx (by simp [Bk.cells];omega)];have:=RO r j (by simpa using D) k b;rw [<- xV,show (j+1)*5+k - G x.cells=j*5+k by simp [Bk.cells];omega,this];simp
def sJ (w:zW) (C:Nat->Prop) (x:Bk):Prop:=ml w C x.l x.m/\ml w C x.a x.m/\ml w C x.b x.m/\ml w C x.c x.m
def sJ.ks {x:Bk} (h:sJ w C x) (b:Ks P w w') (a:∀ q,C q->¬ P q):sJ w' C x:=⟨h.1.ks b a,h.2.1.ks b a,h.2.2.1.ks b a,h.2.2.2.ks b a⟩
def sJ.wide {x:Bk} {b:Nat->Prop} (h:sJ w C x) (a:∀ q,C q->b q):sJ w b x:=⟨h.1.wide a,h.2.1.wide a,h.2.2.1.wide a,h.2.2.2.wide a⟩
end
end Go.Proofs.YtihgojcfpnhelaaGreatDoor
