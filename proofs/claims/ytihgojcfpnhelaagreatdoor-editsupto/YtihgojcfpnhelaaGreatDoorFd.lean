import Derived.Test.YtihgojcfpnhelaaGreatDoorDb
import Derived.Test.YtihgojcfpnhelaaGreatDoorDi
import Derived.Test.YtihgojcfpnhelaaGreatDoorEt
set_option maxRecDepth 100000
set_option maxHeartbeats 4000000
set_option linter.all false
namespace Go.Proofs.YtihgojcfpnhelaaGreatDoor
open Value renaming slice->B,agg->zd,tuple->zp,bool->zF,pointer->zK
open Obj renaming cells->zM
open Ending renaming returned->zP
open Option renaming some->A
open Or renaming inl->zR,inr->zZ
open Go renaming World->zW,Value->zV,Calls->zC,Addr->zD
open Go.RowKit Go.Proofs.Tryz
open List renaming length→G
section
variable {w w' W:zW} {q cl cf i U j k:Nat} {al af:Option zD} {K:List (By × Nat)} {fs:List RF} {no Z:Bool} {v v' u:Vl} {p:Pt}
def E1 (K:List (By × Nat)):Prop:=∀ i,ae (aw K i)=true->kv (aw K i)/\cR (aw K i)<=gP/\(aw K i).length<=1000
def gV (h:fV K):E1 K:=by
 intro i a;have j:i<G K:=bP rfl (by rintro d;rw [d] at a;cases a);have k:(K[i].1,K[i].2)∈K:=bt j;obtain ⟨⟨b,-⟩,f⟩:=h _ _ k;rw [<- eY K i j] at b f;have g:=f a;obtain ⟨c,r,e⟩:∃ c r,aw K i=c::r:=by
  cases d:aw K i with
  | nil=>rw [d] at a;cases a
  | cons c r=>exact ⟨c,r,rfl⟩
 rw [e] at b a g ⊢;have l:cT c=true:=a;rw [di,aB a,qA,pG,pG] at b;exact ⟨g,b.2,by omega⟩
def g7 (q:Nat) (al:Option zD) (cl:Nat) (af:Option zD) (cf:Nat) (K:List (By × Nat)) (fs:List RF):Fn->Nat->Vl->Nat->Bool->Prop
 | .rule=>eU q al cl af cf K fs 155 #[eV q]
 | .pA o=>eU q al cl af cf K fs 185 #[eV q,bx (iw o)]
 | .test=>eU q al cl af cf K fs 232 #[eV q]
 | .sum=>eU q al cl af cf K fs 255 #[eV q]
 | .product=>eU q al cl af cf K fs 261 #[eV q]
 | .atom=>eU q al cl af cf K fs 263 #[eV q]
 | .lp n v no=>λi v' k Z=>(n=4->zA (eU q al cl af cf K fs 261 #[eV q]) K 4 v no i v' k Z)/\(n=5->zA (eU q al cl af cf K fs 263 #[eV q]) K 5 v no i v' k Z)
 | .lg o m v no=>λi v' k Z=>yg (eU q al cl af cf K fs 208 #[eV q,bx (iw o)]) K o m v no i v' k Z
def LR {o:Bool} (h:g7 q al cl af cf K fs (de o) i v k no):eU q al cl af cf K fs 208 #[eV q,bx (iw o)] i v k no:=by
 cases o
 .rw [show iw false=[97,110,100] from rfl];exact VB h
 .rw [show iw true=[111,114] from rfl];have a:eU q al cl af cf K fs 185 #[eV q,bx (iw false)] i v k no:=h;rw [show iw false=[97,110,100] from rfl] at a;exact VA a
def Ev.ct {f:Fn} (L:E1 K) (h:Ev K (eO fs) f i v k no):i<=G K->g7 q al cl af cf K fs f i v k no:=by
 induction h with
 | num i h=>
  intro _;obtain ⟨c,r,e⟩:∃ c r,aw K i=c::r:=by
   cases x:aw K i with
   | nil=>rw [x] at h;cases h
   | cons c r=>exact ⟨c,r,rfl⟩
  have g:=L i h;rw [e] at g h ⊢;have:=qt (q:=q) (al:=al) (cl:=cl) (af:=af) (cf:=cf) (fs:=fs) e h (by have:=g.2.2;simp at this;omega) g.1 g.2.1;have N:fw (c::r)=cR (c::r):=aB h;rw [N];exact this
 | tru i h=>exact λ_=>qv h
 | fls i h=>exact λ_=>qw h
 | name i d s=>
  intro _;obtain ⟨c,r,e⟩:∃ c r,aw K i=c::r:=by
   cases x:aw K i with
   | nil=>rw [x] at s;cases s
   | cons c r=>exact ⟨c,r,rfl⟩
  rw [e] at d s ⊢;exact qS e d s
 | neg i j v no h _ t=>exact λ_=>rb h (t (bP h (by simp)))
 | br i j v no h _ s t=>exact λ_=>rf h (t (bP h (by simp))) s
 | if1 i P C R u no x d _ s _ S T E a b=>
  intro _;have w:=bP d (by simp);have M:=bP s (by simp);have O:=bP S (by simp);have V:=bP E (by simp);refine I6 (λn=>if n=0 then P else if n=1 then C else R) (λn=>if n=0 then false else no) (λn=>if n=0 then (2,1) else u) x (a w) ?_ rfl ?_
  .intro n N;rcases (by omega:n=0\/n=1\/n=2) with rfl|rfl|rfl
   .exact M
   .exact O
   .exact V
  .intro n N;rcases (by omega:n=0\/n=1) with rfl|rfl
   .exact zR ⟨rfl,rfl,rfl,b M⟩
   .exact zZ ⟨zZ (zZ rfl),T.symm,rfl,rfl⟩
 | if0 i P C R v u no x d _ s y z T S _ E a b=>
  intro _;have w:=bP d (by simp);have M:=bP s (by simp);have O:=bP S (by simp);have V:=bP E (by simp);have F:(v.2 == 1)=false:=bo.2 z;refine I6 (v:=v) (λn=>if n=0 then P else if n=1 then C else R) (λn=>if n<=1 then false else no) (λn=>if n<=1 then v else u) x (a w) ?_ (aA (by omega)).symm ?_
  .intro n N;rcases (by omega:n=0\/n=1\/n=2) with rfl|rfl|rfl
   .exact M
   .exact O
   .exact V
  .intro n N;rcases (by omega:n=0\/n=1) with rfl|rfl
   .exact zZ ⟨zZ (zZ F),T.symm,rfl,rfl⟩
   .exact zR ⟨rfl,y,F,b O⟩
 | ifn i P C R v no x d _ s y T S g2 E a=>
  intro _;have w:=bP d (by simp);have M:=bP s (by simp);have O:=bP S (by simp);have V:=bP E (by simp);refine I6 (v:=v) (λn=>if n=0 then P else if n=1 then C else R) (λ_=>no) (λ_=>if v.1=1 then cL 2 else v) x (a w) ?_ rfl ?_
  .intro n N;rcases (by omega:n=0\/n=1\/n=2) with rfl|rfl|rfl
   .exact M
   .exact O
   .exact V
  .intro n N;rcases (by omega:n=0\/n=1) with rfl|rfl
   .exact zZ ⟨y.imp id zR,T.symm,rfl,rfl⟩
   .exact zZ ⟨y.imp id zR,g2.symm,rfl,rfl⟩
 | product i j k v v' no Z d _ a b=>
  intro l;have p:=d.le.2 l;exact LQ (.inr ⟨rfl,rfl,rfl⟩) (a l) p ((b p).2 rfl)
 | sum i j k v v' no Z d _ a b=>
  intro l;have p:=d.le.2 l;exact LQ (.inl ⟨rfl,rfl,rfl⟩) (a l) p ((b p).1 rfl)
 | lpE n i v no h=>exact λ_=>⟨λe=>by subst e;exact .stop v no i h,λe=>by subst e;exact .stop v no i h⟩
 | lpB n i j v u no h H _ Y t=>
  intro _;have g:=t (l9 h);exact ⟨λe=>by subst e;exact .bad v u i j no h H g Y,λe=>by subst e;exact .bad v u i j no h H g Y⟩
 | lpG n i j k v u v' Z h H d Y _ a b=>
  intro _;have g:=a (l9 h);have p:=d.le.2 (l9 h);have hs:i<j:=d.le.1;have M:=b p;exact ⟨λe=>by subst e;exact .go v u v' i j k Z h H g hs p Y (M.1 rfl),λe=>by subst e;exact .go v u v' i j k Z h H g hs p Y (M.2 rfl)⟩
 | adb i j v no h _ t=>exact λ_=>mx h (t (bP h (by simp)))
 | Sw i j v no h _ H t=>exact λl=>mD h (t l) H
 | ade i j k v u no h _ D H _ a b=>exact λl=>mT h (a l) D H (b (l9 D))
 | pA o i j k v v' no Z d _ a b=>
  intro l;have p:=d.le.2 l;exact QS rfl (LR (a l)) p (b p)
 | lgE o m i v no h=>exact λ_=>.fin m v no i h
 | lgW o m i v no h H y=>exact λ_=>.type m v no i h H y
 | lgS o m i v no h H=>exact λ_=>.short m v no i h H
 | lgG o m i j k v u v' no Z h y z d _ a b=>
  intro _;have l:i<G K:=bP h (by unfold iw;split<;>simp);have p:=d.le.2 l;exact .go m v u v' i j k no Z h y z (LR (a l)) d.le.1 p (b p)
 | rule i j v no h t=>
  intro l;have g:eU q al cl af cf K fs 185 #[eV q,bx (iw true)] i v j no:=t l;rw [show iw true=[111,114] from rfl] at g;exact mw g (h.le.2 l)
def jU:∀ t:By,bm t=true->eh t=t:=by
 intro t h;have d:j6 t=true:=by
  unfold bm at h;rw [qA] at h;exact h.1
 have f:ae t=false:=by
  cases t with
  | nil=>rfl
  | cons c r=>
   have b:fF c=true:=d;show cT c=false;unfold fF jK at b;unfold cT dm;rw [pG] at b;rw [decide_eq_false_iff_not];omega
 have e:fH t=none:=by
  cases g:fH t with
  | none=>rfl
  | some k=>
   have:=Az _ _ _ g;exfalso;have a:∀ x∈dX,bm x.1=false:=(by decide);have:=a _ this;rw [h] at this;cases this
 unfold eh;rw [f,e];rfl
def sz (d:E1 K) (c:LI (eO fs)) (h:bh K 1 0 (G K) p):∃ v no,nU (eO fs) p v no/\eU q al cl af cf K fs 155 #[eV q] 0 v (G K) no:=by
 obtain ⟨v,no,b,a⟩:=h.ev c jU (aG _);exact ⟨v,no,a,b.ct d (bE _)⟩
end
def GT (x:By):Prop:=x=[32]\/TI x
def GT.ti {x:By} (h:GT x) (a:x≠[32]):TI x:=h.resolve_left a
def GI.gt {x:By} (h:GI x):GT x:=by
 by_cases e:x=[32]
 .exact zR e
 .exact zZ (h.ti e)
def RG (n:Nat) (s:By) (m:Nat) (p:Pt):Prop:=∃ a:List By,a.flatten=s/\(∀ x,x∈a->GT x)/\(∀ rest,Dh rest->vG a rest)/\bh (z0 (bB a)) n 0 (bB a).length p/\ai p=s/\opn p<=m
def RG.up {n m:Nat} {s:By} {p:Pt} (h:RG n s m p) (k:Nat) (g:1<=k) (j:k<=n) (i:n<=6):RG k s m p:=by
 obtain ⟨f,a,b,c,d,e⟩:=h;refine ⟨f,a,b,c,?_,e⟩;have e:k+(n - k)=n:=(by omega);exact bh.ups (n - k) k (by rw [e];exact d) g (by omega)
def RG.one (x:By) (k:Nat) (D:GT x) (C:x≠[32]) (E:ij x k) (F:k=1\/k=2\/k=7\/k=8) (L:ai (.atom k (ej x) (fw x))=x):RG 6 x 0 (.atom k (ej x) (fw x)):=by have e:bB [x]=[x]:=(by simp [bB,C]);refine ⟨[x],(by simp),λy M=>by rw [iB.1 M];exact D,λrest H=>⟨zZ ⟨D.ti C,λ_=>by simpa using H⟩,trivial⟩,?_,L,aG _⟩;rw [e];exact .atom (K:=z0 [x]) 0 k (by simp [z0]) E F
def vG.nW {x:By} {l:List By} {rest:By} (b:GT x) (h:db x=false) (c:vG l rest):vG (x::l) rest:=by
 refine ⟨?_,c⟩;by_cases e:x=[32]
 .exact zR e
 .exact zZ ⟨b.ti e,λa=>by rw [h] at a;cases a⟩
def vG.I7 {x:By} {l:List By} {rest:By} (a:GT x) (h:Dh (l.flatten++rest)) (b:vG l rest):vG (x::l) rest:=by
 refine ⟨?_,b⟩;by_cases e:x=[32]
 .exact zR e
 .exact zZ ⟨a.ti e,λ_=>h⟩
def RG.br {s:By} {m:Nat} {p:Pt} (h:RG 1 s m p):RG 6 ([40]++s++[41]) (m+1) (.un 9 p):=by
 obtain ⟨a,rfl,d,g,f,C,c⟩:=h;refine ⟨[40]::(a++[[41]]),(by simp),?_,?_,?_,?_,by simp only [opn];omega⟩
 .intro x b;simp at b;rcases b with rfl|b|rfl
  .exact (dl.gt)
  .exact d x b
  .exact (dq.gt)
 .intro rest i;refine .nW (dl.gt) (by decide) (.app (g _ ?_) (.nW (dq.gt) (by decide) trivial));exact p6 41 _ (by decide)
 .have e:bB ([40]::(a++[[41]]))=([[40]]:List By)++bB a++[[41]]:=(by simp [bB]);rw [e];have:=bh.br (K:=z0 (([[40]]:List By)++bB a++[[41]])) 0 (1+(bB a).length) p ?_ (f.sub [[40]] [[41]]) ?_
  .rw [show (([[40]]:List By)++bB a++[[41]]:List By).length=1+(bB a).length+1 by simp;omega];exact this
  .rw [jF];rfl
  .rw [jF,oC _ _ _ (by simp;omega)];rw [show 1+(bB a).length - (([[40]]:List By)++bB a).length=0 by simp;omega];rfl
 .simp [ai,iP,jO,lL,tD,tE,EF,gu,jn,C]
def RG.jV {s:By} {m:Nat} {p:Pt} (h:RG 3 s m p):RG 3 ([110,111,116,32]++s) (m+1) (.un 6 p):=by
 obtain ⟨a,rfl,d,i,g,C,c⟩:=h;refine ⟨[110,111,116]::[32]::a,(by simp),?_,?_,?_,?_,by simp only [opn];omega⟩
 .intro x b;simp at b;rcases b with rfl|rfl|b
  .exact (kb.gt)
  .exact (b4.gt)
  .exact d x b
 .intro rest f;exact .I7 (kb.gt) (p6 32 _ (by decide)) (.nW (b4.gt) (by decide) (i rest f))
 .have e:bB ([110,111,116]::[32]::a)=([[110,111,116]]:List By)++bB a++[]:=(by simp [bB]);rw [e];have:=bh.jV (K:=z0 (([[110,111,116]]:List By)++bB a++[])) 0 (1+(bB a).length) p ?_ (g.sub [[110,111,116]] [])
  .rw [show (([[110,111,116]]:List By)++bB a++[]:List By).length=1+(bB a).length by simp;omega];exact this
  .rw [jF];rfl
 .simp [ai,iP,jO,lL,tD,tE,EF,gu,jn,C]
def RG.neg {s:By} {m:Nat} {p:Pt} (h:RG 6 s m p):RG 6 ([45]++s) (m+1) (.un 14 p):=by
 obtain ⟨a,rfl,d,i,g,C,c⟩:=h;refine ⟨[45]::a,(by simp),?_,?_,?_,?_,by simp only [opn];omega⟩
 .intro x b;simp at b;rcases b with rfl|b
  .exact (jM.gt)
  .exact d x b
 .intro rest f;exact .nW (jM.gt) (by decide) (i rest f)
 .have e:bB ([45]::a)=([[45]]:List By)++bB a++[]:=(by simp [bB]);rw [e];have:=bh.neg (K:=z0 (([[45]]:List By)++bB a++[])) 0 (1+(bB a).length) p ?_ (g.sub [[45]] [])
  .rw [show (([[45]]:List By)++bB a++[]:List By).length=1+(bB a).length by simp;omega];exact this
  .rw [jF];rfl
 .simp [ai,iP,jO,lL,tD,tE,EF,gu,jn,C]
def RG.two {n k:Nat} {a b op:By} {m o:Nat} {i h:Pt} (Q0:1<=n) (v:n<=5) (F:RG (if n=3 then 4 else n) a m i) (t:RG (n+1) b o h) (l:GT op) (K:op≠[32]) (hs:b5 op (dc n)=true) (u:ij op k) (j:lL k=32::op++[32]/\iP k=[]/\jO k=[]/\k≠1):RG n (a++[32]++op++[32]++b) (max m o) (.bin k i h):=by
 obtain ⟨c,rfl,s,p,z,w,E⟩:=F;obtain ⟨d,rfl,D,q,H,y,r⟩:=t;refine ⟨c++([32]::op::[32]::d),(by simp),?_,?_,?_,?_,by simp only [opn];omega⟩
 .intro x f;simp at f;rcases f with f|rfl|rfl|rfl|f
  .exact s x f
  .exact (b4.gt)
  .exact l
  .exact (b4.gt)
  .exact D x f
 .intro rest C;exact .app (p _ (p6 32 _ (by decide))) (.nW (b4.gt) (by decide) (.I7 l (p6 32 _ (by decide)) (.nW (b4.gt) (by decide) (q rest C))))
 .have e:bB (c++([32]::op::[32]::d))=bB c++[op]++bB d:=(by simp [bB,K]);rw [e];have d1:bh (z0 (bB c++[op]++bB d)) (if n=3 then 4 else n) 0 (bB c).length i:=by
   have:=z.sub [] ([op]++bB d);simpa [z0] using this
  have d2:bh (z0 (bB c++[op]++bB d)) (n+1) ((bB c).length+1) ((bB c).length+1+(bB d).length) h:=by
   have:=H.sub (bB c++[op]) [];simpa [z0] using this
  have g:aw (z0 (bB c++[op]++bB d)) (bB c).length=op:=by
   rw [jF,kI,oC _ _ _ (aG _),nK];rfl
  rw [show (bB c++[op]++bB d).length=(bB c).length+1+(bB d).length by simp;omega];exact .more n 0 (bB c).length _ k i h Q0 v d1 (by rw [g];exact hs) (by rw [g];exact u) d2
 .simp [ai,j,gu,jn,w,y]
def RG.ifs {a b c:By} {l m n:Nat} {k j i:Pt} (QV:RG 1 a l k) (t:RG 1 b m j) (w:RG 1 c n i):RG 6 ([105,102,40]++a++[44,32]++b++[44,32]++c++[41]) (max l (max m n)+1) (.ifs k j i):=by
 obtain ⟨d,rfl,s,p,K,y,F⟩:=QV;obtain ⟨f,rfl,E,q,L,z,r⟩:=t;obtain ⟨g,rfl,D,H,Dc,u,G⟩:=w;refine ⟨[105,102]::[40]::(d++([44]::[32]::(f++([44]::[32]::(g++[[41]]))))),(by simp),?_,?_,?_,?_,by simp only [opn];omega⟩
 .intro x h;simp at h;rcases h with rfl|rfl|h|rfl|rfl|h|rfl|rfl|h|rfl
  .exact (jP.gt)
  .exact (dl.gt)
  .exact s x h
  .exact (dr.gt)
  .exact (b4.gt)
  .exact E x h
  .exact (dr.gt)
  .exact (b4.gt)
  .exact D x h
  .exact (dq.gt)
 .intro rest M;exact .I7 (jP.gt) (p6 40 _ (by decide)) (.nW (dl.gt) (by decide) (.app (p _ (p6 44 _ (by decide))) (.nW (dr.gt) (by decide) (.nW (b4.gt) (by decide) (.app (q _ (p6 44 _ (by decide))) (.nW (dr.gt) (by decide) (.nW (b4.gt) (by decide) (.app (H _ (p6 41 _ (by decide))) (.nW (dq.gt) (by decide) trivial)))))))))
 .have e:bB ([105,102]::[40]::(d++([44]::[32]::(f++([44]::[32]::(g++[[41]]))))))=([[105,102],[40]]:List By)++bB d++[[44]]++bB f++[[44]]++bB g++[[41]]:=(by simp [bB]);rw [e];have d1:=K.sub [[105,102],[40]] ([[44]]++bB f++[[44]]++bB g++[[41]]);have d2:=L.sub (([[105,102],[40]]:List By)++bB d++[[44]]) ([[44]]++bB g++[[41]]);have d3:=Dc.sub (([[105,102],[40]]:List By)++bB d++[[44]]++bB f++[[44]]) [[41]];rw [show ([[105,102],[40]]:List By)++bB d++([[44]]++bB f++[[44]]++bB g++[[41]])=([[105,102],[40]]:List By)++bB d++[[44]]++bB f++[[44]]++bB g++[[41]] by simp] at d1;rw [show ([[105,102],[40]]:List By)++bB d++[[44]]++bB f++([[44]]++bB g++[[41]])=([[105,102],[40]]:List By)++bB d++[[44]]++bB f++[[44]]++bB g++[[41]] by simp] at d2;have v:aw (z0 (([[105,102],[40]]:List By)++bB d++[[44]]++bB f++[[44]]++bB g++[[41]])) (2+(bB d).length)=[44]:=by
   rw [jF,show ([[105,102],[40]]:List By)++bB d++[[44]]++bB f++[[44]]++bB g++[[41]]=(([[105,102],[40]]:List By)++bB d)++([44]::(bB f++[[44]]++bB g++[[41]])) from (by simp),oC _ _ _ (by simp;omega)];rw [show 2+(bB d).length - (([[105,102],[40]]:List By)++bB d:List By).length=0 by simp;omega];rfl
  have C:aw (z0 (([[105,102],[40]]:List By)++bB d++[[44]]++bB f++[[44]]++bB g++[[41]])) (2+(bB d).length+1+(bB f).length)=[44]:=by
   rw [jF,show ([[105,102],[40]]:List By)++bB d++[[44]]++bB f++[[44]]++bB g++[[41]]=(([[105,102],[40]]:List By)++bB d++[[44]]++bB f)++([44]::(bB g++[[41]])) from (by simp),oC _ _ _ (by simp;omega)];rw [show 2+(bB d).length+1+(bB f).length - (([[105,102],[40]]:List By)++bB d++[[44]]++bB f:List By).length=0 by simp;omega];rfl
  have o:aw (z0 (([[105,102],[40]]:List By)++bB d++[[44]]++bB f++[[44]]++bB g++[[41]])) (2+(bB d).length+1+(bB f).length+1+(bB g).length)=[41]:=by
   rw [jF,oC _ _ _ (by simp;omega)];rw [show 2+(bB d).length+1+(bB f).length+1+(bB g).length - (([[105,102],[40]]:List By)++bB d++[[44]]++bB f++[[44]]++bB g:List By).length=0 by simp;omega];rfl
  rw [show ([[105,102],[40]]:List By).length=2 from rfl] at d1;rw [show (([[105,102],[40]]:List By)++bB d++[[44]]:List By).length=2+(bB d).length+1 by simp;omega] at d2;rw [show (([[105,102],[40]]:List By)++bB d++[[44]]++bB f++[[44]]:List By).length=2+(bB d).length+1+(bB f).length+1 by simp;omega] at d3;rw [show (([[105,102],[40]]:List By)++bB d++[[44]]++bB f++[[44]]++bB g++[[41]]:List By).length=2+(bB d).length+1+(bB f).length+1+(bB g).length+1 by simp;omega];exact .ifs 0 _ _ _ k j i (by rw [jF];rfl) (by rw [jF];rfl) d1 v d2 C d3 o
 .simp [ai,iP,jO,lL,tD,tE,EF,gu,jn,y,z,u]
def TI.n32 {x:By} (h:TI x):x≠[32]:=by
 obtain ⟨c,r,rfl,a,_⟩:=h;intro e;exact a (List.cons.inj e).1
def sC {m:Nat} (l:m<=gP):TI (Lib.decDigits m)/\ij (Lib.decDigits m) 1/\ej (Lib.decDigits m)=[]/\fw (Lib.decDigits m)=m:=by
 obtain ⟨c,r,e,f,a,k,h,j,i,_⟩:=yI m l;rw [e];have b:cT c=true:=a c il;refine ⟨⟨c,r,rfl,f,k,λg=>?_,λ_ _ y n=>a y (ki _ n),λ_ d=>?_⟩,h,j,i⟩
 .have:=Bg g;rw [b] at this;cases this
 .rw [b] at d;cases d
def NT (y:By):Prop:=TI y/\ae y=false/\bm y=true
def LV (m:Nat):ai (.atom 1 [] m)=Lib.decDigits m:=by simp [ai,iP,jO,lL,tD,tE,EF,gu,jn]
def SE (y:By) (n:Nat):ai (.atom 2 y n)=y:=by simp [ai,iP,jO,lL,tD,tE,EF,gu,jn]
def NT.rg {y:By} (h:NT y):RG 6 (ai (.atom 2 y 0)) 0 (.atom 2 y 0):=by
 obtain ⟨c,a,d⟩:=h;have e1:ej y=y:=by
  unfold ej;rw [a,aA (by simp),jU y d]
 have b:fw y=0:=by simp [fw,a]
 have:=RG.one y 2 (zZ c) c.n32 (zZ (zR ⟨a,d,rfl⟩)) (by omega) (by rw [e1,b,SE]);rw [e1,b] at this;rw [SE];exact this
def bh.rg {x y:By} (F:NT y) {K:List (By × Nat)} {n i j:Nat} {p:Pt} (V:∀ k,k<G K->TI (aw K k)) (M:E1 K) (h:bh K n i j p):RG n (ai (aR x y p)) (opn p) (aR x y p):=by
 induction h with
 | atom i k O q N=>
  have o:=V i O;have E:=M i;generalize aw K i=t at *;rcases q with ⟨d,rfl⟩|⟨d,z,rfl⟩|⟨_,rfl⟩|w
  .obtain ⟨hs,W,P⟩:=E d;have e1:ej t=[]:=by simp [ej,d]
   have C:fw t=cR t:=by simp [fw,d]
   have e:aR x y (.atom 1 (ej t) (fw t))=.atom 1 [] (cR t):=by rw [e1,C];simp [aR]
   obtain ⟨t1,t2,t3,t4⟩:=sC W;have:=RG.one (Lib.decDigits (cR t)) 1 (zZ t1) t1.n32 t2 (by omega) (by rw [t3,t4,LV]);rw [t3,t4] at this;rw [e,LV];exact this
  .have R:fw t=0:=by simp [fw,d]
   have e1:ej t=t:=by
    unfold ej;rw [d,aA (by simp),jU t z]
   by_cases u:t=x
   .have e:aR x y (.atom 2 (ej t) (fw t))=.atom 2 y 0:=by unfold aR;rw [aB ⟨rfl,e1.t u⟩,R]
    rw [e];exact F.rg
   .have e:aR x y (.atom 2 (ej t) (fw t))=.atom 2 t 0:=by unfold aR;rw [aA λh=>u (e1.symm.t h.2),R,e1]
    rw [e];exact NT.rg ⟨o,d,z⟩
  .omega
  .rcases N with rfl|rfl|rfl|rfl<;>simp [eb] at w<;>subst w
   .exact RG.one [116,114,117,101] 7 (zZ o) o.n32 (ke (by decide)) (by omega) (by decide)
   .exact RG.one [102,97,108,115,101] 8 (zZ o) o.n32 (ke (by decide)) (by omega) (by decide)
 | jV i j a S d g=>
  have e:ai (aR x y (.un 6 a))=[110,111,116,32]++ai (aR x y a):=(by simp [aR,ai,iP,jO,lL,tD,tE,EF,gu,jn]);rw [e];exact g.jV
 | neg i j a S d g=>
  have e:ai (aR x y (.un 14 a))=[45]++ai (aR x y a):=(by simp [aR,ai,iP,jO,lL,tD,tE,EF,gu,jn]);rw [e];exact g.neg
 | br i j a S d H g=>
  have e:ai (aR x y (.un 9 a))=[40]++ai (aR x y a)++[41]:=(by simp [aR,ai,iP,jO,lL,tD,tE,EF,gu,jn]);rw [e];exact g.br
 | ifs i Q5 Q4 Q0 a b c m v L QV D QT s3 r f l s=>
  have e:ai (aR x y (.ifs a b c))=[105,102,40]++ai (aR x y a)++[44,32]++ai (aR x y b)++[44,32]++ai (aR x y c)++[41]:=(by simp [aR,ai,iP,jO,lL,tD,tE,EF,gu,jn]);rw [e];exact RG.ifs f l s
 | up n i j a m r d g=>exact g.up n m (by omega) (by omega)
 | more n i j Q6 k a b m r L T q D f l=>
  obtain ⟨Y,Z,U⟩:=QG m r T q;have:=RG.two m r f l Y.gt Z T q U;have e:ai (aR x y (.bin k a b))=ai (aR x y a)++[32]++aw K j++[32]++ai (aR x y b):=by simp [aR,ai,U,gu,jn]
  rw [e];have v:RG n (ai (aR x y a)++[32]++aw K j++[32]++ai (aR x y b)) (max (opn a) (opn b)) (.bin k (aR x y a) (aR x y b)):=by simpa using this
  exact v
def RG.reads {s:By} {m:Nat} {p:Pt} (h:RG 1 s m p) (f k:Nat) (g:G s<=f):∃ K,bW f s k=(K,none)/\bh K 1 0 (G K) p/\∀ j,j<G K->TI (aw K j):=by
 obtain ⟨a,rfl,C,e,d,l,c⟩:=h;have b:(um a k).length=(bB a).length:=by rw [<- zl a k,fy]
 refine ⟨_,uo a f k (e [] (zR rfl)) g,?_,λj n=>?_⟩
 .rw [b];have:=d.like (ts':=um a k) 0 (λi _ _=>?_) (by omega)
  .exact this
  .rw [jF,Di,zl];exact zR rfl
 .rw [Di,zl];have D:(bB a).getD j []∈bB a:=by
   rw [lC,cU (by omega)];exact bt (by omega)
  obtain ⟨E,F⟩:=yx.1 D;exact (C _ E).ti (by simpa using F)
section
attribute [local go_sem] ap aq
variable {w w' W:zW} {v:zV} {Z fin l:List RF} {r:Nat->Nat}
def FU {Q4 z g n c o:Nat} {e:TypeId} {C:List zV} (h:w.ownsRow Q4 e z (zS g n c) n C) (r:o<n*z) (u:zV):(w.setCell (X g o) u).ownsRow Q4 e z (zS g n c) n (C.set o u):=by
 refine ⟨by simpa using h.1,zZ ?_⟩;rcases h.2 with ⟨j,_⟩|⟨q,p,a,b,d,m,i,l,k,f⟩
 .cases j
 .cases b;refine ⟨g,c,a.set! o u,rfl,d,aj m o u,i,l,by simpa using k,?_⟩;rw [<- f];simp [List.take_set]
def LS:∀ (fs:List RF) (i:Nat) (f:RF),fs[i]?=A f->∀ k m,((dw fs).set (i*4+2) (J k)).set (i*4+3) (J m)=dw (fs.set i { f with kd:=k,n:=m })
 | [],i,f,h=>by simp at h
 | g::r,0,f,h=>by
  intro k m;simp at h;subst h;simp [dw]
 | g::r,i+1,f,h=>by
  intro k m;have:=LS r i f (by simpa using h) k m;have e:∀ l,dw (g::l)=Q g.nm::Q g.rl::J g.kd::J g.n::dw l:=λl=>(by simp [dw]);rw [List.set_cons_succ,e,e,<- this,show (i+1)*4+2=i*4+2+1+1+1+1 by omega,show (i+1)*4+3=i*4+3+1+1+1+1 by omega];simp
def sE {Q4 q z n:Nat} {e:TypeId} {v:zV} {C:List zV} (h:w.ownsRow Q4 e z v n C) (m:Kp q w w') (f:v.ownBlock≠A q):w'.ownsRow Q4 e z v n C:=by
 refine ⟨h.1,?_⟩;rcases h.2 with j|⟨g,c,a,rfl,b,o,i,l,k,d⟩
 .exact zR j
 .exact zZ ⟨g,c,a,rfl,b,m.blk o (λe=>f (by rw [<- e];rfl)),i,l,k,d⟩
def DT (l:List RF):(jv l).length=G l:=by simp [jv]
def LU {l:List RF} {j:Nat} (a:j<G l):jv (l.take (j+1))=jv (l.take j)++[{ l[j] with kd:=0,n:=0 }]:=by
 rw [vJ a];unfold jv;rw [fK];rfl
def el {Q4 n cn i:Nat} {g:Nat} {c:RF} (h:W.ownsRow Q4 131 4 (zS g n cn) n (dw Z)) (t:G Z=n) (b:Z[i]?=A c) :
  (W.cell? (X g (i*4))=A (Q c.nm)/\W.cell? (X g (i*4+1))=A (Q c.rl)/\W.cell? (X g (i*4+2))=A (J c.kd)/\W.cell? (X g (i*4+3))=A (J c.n))/\(W.frozen? (X g (i*4+2))=false/\W.frozen? (X g (i*4+3))=false)/\g<W.heap.size/\Q4<=g:=by
 have x:i<G Z:=(fI.1 b).1;have l:=pz Z;obtain ⟨j,o,f,e⟩:=IZ Z i c b;rcases h.2 with ⟨m,_⟩|⟨r,q,p,d,k,a,u,v,w,s⟩
 .cases m
 .cases d;exact ⟨⟨(h.cellAt (i*4) (by omega)).t j,(h.cellAt (i*4+1) (by omega)).t o,(h.cellAt (i*4+2) (by omega)).t f,(h.cellAt (i*4+3) (by omega)).t e⟩,⟨bF a _,bF a _⟩,(cz.1 a).1,k⟩
def VF {Q4 n cn:Nat} {b:Option zD} (h:W.ownsRow Q4 131 4 (B b n cn) n (dw Z)) (i:0<n):∃ g,b=A (yh g):=by
 rcases h.2 with ⟨f,a⟩|⟨c,e,d,a,-⟩
 .omega
 .cases a;exact ⟨c,rfl⟩
def Ey (r:Nat->Nat) (fin:List RF) (w:zW) (v:zV) (W:zW) (n i:Nat):Prop:=∃ Z,PK Z fin/\sR r Z n i/\W.ownsRow w.heap.size 131 4 v (G fin) (dw Z)/\zB w W
def Ey.put {i n g cn:Nat} {c f:RF} {p:Pt} {K:List (By × Nat)} {v:Vl} (l:Af fin r) (a:PK Z fin) (d:sR r Z n i) (b:Z[i]?=A c) (q:fin[i]?=A f) (hF:FR fin r i f p K) (k:nU (eO Z) p v false) (e:W.ownsRow w.heap.size 131 4 (zS g (G fin) cn) (G fin) (dw Z)) (j:zB w W) (o:Obj):Ey r fin w (zS g (G fin) cn) (((W.setCell (X g (i*4+2)) (J v.1)).setCell (X g (i*4+2+1)) (J v.2)).alloc o) n (i+1):=by
 have m:=QW l a hF k;subst m;have s:i<G fin:=a.1▸(fI.1 b).1;have h:=(el e a.1 b).2.2;refine ⟨Z.set i { c with kd:=f.kd,n:=f.n },a.set b q,d.set (pK hF.gd),?_,?_⟩
 .rw [<- LS Z i c b];exact (FU (FU e (by omega) _) (by omega) _).alloc _
 .refine ((j.setCell (p:=X g (i*4+2)) h.2 _).setCell (p:=X g (i*4+2+1)) h.2 _).alloc ?_ _;have:=j.size;simpa using this
def Ey.skip {i n g cn:Nat} {c f:RF} {p:Pt} {K:List (By × Nat)} {v:Vl} (b:PK Z fin) (a:sR r Z n i) (j:Z[i]?=A c) (hF:FR fin r i f p K) (e:nU (eO Z) p v true) (h:W.ownsRow w.heap.size 131 4 (zS g (G fin) cn) (G fin) (dw Z)) (d:zB w W) (o:Obj):Ey r fin w (zS g (G fin) cn) (W.alloc o) n (i+1):=
 ⟨Z,b,a.skip j (zZ (VD b a hF e)),h.alloc _,d.alloc d.size _⟩
def sG {i:Nat} {f:RF} {p:Pt} {K:List (By × Nat)} {l:Option zD} {k cn g Q4 o:Nat} (hF:FR fin r i f p K) (c:PK Z fin) (h:W.ownsRow Q4 131 4 (zS g (G fin) cn) (G fin) (dw Z)) (q:G fin<=1000) (m:W.ownsRow o 118 2 (B l (G K) k) (G K) (dt K)) :
  gp W.heap.size l k (A (yh g)) cn K Z (W.alloc (zM #[B l (G K) k,J 0,zS g (G fin) cn,zF false] 245)) 0 false:=by
 have s:G K<=1000:=by
  have:=fT (G f.rl) f.rl 0;have e:bW (G f.rl) f.rl 0=(K,none):=hF.tok;rw [e] at this;exact bf this hF.len
 rw [<- c.1] at h ⊢;refine ⟨bL W _,λj t=>?_,?_,?_,s⟩
 .obtain ⟨w,v,e,u⟩:=pQ m;cases e;obtain ⟨d,rfl,n,_⟩:=u j t;have b:=(fJ m d rfl).2;exact ⟨d,rfl,cZ b,bG b (bI W _).size,((bI W _).cell (p:=X d (j*2)) b).t n⟩
 .exact (dU.nj h (by rw [c.1];exact q)).next (bI W _)
 .rintro a e;cases e;exact cZ (fJ h g rfl).2
def Pr (hw:Af fin r) (hz:jv l=jv fin) (h:dU w v l):zC prog 123 #[v] w λe w'=>∃ v',e=zP v'/\w'.ownsRow w.heap.size 131 4 v' (G fin) (dw fin)/\zB w w':=by
 obtain ⟨i0,hi,aJ,a0,a1⟩:=fe I0;have HR:=I h;have O:=I hw;have HZ:=I hz;obtain ⟨hn,a2,c,rfl,R⟩:=h;have wR:(G l:Int)<=1000:=a6.2 hn;have Gh:=I hn;clear R hn hw hz;go_in;go_wp2_with fail;go_loopg [3,4] (G l) (λgk vo i wr=>∃ j:Nat,j<=G l/\G l<=j+gk/\i=J j/\Hid (wr.ownsRow w.heap.size 131 4 vo j (dw (jv (l.take j)))/\zB w wr))
 case atStart=>exact ⟨0,bE _,jD (cS _).symm,rfl,I ⟨eW _ _ _ _,aM _ _⟩⟩
 case round=>
  obtain ⟨j,hj,E,rfl,K⟩:=hrel;rcases cC j (G l) with L|L
  .have av:=eu L;have V:=I (eJ L E);obtain ⟨_,a',c',ay,H⟩:=HR.o;cases ay;rcases H with h0|⟨g,o,rfl,hg,H⟩
   .rw [h0] at L;exact absurd L (pH j)
   .obtain ⟨c0,c1,-,-⟩:=H j l[j] (cU L);have c0:=(K.o.2.cell (p:=X g (o+j*4)) hg).t c0;have c1:=(K.o.2.cell (p:=X g (o+j*4+1)) hg).t c1;have ak:=I (LU L);have X4:Hid (j+1<=maxLen/\(j+1)*48<=140737488355328):=I (by have h2:=Gh.o;unfold maxLen;omega);have P:Hid (wr.drew.ownsRow w.heap.size 131 4 u3 j (dw (jv (l.take j)))):=I (aZ K.o.1 (aM _ _).drew);have ac:Hid (A g≠u3.ownBlock):=I (λe=>by have:=(fJ K.o.1 g e.symm).1;omega);have Y:Hid (g<wr.heap.size/\w.heap.size<=wr.drew.heap.size):=I ⟨bG hg K.o.2.size,K.o.2.size⟩;clear H;generalize l[j]=f at *;go_wp2_with fail
    go_region_held3 (λw'=>w'.cell? (X g (o+j*4))=A (Q f.nm)/\w'.cell? (X g (o+j*4+1))=A (Q f.rl)) (first|go_keep|(go_split_ands;exact ⟨n0,n1⟩)) (first|(refine yw _ (by rfl) (.tmp 17) (.tmp 29) 111 (by rfl) w.heap.size 131 i0 (zd #[Q [],Q [],J 0,J 0]) 4 48 underlying111 hi aJ a0 a1 rfl (by decide) u3 j _ (by rfl) (P.o.alloc _) (yh wr.drew.heap.size) 1 1 [Q f.nm,Q f.rl,J 0,J 0] (by rfl) rfl (λQ0 ag hq=>bC wr.drew _ 131 Q0 ag hq) (λag hu=>by simp at hu;rcases hu with rfl|rfl|rfl<;>rfl) (by decide) X4.o.1 X4.o.2 (bf Y.o.2 (by simp)) (wr.drew.heap.size+1) (by simp) ?_;intro g' am w3 Q4 ee ao vQ;have n0:=(aS (ee.block g (by simp;have:=Y.o;omega) ac.o) (o+j*4)).t ((((bI wr.drew _).cell (p:=X g (o+j*4)) Y.o.1)).t c0);have n1:=(aS (ee.block g (by simp;have:=Y.o;omega) ac.o) (o+j*4+1)).t ((((bI wr.drew _).cell (p:=X g (o+j*4+1)) Y.o.1)).t c1);have B4:=I Q4;have B5:=I ee;clear Q4 ee ao))
    have M:Hid (w3.ownsRow w.heap.size 131 4 (zS g' (j+1) am) (j+1) (dw (jv (l.take (j+1))))/\zB w w3):=I (by
     rw [ak.o,FK];exact ⟨B4.o,((K.o.2.drew).alloc Y.o.2 _).grown B5.o (by simp;have:=K.o.2.size;omega) λQ0 hq=>(fJ P.o Q0 hq).1⟩)
    go_wp2_with fail;go_roundg (G l - (j+1))
    case measure=>exact V.o.2.1
    case rel=>exact ⟨j+1,V.o.2.2,V.o.1,(by simp),M⟩
  .have cn:=eH L;obtain rfl:j=G l:=lT hj L;have P:=I K.o;obtain ⟨an,U,rfl⟩:=eM P.o.1;have W:G l=G fin:=by rw [<- DT l,HZ.o,DT]
   rw [tq,HZ.o,W] at P;go_wp2_with fail;clear hj E L cn K;rw [W] at *;have a5:(G fin:Int)<=1000:=a6.2 O.o.1;go_loopg [5] (G fin) (λgk vA wr=>∃ n:Nat,n<=G fin/\G fin<=n+gk/\vA=J n/\Hid (Ey r fin w (B an (G fin) U) wr n 0))
   case atStart=>exact ⟨0,bE _,jD (cS _).symm,rfl,I ⟨_,qm,VE,P.o.1,P.o.2⟩⟩
   case round=>
    obtain ⟨n,hn,E,rfl,K⟩:=hrel;clear P;rcases cC n (G fin) with D|D
    .have av:=eu D;have V:=I (eJ D E);go_wp2_with fail;go_loopg [6] (G fin) (λgk vA wr=>∃ i:Nat,i<=G fin/\G fin<=i+gk/\vA=J i/\Hid (Ey r fin w (B an (G fin) U) wr n i))
     case atStart=>exact ⟨0,bE _,jD (cS _).symm,rfl,K⟩
     case round=>
      obtain ⟨i,kL,Q6,rfl,HI⟩:=hrel;clear K;rcases cC i (G fin) with t|t
      .have a3:=eu t;have N:=I (eJ t Q6);obtain ⟨Z,b,m,d,HN⟩:=HI.o;have eQ:i<G Z:=b.1▸t;obtain ⟨c,R⟩:∃ c,Z[i]?=A c:=⟨_,cU eQ⟩;obtain ⟨f,hf,e1,e2,e3⟩:=b.at R;obtain ⟨ba,Rb,hF⟩:=O.o.2 i f hf;obtain ⟨g,rfl⟩:=VF d (th (bE _) t);obtain ⟨⟨c0,c1,c2,c3⟩,⟨z2,z3⟩,Q5,ar⟩:=el d b.1 R;by_cases C:c.kd=0
       .rw [C] at c2;have Ta:=I (show aI c.rl=(Rb,none) by rw [e2];exact hF.tok);have AJ:=I (show (G c.rl)<=1000 by rw [e2];exact hF.len);have T:=I b;have x:=I m;have y:=I d;have a:=I HN;have S:=I hF;have p:=I R;have QV:=I hf;clear C b m d HN hF HI R hf e1 e2 e3 eQ;go_wp2_with (go_at_call 51;refine mo (iU c.rl _ Rb AJ.o Ta.o) ?_;rintro e s ⟨vt,rfl,X5,F⟩);obtain ⟨ta,tc,rfl,ax⟩:=pQ X5;obtain ⟨v,no,hE,ad⟩:=sz (q:=s.heap.size) (al:=ta) (cl:=tc) (af:=A (yh g)) (cf:=U) (gV S.o.ok) (qk O.o T.o) S.o.der;have WQ:=I (sG S.o T.o (aZ y.o F) O.o.1 X5);have QT:=I ad;have u:=I hE;have k:=I F;have w1:g<s.heap.size:=bG Q5 F.size;have au:g≠s.heap.size:=cZ w1;have a4:s.heap.size≠g:=cN w1;clear hE ad ax X5 F;apply I;go_wp2_with (go_at_call 155;refine mo (QT.o _ WQ.o) ?_;rintro e w2 ⟨rfl,aa,S9⟩);obtain ⟨⟨k0,k1,k2,k3⟩,⟨f0,f1,f2,f3⟩,a9⟩:=aX aa.row;have q:Hid (w2.ownsRow w.heap.size 131 4 (zS g (G fin) U) (G fin) (dw Z)):=I (sE ((aZ y.o k.o).alloc _) S9 (λe=>au (dp e)));have z:Hid (zB w w2):=I ((a.o.t (k.o.m a.o.size)).t (((bI s _).m (bf a.o.size k.o.size)).t (S9.bS.m (bf a.o.size k.o.size))));obtain ⟨⟨c0,c1,c2,c3⟩,⟨z2,z3⟩,Q5,ar⟩:=el q.o T.o.1 p.o;clear aa S9;cases no
        .have M:=I (Ey.put O.o T.o x.o p.o QV.o S.o u.o q.o z.o (zM #[J v.1,J v.2] 129));clear T x p QV S u q z y a WQ QT k Ta AJ;apply I;go_wp2_with fail;go_roundg (G fin - (i+1))
         case measure=>exact N.o.2.1
         case rel=>exact ⟨i+1,N.o.2.2,N.o.1,by go_num,M⟩
        .have M:=I (Ey.skip T.o x.o p.o S.o u.o q.o z.o (zM #[J v.1,J v.2] 129));clear T x p QV S u q z y a WQ QT k Ta AJ;apply I;go_wp2_with fail;go_roundg (G fin - (i+1))
         case measure=>exact N.o.2.1
         case rel=>exact ⟨i+1,N.o.2.2,N.o.1,by go_num,M⟩
       .have a8:(c.kd == 0)=false:=by simpa using C
        have M:Hid (Ey r fin w (zS g (G fin) U) wr n (i+1)):=I ⟨Z,b,m.skip R (zR C),d,HN⟩;clear C b m d HN HI hF R hf e1 e2 e3 eQ;go_wp2_with fail;go_roundg (G fin - (i+1))
        case measure=>exact N.o.2.1
        case rel=>exact ⟨i+1,N.o.2.2,N.o.1,by go_num,M⟩
      .have cn:=eH t;obtain rfl:i=G fin:=lT kL t;have M:Hid (Ey r fin w (B an (G fin) U) wr (n+1) 0):=I (by
        obtain ⟨Z,b,m,D3⟩:=HI.o;exact ⟨Z,b,sR.round (by rw [b.1];exact m),D3⟩)
       go_wp2_with fail;go_roundg (G fin - (n+1))
       case measure=>exact V.o.2.1
       case rel=>exact ⟨n+1,V.o.2.2,V.o.1,by go_num,M⟩
    .have cn:=eH D;have HF:Hid (wr.ownsRow w.heap.size 131 4 (B an (G fin) U) (G fin) (dw fin)/\zB w wr):=I (by
      obtain ⟨Z,b,m,D3⟩:=K.o;rw [<- sR.done O.o b m D];rw [b.1];exact D3)
     go_wp2_with fail;go_ret;exact ⟨_,rfl,HF.o⟩
end
section
variable {fs Z:List Fd} {H rs:List RF} {x:By} {p:Pt} {K:List (By × Nat)}
def B7 {k:Nat} {a:Pt} (b:k≠2):aC x (.un k a)=aC x a:=by simp [aC,b]
def RB {k:Nat} {a b:Pt} (c:k≠2):aC x (.bin k a b)=(aC x a||aC x b):=by simp [aC,c]
def RD {a b c:Pt}:aC x (.ifs a b c)=(aC x a||aC x b||aC x c):=by simp [aC,Bool.or_assoc]
def Hu {t:By} {n k:Nat} (hs:b5 t (dc n)=true) (b:ij t k):k≠2/\bm t=false:=by
 have:t∈([[111,114],[97,110,100],[61],[60],[43],[45],[42],[47],[37]]:List By):=by
  rcases dI hs with ⟨_,h⟩|⟨_,h⟩|⟨_,h|h⟩|⟨_,h|h⟩|⟨_,h|h|h⟩<;>rw [h]<;>decide
 have a:bm t=false:=by
  revert this;generalize t=u;revert u;decide
 refine ⟨λe=>?_,a⟩;subst e;rcases b with ⟨_,h⟩|⟨_,h,_⟩|⟨_,h⟩|h
 .omega
 .rw [a] at h;cases h
 .omega
 .revert h;simp [eb]
def bh.abq {n i j:Nat} {p:Pt} (h:bh K n i j p):∀ x,aC x p=true->bm x=true:=by
 induction h with
 | atom i k H o F=>
  intro x d;rcases o with ⟨s,rfl⟩|⟨s,t,rfl⟩|⟨_,rfl⟩|w
  .simp [aC] at d
  .have e:ej (aw K i)=aw K i:=by
    unfold ej;rw [s,aA (by simp),jU _ t]
   simp [aC,e] at d;rw [<- d];exact t
  .omega
  .have:k≠2:=by
    rintro rfl;revert w;simp [eb]
   simp [aC,this] at d
 | jV i j a u _ g=>intro x d;rw [B7 (by decide)] at d;exact g x d
 | neg i j a u _ g=>intro x d;rw [B7 (by decide)] at d;exact g x d
 | br i j a u _ y g=>intro x d;rw [B7 (by decide)] at d;exact g x d
 | ifs i z M L a b c E r _ C _ N _ D f l q=>
  intro x d;rw [RD,rE,rE] at d;rcases d with (d|d)|d
  .exact f x d
  .exact l x d
  .exact q x d
 | up n i j a r v _ g=>exact g
 | more n i j G k a b r v _ m o _ f l=>
  intro x d;rw [RB (Hu m o).1,rE] at d;rcases d with d|d
  .exact f x d
  .exact l x d
def EY (K:List (By × Nat)) (x:By) (i j:Nat):Prop:=∃ k,i<=k/\k<j/\aw K k=x
def gQ {i j k:Nat} (d:i<=j) (e:j<=k):EY K x i k↔EY K x i j\/EY K x j k:=by
 constructor
 .rintro ⟨m,a,b,c⟩;rcases cC m j with h|h
  .exact zR ⟨m,a,h,c⟩
  .exact zZ ⟨m,h,b,c⟩
 .rintro (⟨m,a,b,c⟩|⟨m,a,b,c⟩)
  .exact ⟨m,a,by omega,c⟩
  .exact ⟨m,by omega,b,c⟩
def EZ {i:Nat}:EY K x i (i+1)↔aw K i=x:=by
 constructor
 .rintro ⟨m,a,b,c⟩;have:m=i:=(by omega);rw [<- this];exact c
 .intro h;exact ⟨i,aG _,by omega,h⟩
def lW {i:Nat} {t:By} (b:aw K i=t) (c:bm t=false) (a:bm x=true):¬ EY K x i (i+1):=by
 rw [EZ,b];rintro rfl;rw [c] at a;cases a
def bh.alC {n i j:Nat} {p:Pt} (h:bh K n i j p) (R:bm x=true):aC x p=true↔EY K x i j:=by
 induction h with
 | atom i k Q4 t ht=>
  rw [EZ];rcases t with ⟨z,rfl⟩|⟨z,L,rfl⟩|⟨_,rfl⟩|U
  .simp only [aC];constructor
   .intro h;simp at h
   .intro h;exfalso;have:=mS R;rw [<- h] at this;have:=oy _ _ _ this (zR ⟨z,rfl⟩);omega
  .have e:ej (aw K i)=aw K i:=by
    unfold ej;rw [z,aA (by simp),jU _ L]
   simp [aC,e]
  .omega
  .have o:k≠2:=by
    rintro rfl;revert U;simp [eb]
   constructor
   .intro h;simp [aC,o] at h
   .intro h;exfalso;have:=mS R;rw [<- h] at this;exact o (oy _ _ _ (zZ (zZ (zZ U))) this)
 | jV i j a T d S=>
  rw [B7 (by decide),S,gQ (i:=i) (j:=i+1) (k:=j) (by omega) (by have:=d.lt;omega)];exact ⟨zZ,λh=>h.resolve_left (lW T (by decide) R)⟩
 | neg i j a T d S=>
  rw [B7 (by decide),S,gQ (i:=i) (j:=i+1) (k:=j) (by omega) (by have:=d.lt;omega)];exact ⟨zZ,λh=>h.resolve_left (lW T (by decide) R)⟩
 | br i j a T d V S=>
  rw [B7 (by decide),S,gQ (i:=i) (j:=i+1) (k:=j+1) (by omega) (by have:=d.lt;omega),gQ (i:=i+1) (j:=j) (k:=j+1) (by have:=d.lt;omega) (by omega)];exact ⟨λh=>zZ (zR h),λh=>(h.resolve_left (lW T (by decide) R)).resolve_right (lW V (by decide) R)⟩
 | ifs i r s f a b Q0 O u w Y v W P N g l hx=>
  have M:=w.lt;have y:=v.lt;have ih:=P.lt;rw [RD,rE,rE,g,l,hx];rw [gQ (i:=i) (j:=i+1) (k:=f+1) (by omega) (by omega),gQ (i:=i+1) (j:=i+1+1) (k:=f+1) (by omega) (by omega),gQ (i:=i+1+1) (j:=r) (k:=f+1) (by omega) (by omega),gQ (i:=r) (j:=r+1) (k:=f+1) (by omega) (by omega),gQ (i:=r+1) (j:=s) (k:=f+1) (by omega) (by omega),gQ (i:=s) (j:=s+1) (k:=f+1) (by omega) (by omega),gQ (i:=s+1) (j:=f) (k:=f+1) (by omega) (by omega)];have c:=lW O (by decide) R;have F:=lW u (by decide) R;have H:=lW Y (by decide) R;have D:=lW W (by decide) R;have E:=lW N (by decide) R;simp only [c,F,H,D,E,false_or,iK];rw [or_assoc]
 | up n i j a u G _ S=>exact S
 | more n i j C k a b u G w m t v g l=>
  have M:=w.lt;have y:=v.lt;have q:=lW (rfl:aw K j=aw K j) (Hu m t).2 R;rw [RB (Hu m t).1,rE,g,l,gQ (i:=i) (j:=j) (k:=C) (by omega) (by omega),gQ (i:=j) (j:=j+1) (k:=C) (by omega) (by omega)];simp only [q,false_or]
def xP (p:Pt):Prop:=∃ m,RG 1 (ai p) m p
def xP.reads (h:xP p):∃ K,aI (ai p)=(K,none)/\bh K 1 0 (G K) p/\∀ j,j<G K->TI (aw K j):=h.elim λ_ h=>RG.reads h _ 0 (aG _)
def oz (h:xP p) (x:By):gC (ai p) x=aC x p:=by
 obtain ⟨K,j,d,_⟩:=h.reads;unfold gC;rw [j];cases b:bm x
 .rw [Bool.and_false];cases a:aC x p
  .rfl
  .have:=d.abq x a;rw [b] at this;cases this
 .rw [Bool.and_true];have:=d.alC (x:=x) b;rw [Bool.eq_iff_iff,this,rD];constructor
  .rintro ⟨t,a,g⟩;obtain ⟨i,f,rfl⟩:=e9 a;exact ⟨i,bE _,f,by rw [eY K i f];simpa using g⟩
  .rintro ⟨k,_,c,e⟩;exact ⟨K[k],bt c,by rw [eY K k c] at e;simpa using e⟩
def lO (fs:List Fd):Prop:=∀ f,f∈fs->xP f.p/\(ai f.p).length<=100/\G f.nm<=6
def DR.tT (h:DR fs H) (g:lO fs):pP H:=by
 intro d c;obtain ⟨f,e,rfl⟩:=(h.2 d).1 c;obtain ⟨a,i,j⟩:=g f e;obtain ⟨K,b,_⟩:=a.reads;refine ⟨by show (ai f.p).length<=1000;omega,by show (aI (ai f.p)).2=none;rw [b],by show (G f.nm)<=1000;omega⟩
inductive jc (fs:List Fd) (x:By):By->Prop
 | one (f:Fd):f∈fs->aC x f.p=true->jc fs x f.nm
 | step (f g:Fd):f∈fs->g∈fs->jc fs x g.nm->aC g.nm f.p=true->jc fs x f.nm
def nA:∀ {fs:List Fd},(fs.map λg=>g.nm).Nodup->∀ f g,f∈fs->g∈fs->f.nm=g.nm->f=g
 | [],_,f,g,h,_,_=>by cases h
 | a::r,d,f,g,h,i,e=>by
  rw [fL,jB] at d;rcases bQ.1 h with c|c
  .rcases bQ.1 i with b|b
   .rw [c,b]
   .exact absurd (bU.2 ⟨g,b,by rw [<- e,c]⟩) d.1
  .rcases bQ.1 i with b|b
   .exact absurd (bU.2 ⟨f,c,by rw [e,b]⟩) d.1
   .exact nA d.2 f g c b e
def DR.hang (h:DR fs H) (o:(fs.map λg=>g.nm).Nodup) (p:lO fs) (x:By) {i:Nat} {d:RF} (c:H[i]?=A d):rO H x i↔jc fs x d.nm:=by
 constructor
 .intro u
  induction u generalizing d with
  | base i f j l=>
   rw [j] at c;cases c;obtain ⟨b,a,rfl⟩:=(h.2 _).1 (oG j);refine jc.one b a ?_;rw [<- oz (p b a).1];exact l
  | step i k f g j q _ l r=>
   rw [j] at c;cases c;obtain ⟨b,a,rfl⟩:=(h.2 _).1 (oG j);have C:=r q;obtain ⟨v,t,rfl⟩:=(h.2 _).1 (oG q);refine jc.step b v a t C ?_;rw [<- oz (p b a).1];exact l
 .intro u;have s:∀ n,jc fs x n->∀ (i:Nat) (d:RF),H[i]?=A d->d.nm=n->rO H x i:=by
   intro n o
   induction o with
   | one f j l=>
    intro i d c e;obtain ⟨b,a,rfl⟩:=(h.2 _).1 (oG c);obtain rfl:b=f:=nA o _ _ a j e;exact .base i _ c (by show gC (ai b.p) x=true;rw [oz (p b j).1];exact l)
   | step f g j q _ l r=>
    intro i d c e;obtain ⟨b,a,rfl⟩:=(h.2 _).1 (oG c);obtain rfl:b=f:=nA o _ _ a j e;obtain ⟨k,C,D⟩:=e9 ((h.2 (qF g)).2 ⟨g,q,rfl⟩);have m:H[k]?=A (qF g):=(by rw [cU C,D]);exact .step i k _ _ c m (r k _ m rfl) (by show gC (ai b.p) g.nm=true;rw [oz (p b j).1];exact l)
  exact s d.nm u i d c rfl
def DR.dZ (h:DR fs H) (l:(fs.map λg=>g.nm).Nodup) (j:lO fs):AO H↔∃ f,f∈fs/\jc fs f.nm f.nm:=by
 constructor
 .rintro ⟨i,d,e,b⟩;have:=(h.hang l j d.nm e).1 b;obtain ⟨f,c,rfl⟩:=(h.2 _).1 (oG e);exact ⟨f,c,this⟩
 .rintro ⟨f,c,b⟩;obtain ⟨k,D,C⟩:=e9 ((h.2 (qF f)).2 ⟨f,c,rfl⟩);have a:H[k]?=A (qF f):=(by rw [cU D,C]);exact ⟨k,_,a,(h.hang l j f.nm a).2 b⟩
end
section
variable {a:Ab} {d:De} {fs Z:List Fd} {H:List RF}
inductive tX:List (List Fd)->List (List RF)->Prop
 | nil:tX [] []
 | cons {l m ls ms}:DR l m->tX ls ms->tX (l::ls) (m::ms)
def tX.take {b:List (List Fd)} {a:List (List RF)} (h:tX b a) (n:Nat):tX (b.take n) (a.take n):=by
 induction h generalizing n with
 | nil=>simp;exact .nil
 | cons h _ c=>
  cases n with
  | zero=>exact .nil
  | succ n=>exact .cons h (c n)
def tX.len {b:List (List Fd)} {a:List (List RF)} (h:tX b a):G b=G a:=by
 induction h with
 | nil=>rfl
 | cons _ _ c=>simp [c]
structure AD (a:Ab) (d:De):Prop where
 fs:DR a.fs d.fs
 past:tX a.past d.bk.reverse
 jr:tX a.jr d.ag.reverse
 M:d.M=a.M
 op:d.op=a.dV.isSome
 sv:∀ g,a.dV=A g->DR g d.sv
structure QL (L:List Fd):Prop where
 gf:GF L
 rg:lO L
 len:G L<=10
 ne:∀ f,f∈L->f.nm≠[]
structure QA (a:Ab):Prop where
 fs:QL a.fs
 past:∀ L,L∈a.past->QL L
 jr:∀ L,L∈a.jr->QL L
 dV:∀ L,a.dV=A L->QL L
 sum:G a.past+G a.jr<=a.M
 M6:a.M<=6
def wW {C:Type} (l:List C) (n:Nat):(eI l n).reverse=l.reverse.take n:=by
 unfold eI;rw [<- Bx l,List.length_reverse];generalize l.reverse=k;rw [Bx];rw [show k.reverse.drop (G k - n)=(k.take n).reverse by rw [List.reverse_take]];rw [Bx]
def QA.bk (h:QA a) (b:AD a d):G d.bk<=6/\G d.ag<=6:=by
 have e:=b.past.len;have c:=b.jr.len;have f:=h.sum;have g:=h.M6;rw [List.length_reverse] at e c;omega
def y6 (d:De) (a:List RF):De:=if d.op=true then { d with fs:=a } else CG { d with fs:=a } d.fs
def AD.done (h:AD a d) (i:DR Z H):AD (wM a Z) (y6 d H):=by
 unfold wM y6;cases f:a.dV with
 | none=>
  have b:=h.op;rw [f] at b;have c:d.op=false:=b;rw [aA (by rw [c];simp)];refine ⟨i,?_,.nil,h.M,b,λg e=>by cases e⟩;show tX ((a.fs::a.past).take a.M) (eI (d.bk++[d.fs]) d.M).reverse;rw [wW,rj,h.M];exact (tX.cons h.fs h.past).take a.M
 | some g=>
  have b:=h.op;rw [f] at b;have c:d.op=true:=b;rw [aB c];exact ⟨i,h.past,h.jr,h.M,b,λj e=>by cases e;exact h.sv _ f⟩
def AD.fail (h:AD a d):AD (ma a) (if d.op=true then rN d else d):=by
 unfold ma;cases f:a.dV with
 | none=>
  have b:=h.op;rw [f] at b;have c:d.op=false:=b;rw [aA (by rw [c];simp)];exact h
 | some g=>
  have b:=h.op;rw [f] at b;have c:d.op=true:=b;rw [aB c];exact ⟨h.sv g f,h.past,h.jr,h.M,rfl,λi e=>by cases e⟩
def E4 {C:Type} {l:List C} {x:C} {r:List C} (h:l.reverse=x::r):l.getLast?=A x/\l.dropLast.reverse=r/\l≠[]:=by
 have e:l=(x::r).reverse:=by rw [<- h,Bx]
 subst e;refine ⟨(by simp),?_,by simp⟩;rw [List.reverse_cons,Bz,Bx]
def AD.pS (h:AD a d):(lZ d).1=(mb a).1/\AD (mb a).2 (lZ d).2:=by
 unfold mb lZ;cases D:a.dV with
 | some g=>
  have C:=h.op;rw [D] at C;rw [aB (show d.op=true from C)];exact ⟨rfl,h⟩
 | none=>
  have C:=h.op;rw [D] at C;rw [aA (by rw [C];simp)];have b:=h.past;cases f:a.past with
  | nil=>
   rw [f] at b;generalize c:d.bk.reverse=j at b;cases b;have e:d.bk=[]:=List.reverse_eq_nil_iff.1 c;rw [e];exact ⟨rfl,h⟩
  | cons o m=>
   rw [f] at b;generalize c:d.bk.reverse=j at b;cases b with
   | cons k l=>
    obtain ⟨e1,i,_⟩:=E4 c;rw [e1];refine ⟨rfl,⟨k,by rw [i];exact l,?_,h.M,C,λg e=>by cases e⟩⟩;show tX (a.fs::a.jr) (d.ag++[d.fs]).reverse;rw [rj];exact .cons h.fs h.jr
def AD.pT (h:AD a d) (l:QA a):(l6 d).1=(mf a).1/\AD (mf a).2 (l6 d).2:=by
 unfold mf l6;cases D:a.dV with
 | some g=>
  have C:=h.op;rw [D] at C;rw [aB (show d.op=true from C)];exact ⟨rfl,h⟩
 | none=>
  have C:=h.op;rw [D] at C;rw [aA (by rw [C];simp)];have b:=h.jr;cases c:a.jr with
  | nil=>
   rw [c] at b;generalize f:d.ag.reverse=j at b;cases b;have e:d.ag=[]:=List.reverse_eq_nil_iff.1 f;rw [e];exact ⟨rfl,h⟩
  | cons o p=>
   rw [c] at b;generalize f:d.ag.reverse=j at b;cases b with
   | cons k m=>
    obtain ⟨e1,i,_⟩:=E4 f;rw [e1];refine ⟨rfl,⟨k,?_,by rw [i];exact m,h.M,C,λg e=>by cases e⟩⟩;show tX (a.fs::a.past) (eI (d.bk++[d.fs]) d.M).reverse;rw [wW,rj];have n:(a.fs::a.past).take d.M=a.fs::a.past:=by
     rw [qy];have:=l.sum;rw [c] at this;rw [h.M];simp at this ⊢;omega
    rw [<- n];exact (tX.cons h.fs h.past).take d.M
def AD.begin (h:AD a d):(uQ d).1=(oq a).1/\AD (oq a).2 (uQ d).2:=by
 unfold oq uQ;cases D:a.dV with
 | some g=>
  have C:=h.op;rw [D] at C;rw [aB (show d.op=true from C)];exact ⟨rfl,h⟩
 | none=>
  have C:=h.op;rw [D] at C;rw [aA (by rw [C];simp)];exact ⟨rfl,h.fs,h.past,h.jr,h.M,rfl,λg e=>by cases e;exact h.fs⟩
def AD.cancel (h:AD a d):(qK d).1=(mg a).1/\AD (mg a).2 (qK d).2:=by
 unfold mg qK;cases D:a.dV with
 | some g=>
  have C:=h.op;rw [D] at C;rw [aB (show d.op=true from C)];exact ⟨rfl,h.sv g D,h.past,h.jr,h.M,rfl,λg e=>by cases e⟩
 | none=>
  have C:=h.op;rw [D] at C;rw [aA (by rw [C];simp)];exact ⟨rfl,h⟩
def AD.kW (h:AD a d):(qL d).1=(mh a).1/\AD (mh a).2 (qL d).2:=by
 unfold mh qL;cases D:a.dV with
 | some g=>
  have C:=h.op;rw [D] at C;rw [aB (show d.op=true from C)];refine ⟨rfl,h.fs,?_,.nil,h.M,rfl,λg e=>by cases e⟩;show tX ((g::a.past).take a.M) (eI (d.bk++[d.sv]) d.M).reverse;rw [wW,rj,h.M];exact (tX.cons (h.sv g D) h.past).take a.M
 | none=>
  have C:=h.op;rw [D] at C;rw [aA (by rw [C];simp)];exact ⟨rfl,h⟩
def QA.done (h:QA a) (c:QL Z):QA (wM a Z):=by
 unfold wM;cases d:a.dV with
 | none=>
  refine ⟨c,λL b=>?_,(λL b=>by cases b),(λL e=>by cases e),?_,h.M6⟩
  .rcases bQ.1 (lS b) with rfl|b
   .exact h.fs
   .exact h.past L b
  .show ((a.fs::a.past).take a.M).length+0<=a.M;rw [sF];omega
 | some g=>exact ⟨c,h.past,h.jr,(λL e=>by cases e;exact h.dV _ d),h.sum,h.M6⟩
def QA.fail (h:QA a):QA (ma a):=by
 unfold ma;cases C:a.dV with
 | none=>exact h
 | some g=>exact ⟨h.dV g C,h.past,h.jr,(λL e=>by cases e),h.sum,h.M6⟩
def QA.pS (h:QA a):QA (mb a).2:=by
 unfold mb;cases b:a.dV with
 | some g=>exact h
 | none=>
  cases D:a.past with
  | nil=>exact h
  | cons o c=>
   have E:=h.sum;rw [D] at E;refine ⟨h.past o (by rw [D];exact il),λL C=>h.past L (by rw [D];exact ki _ C),λL C=>?_,(λL e=>by cases e),?_,h.M6⟩
   .rcases bQ.1 C with rfl|C
    .exact h.fs
    .exact h.jr L C
   .simp at E ⊢;omega
def QA.pT (h:QA a):QA (mf a).2:=by
 unfold mf;cases b:a.dV with
 | some g=>exact h
 | none=>
  cases D:a.jr with
  | nil=>exact h
  | cons o c=>
   have E:=h.sum;rw [D] at E;refine ⟨h.jr o (by rw [D];exact il),λL C=>?_,λL C=>h.jr L (by rw [D];exact ki _ C),(λL e=>by cases e),?_,h.M6⟩
   .rcases bQ.1 C with rfl|C
    .exact h.fs
    .exact h.past L C
   .simp at E ⊢;omega
def QA.begin (h:QA a):QA (oq a).2:=by
 unfold oq;cases b:a.dV with
 | some g=>exact h
 | none=>exact ⟨h.fs,h.past,h.jr,(λL e=>by cases e;exact h.fs),h.sum,h.M6⟩
def QA.cancel (h:QA a):QA (mg a).2:=by
 unfold mg;cases C:a.dV with
 | none=>exact h
 | some g=>exact ⟨h.dV g C,h.past,h.jr,(λL e=>by cases e),h.sum,h.M6⟩
def QA.kW (h:QA a):QA (mh a).2:=by
 unfold mh;cases c:a.dV with
 | none=>exact h
 | some g=>
  refine ⟨h.fs,λL b=>?_,(λL b=>by cases b),(λL e=>by cases e),?_,h.M6⟩
  .rcases bQ.1 (lS b) with rfl|b
   .exact h.dV _ c
   .exact h.past L b
  .show ((g::a.past).take a.M).length+0<=a.M;rw [sF];omega
end
section
attribute [local go_sem] ap aq
variable {w w' W w1:zW} {v vl vb va:zV} {aJ:List By} {H out:List RF} {x nm:By} {S:Nat->Prop} {y er:Nat} {d:De}
def dk (S:Nat->Prop) (y:Nat) (vb va:zV) (d':De) (w:zW) (r:Ending) (w':zW):Prop:=∃ C b a,r=zP (zF true)/\dE w' C y b a d'/\Ks (kz y vb va) w w'/\(∀ q,kz y b a q->kz y vb va q\/w.heap.size<=q)/\∀ q,C q->S q\/w.heap.size<=q
def dE.grow (h:dE w S y vb va d) (c:zB w w'):dE w' (λq=>S q\/(w.heap.size<=q/\q<w'.heap.size)) y vb va d:=by
 refine (h.next c).wide (λq a=>zR a) (λq a b=>?_) λq a=>?_
 .have:=h.CF q b;rcases a with a|a
  .exact h.nS q a b
  .omega
 .rcases a with a|a
  .exact bG (h.lt q a) c.size
  .exact a.2
def dE.cells (h:dE w S y vb va d):∃ a b,w.cell? (yh y)=A a/\w.cell? (X y 4)=A (zF d.op)/\w.frozen? (yh y)=false/\w.heap[y]?=A (zM #[a,vb,va,J d.M,zF d.op,b] 114 (0,0))/\(dU w a d.fs/\BS S a)/\dU w b d.sv/\BS S b:=by
 obtain ⟨a,b,c,e,f⟩:=h.row;obtain ⟨⟨c0,_,_,_,c4,_⟩,⟨z0,_⟩,_⟩:=eC c;exact ⟨a,b,c0,c4,z0,c,e,f⟩
def dE.aiv {a:zV} (h:dE w S y vb va d) (f:dU w a out) (b:BS S a):dE (w.setCell (yh y) a) S y vb va { d with fs:=out }/\Ks (kz y vb va) w (w.setCell (yh y) a):=by
 obtain ⟨j,g,c,i,e⟩:=h.row;exact h.J1 (d':={ d with fs:=out }) ((Ks.refl _ _).set y 0 a rfl) (ju c).1 ⟨f,b⟩ e rfl rfl rfl
def Pk (bn:Option zD) (cn:Nat) (h:dE w S y vb va d) (U:∀ W,zB w W->zC prog 116 #[zJ y,v] W (jT W out 0 nm)) (H:ll w (B bn (G aJ) cn) aJ) (M:G aJ<=1000) (Q0:pP out) (R:G nm<=1000) (E:abC aJ out nm) (Q4:G d.bk<=900) :
  zC prog 83 #[zd #[J 0,J 0,Q [],B bn (G aJ) cn,J 0,J 0],zJ y,v] w (dk S y vb va (y6 d out) w):=by
 have F:=I h;have L:=I U;have HR:=I H;have HG:=I (λW vl (w2:zB w W) (hl:dU W vl out)=>TZ (H.below w2) M hl Q0 R E);have C:=I Q4;clear h U H M Q0 R E Q4;go_in;go_wp2_with (go_at_call 116;refine mo (L.o _ (bZ _)) ?_;rintro e w1 ⟨vo,rfl,E,z,D⟩);have n:Hid (zB w w1):=I ((bZ _).t (D.m (by simp)));have k:=D.block w.heap.size (by simp);obtain ⟨⟨c0,c1,c2,c3,c4,c5⟩,⟨z0,z1,z2,z3,z4,z5⟩,hz⟩:=eC (w:=w1) (q:=w.heap.size) (v0:=J 0) (v1:=J 0) (v2:=Q []) (v3:=B bn (G aJ) cn) (v4:=J 0) (v5:=J 0) (t:=39) (k.t (by simp only [World.alloc,yi]));obtain ⟨P,Z,V,rfl⟩:∃ a Q5 c,vo=B a Q5 c:=(by obtain ⟨_,a,c,e,_⟩:=E;exact ⟨a,_,c,e⟩);have T:=I E;have r:=I z;clear E z D k z0 z1 z2 z3 z4 z5 L;apply I;go_wp2_with (go_at_call 117;refine mo (HG.o _ _ n.o T.o) ?_;rintro e K ⟨rfl,j⟩);have i:Hid (zB w K):=I (n.o.t (j.m n.o.size));have p:=I (F.o.grow i.o);obtain ⟨vf,vs,y0,N,yz,-,s,-⟩:=p.o.cells;have m:=I s;have x:Hid (dU K (B P Z V) out/\BS (λq=>S q\/(w.heap.size<=q/\q<K.heap.size)) (B P Z V)):=I ⟨T.o.next j,λq b=>zZ ⟨bf (by simp) (r.o q b).1,bG (r.o q b).2 j.size⟩⟩;have f:=I (p.o.aiv x.o.1 x.o.2);have JU:Hid (∀ q,kz y vb va q->q<w.heap.size):=I F.o.CF;have Q6:y<K.heap.size:=bG F.o.abm i.o.size;clear j s;cases Y:d.op with
 | true=>
  have o:Hid (y6 d out={ d with fs:=out }):=I (aB Y);rw [Y] at N;apply I;go_wp2_with fail;go_ret;exact ⟨λq=>S q\/(w.heap.size<=q/\q<K.heap.size),vb,va,rfl,by rw [o.o];exact f.o.1,(Ks.of i.o).t f.o.2,(λq b=>zR b),λq b=>b.imp id λh=>h.1⟩
 | false=>
  have o:Hid (y6 d out=CG { d with fs:=out } d.fs):=I (aA (by rw [Y];simp));rw [Y] at N;have QV:=I (ES (u:=vf) (l:=d.fs) f.o.1 (m.o.1.ks f.o.2 λq b hf=>p.o.nS q (m.o.2 q b) hf) m.o.2 C.o);apply I;go_wp2_with (go_at_call 118;refine mo QV.o ?_;rintro e w3 ⟨ho,rfl,O,g,l⟩;have H3:=I O;have H4:=I g;have H5:=I l;clear O g l);apply I;go_wp2_with fail;go_ret;refine ⟨λq=>S q\/(w.heap.size<=q/\q<K.heap.size),ho,_,rfl,by rw [o.o];exact H3.o,((Ks.of i.o).t f.o.2).t H4.o,(λq b=>?_),λq b=>b.imp id λh=>h.1⟩;rcases b with b|b|b
  .exact zR (zR b)
  .rcases H5.o with h|⟨QT,h,hg⟩
   .exact zR (zZ (zR (h▸b)))
   .rw [h] at b;cases b;exact zZ (bf i.o.size (by simpa using hg))
  .cases b
def H0 (bn:Option zD) (cn:Nat) (h:dE w S y vb va d) (C:∀ W,zB w W->zC prog 116 #[zJ y,v] W (jT W out 8 nm)) (s:ll w (B bn (G aJ) cn) aJ) (x:G aJ<=1000) (o:pP out) (E:ef aJ out) (Q4:aJ.count nm=1) :
  zC prog 83 #[zd #[J 8,J 0,Q [],B bn (G aJ) cn,J 0,J 0],zJ y,v] w (dk S y vb va (if d.op=true then rN d else d) w):=by
 have T:=I h;have u:=I C;have HR:=I s;have U:=I (λW vl (F:zB w W) (Z:dU W vl out)=>Ko (s.below F) x Z o E Q4);clear h C s x o Q4 E;go_in;go_wp2_with (go_at_call 116;refine mo (u.o _ (bZ _)) ?_;rintro e w1 ⟨H,rfl,E,m,r⟩);have g:Hid (zB w w1):=I ((bZ _).t (r.m (by simp)));have b:=r.block w.heap.size (by simp);obtain ⟨⟨c0,c1,c2,c3,c4,c5⟩,⟨z0,P,Y,V,N,O⟩,Q6⟩:=eC (w:=w1) (q:=w.heap.size) (v0:=J 8) (v1:=J 0) (v2:=Q []) (v3:=B bn (G aJ) cn) (v4:=J 0) (v5:=J 0) (t:=39) (b.t (by simp only [World.alloc,yi]));obtain ⟨oa,ol,oc,rfl⟩:∃ a l c,H=B a l c:=(by obtain ⟨_,a,c,e,_⟩:=E;exact ⟨a,_,c,e⟩);have R:=I E;have ho:=I m;clear E m r b z0 P Y V N O u;apply I;go_wp2_with (go_at_call 119;refine mo (U.o _ _ g.o R.o) ?_;rintro e w2 ⟨rfl,k⟩);have f:Hid (zB w w2):=I (g.o.t (k.m g.o.size));have i:=I (T.o.next f.o);obtain ⟨vf,Q5,Q0,z,QT,-,-,-⟩:=i.o.cells;clear k;cases n:d.op with
 | true=>
  rw [n] at z;have p:=I (uP i.o);apply I;go_wp2_with (go_at_call 82;refine mo p.o ?_;rintro e w3 ⟨rfl,K,D⟩;have M:=I K;have L:=I D;clear K D);apply I;go_wp2_with fail;go_ret;exact ⟨S,vb,va,rfl,M.o,(Ks.of f.o).t L.o,(λq j=>zR j),λq j=>zR j⟩
 | false=>
  rw [n] at z;apply I;go_wp2_with fail
  all_goals go_ret
  all_goals exact ⟨S,vb,va,rfl,i.o,Ks.of f.o,(λq j=>zR j),λq j=>zR j⟩
def Pn (bn:Option zD) (cn:Nat) (h:dE w S y vb va d) (x:∀ W,zB w W->zC prog 116 #[zJ y,v] W (jT W [] er [])) (n:er≠0) (j:er≠8) :
  zC prog 83 #[zd #[J er,J 0,Q [],B bn 0 cn,J 0,J 0],zJ y,v] w (dk S y vb va (if d.op=true then rN d else d) w):=by
 have N:=I h;have r:=I x;have h0:((er:Int) == 0)=false:=bo.2 λe=>n (Int.ofNat.inj e);have P:((er:Int) == 8)=false:=bo.2 λe=>j (Int.ofNat.inj e);have D:¬ (er:Int)=0:=λe=>n (Int.ofNat.inj e);have Z:¬ (er:Int)=8:=λe=>j (Int.ofNat.inj e);have T:((er:Int) == (er:Int))=true:=(by simp);clear h x;go_in;go_wp2_with (go_at_call 116;refine mo (r.o _ (bZ _)) ?_;rintro e w1 ⟨C,rfl,K,k,p⟩);have f:Hid (zB w w1):=I ((bZ _).t (p.m (by simp)));have b:=p.block w.heap.size (by simp);obtain ⟨⟨c0,c1,c2,c3,c4,c5⟩,⟨z0,L,E,M,H,R⟩,V⟩:=eC (w:=w1) (q:=w.heap.size) (v0:=J er) (v1:=J 0) (v2:=Q []) (v3:=B bn 0 cn) (v4:=J 0) (v5:=J 0) (t:=39) (b.t (by simp only [World.alloc,yi]));obtain ⟨Q0,Q4,Q5,rfl⟩:∃ a l c,C=B a l c:=(by obtain ⟨_,a,c,e,_⟩:=K;exact ⟨a,_,c,e⟩);have Y:=I K;have U:=I k;clear K k p b z0 L E M H R r;have g:=I (N.o.next f.o);obtain ⟨Q6,ho,O,s,QT,-,-,-⟩:=g.o.cells;cases m:d.op with
 | true=>
  rw [m] at s;have o:=I (uP g.o);apply I;go_wp2_with (go_at_call 82;refine mo o.o ?_;rintro e w3 ⟨rfl,u,z⟩;have G:=I u;have F:=I z;clear u z);apply I;go_wp2_with fail;go_ret;exact ⟨S,vb,va,rfl,G.o,(Ks.of f.o).t F.o,(λq i=>zR i),λq i=>zR i⟩
 | false=>
  rw [m] at s;apply I;go_wp2_with fail
  all_goals go_ret
  all_goals exact ⟨S,vb,va,rfl,g.o,Ks.of f.o,(λq i=>zR i),λq i=>zR i⟩
end
section
variable {fs O:List Fd} {H rs:List RF} {x:By} {p:Pt} {U:List (Nat × Fd)} {f:Nat × Fd} {Z:List (Nat × Fd)}
structure wV (U:List (Nat × Fd)) (f:Nat × Fd) (Z:List (Nat × Fd)):Prop where
 last:Z.getLast?=A f
 sub:∀ g,g∈Z->g∈U
 nd:Z.Nodup
 link:∀ i (h:i+1<G Z),aC Z[i+1].2.nm Z[i].2.p=true
def wV.one (a:f∈U):wV U f [f]:=⟨rfl,λg b=>by rw [iB.1 b];exact a,(by simp),λi h=>by simp at h⟩
def wV.cons {g h:Nat × Fd} (b:wV U f Z) (e:g∈U) (j:g∉Z) (d:Z.head?=A h) (l:aC h.2.nm g.2.p=true):wV U f (g::Z):=by
 refine ⟨?_,?_,jB.2 ⟨j,b.nd⟩,?_⟩
 .rw [List.getLast?_cons,b.last];rfl
 .intro k c;rcases bQ.1 c with rfl|c
  .exact e
  .exact b.sub k c
 .intro i C;cases i with
  | zero=>
   cases Z with
   | nil=>cases d
   | cons a r=>
    cases d;exact l
  | succ i=>exact b.link i (by simpa using C)
def CQ (x:(U.map Prod.fst).Nodup) (w:f∈U):∀ (gs st mv:List (Nat × Fd)) (o:List (List (Nat × Fd))) (K:List (Nat × Fd)),(K++gs).Nodup->(∀ g,g∈gs->g∈U)->(∀ c,c∈o->wV U f c/\∀ g,g∈c->g=f\/g∈K)->dB f gs st mv o=.dZ Z->wV U f Z/\∃ h,Z.head?=A h/\aC h.2.nm f.2.p=true
 | [],st,mv,o,K,_,_,_,h=>by cases h
 | g::r,st,mv,o,K,q,n,i,h=>by
  have s:=n g il;have m:(K++[g]++r).Nodup:=by rw [kI];exact q
  have L:g∉K:=λl=>by
   have:=(List.nodup_append.1 q).2.2 g l g il;exact this rfl
  simp only [dB] at h;have M:∀ c,dW g f o=A c->wV U f c/\c.head?=A g/\∀ k,k∈c->k=f\/k∈K++[g]:=by
   intro c j;unfold dW at j;split at j
   .rename_i e;have C:g=f:=Pd x s w e;cases j;exact ⟨wV.one w,by rw [C];rfl,λk d=>zR (iB.1 d)⟩
   .rename_i e;cases l:o.find? (yZ g) with
    | none=>rw [l] at j;cases j
    | some u=>
     rw [l] at j;cases j;obtain ⟨b,p⟩:=i u (vK l);have v:=wA l;cases u with
     | nil=>cases v
     | cons a t=>
      refine ⟨b.cons s (λz=>?_) rfl v,rfl,λk d=>?_⟩
      .rcases p g z with y|y
       .exact e (by rw [y])
       .exact L y
      .rcases bQ.1 d with rfl|d
       .exact zZ (cG.2 (zZ (iB.2 rfl)))
       .exact (p k d).imp id λh=>cG.2 (zR h)
  cases l:dW g f o with
  | none=>
   rw [l] at h;exact CQ x w r _ _ _ (K++[g]) m (λk d=>n k (ki _ d)) (λc j=>⟨(i c j).1,λk d=>((i c j).2 k d).imp id λh=>cG.2 (zR h)⟩) h
  | some c=>
   rw [l] at h;simp only at h;obtain ⟨D,E,F⟩:=M c l;split at h
   .rename_i z;cases h;exact ⟨D,g,E,z⟩
   .refine CQ x w r _ _ _ (K++[g]) m (λk d=>n k (ki _ d)) (λu b=>?_) h;rcases cG.1 b with b|b
    .exact ⟨(i u b).1,λk d=>((i u b).2 k d).imp id λh=>cG.2 (zR h)⟩
    .rw [iB.1 b];exact ⟨D,F⟩
where
 Pd {U:List (Nat × Fd)} (hU:(U.map Prod.fst).Nodup) {g f:Nat × Fd} (hg:g∈U) (hf:f∈U) (e:g.1=f.1):g=f:=by
  induction U with
  | nil=>cases hg
  | cons a r ih=>
   rw [fL,jB] at hU;rcases bQ.1 hg with h1|h1
   .rcases bQ.1 hf with h2|h2
    .rw [h1,h2]
    .exact absurd (bU.2 ⟨f,h2,by rw [<- e,h1]⟩) hU.1
   .rcases bQ.1 hf with h2|h2
    .exact absurd (bU.2 ⟨g,h1,by rw [e,h2]⟩) hU.1
    .exact ih hU.2 h1 h2
def sH (at_:Nat) (k:(U.map Prod.fst).Nodup) (a:at_<G U) (m:U[at_]=f) (h:dL U at_ f=.dZ Z):wV U f Z/\∃ h,Z.head?=A h/\aC h.2.nm f.2.p=true:=by
 have d:f∈U:=m▸bt a;unfold dL jW at h;split at h
 .cases h
 .rename_i l s;split at h
  .cases h
  .split at h
   .cases h
   .rename_i r p;cases h;have j:(bY U at_ f).1.Perm U:=by
     have e:U=U.take at_++f::U.drop (at_+1):=by rw [<- m,<- jL a,wa]
     have n:(U.take at_).length=at_:=by rw [sF];omega
     obtain ⟨L,M,e1,_,C,_⟩:=om (U.take at_) (U.drop (at_+1)) f;rw [n,<- e] at e1;rw [e1];have:(L++f::M).Perm (U.take at_++f::U.drop (at_+1)):=(by refine sZ.t (List.Perm.t ?_ sZ.symm);rw [C]);rw [<- e] at this;exact this
    have b:(bY U at_ f).1.Nodup:=j.nodup_iff.2 ((jz.1 k).imp λi e=>i (by rw [e]));refine CQ k d _ [] [] [] [] ?_ (λg o=>j.mem_iff.1 (lD (lS o))) (λc q=>by cases q) p;rw [ko];exact (b.sublist (List.drop_sublist _ _)).sublist (List.take_sublist _ _)
def wV.reach {L:List Fd} (l:U.map Prod.snd=L) (c:wV U f Z):∀ (i:Nat) (b:i+1<G Z),jc L f.2.nm Z[i].2.nm:=by
 have j:∀ g,g∈U->g.2∈L:=λg m=>l▸bU.2 ⟨g,m,rfl⟩;have a:∀ (h:0<G Z),Z[G Z - 1]=f:=λh=>by
  have:=c.last;rw [List.getLast?_eq_getElem?,cU (by omega)] at this;exact dp this
 intro i b;have d:∀ k i,i+1+k+1=G Z->∀ b:i+1<G Z,jc L f.2.nm Z[i].2.nm:=by
  intro k
  induction k with
  | zero=>
   intro i e b;have e1:Z[i+1]=f:=by
    have:=a (by omega);rw [<- this];congr 1;omega
   refine jc.one _ (j _ (c.sub _ (bt _))) ?_;rw [<- e1];exact c.link i b
  | succ k n=>
   intro i e b;exact jc.step _ _ (j _ (c.sub _ (bt _))) (j _ (c.sub _ (bt _))) (n (i+1) (by omega) (by omega)) (c.link i b)
 exact d (G Z - (i+2)) i (by omega) b
def wV.dZ {L:List Fd} {h:Nat × Fd} (i:U.map Prod.snd=L) (n:f∈U) (j:wV U f Z) (g:Z.head?=A h) (l:aC h.2.nm f.2.p=true):jc L f.2.nm f.2.nm:=by
 have d:f.2∈L:=i▸bU.2 ⟨f,n,rfl⟩;cases c:Z with
 | nil=>rw [c] at g;cases g
 | cons a r=>
  rw [c] at g;cases g;cases r with
  | nil=>
   have:=j.last;rw [c] at this;cases this;exact jc.one _ d l
  | cons b t=>
   have k:=j.reach i 0 (by rw [c];simp);have m:h∈U:=j.sub h (by rw [c];exact il);have e:Z[0]'(by rw [c];simp)=h:=by simp [c]
   rw [e] at k;exact jc.step _ _ d (i▸bU.2 ⟨h,m,rfl⟩) k l
variable {Z:List Fd}
def GF.pw (h:GF fs):fs.Pairwise λg k=>aC k.nm g.p=false:=by
 have:=h.vT.1;rw [<- cW fs,jz];exact this
def Hv (h:GF fs) {i k:Nat} (c:i<G fs) (d:k<G fs) (b:aC fs[k].nm fs[i].p=true):k<i:=by
 rcases Nat.lt_trichotomy k i with a|a|a
 .exact a
 .subst a;rw [h.self _ (bt c)] at b;cases b
 .have:=sW.1 h.pw i k c d a;rw [this] at b;cases b
def wU (h:GF fs):¬ ∃ f,f∈fs/\jc fs f.nm f.nm:=by
 have l:∀ (x n:By),jc fs x n->∀ (k:Nat) (c:k<G fs),fs[k].nm=x->∀ (i:Nat) (a:i<G fs),fs[i].nm=n->k<i:=by
  intro x n d k c p
  induction d with
  | one f b e=>
   intro i a m;obtain rfl:fs[i]=f:=nA h.nn _ _ (bt a) b m;exact Hv h a c (by rw [p];exact e)
  | step f g b r _ e q=>
   intro i a m;obtain rfl:fs[i]=f:=nA h.nn _ _ (bt a) b m;obtain ⟨j,o,rfl⟩:=e9 r;exact wF (q j o rfl) (Hv h a o e)
 rintro ⟨f,b,d⟩;obtain ⟨k,c,rfl⟩:=e9 b;exact iC _ (l _ _ d k c rfl k c rfl)
def CN {d a b:Vl} (c:l8 a) (e:l8 b):l8 (dH d a b):=by
 unfold dH;split
 .exact kR _ c
 .exact kR _ e
def Pb {a b c:Vl} (d:l8 a) (e:l8 b) (f:l8 c):l8 (fQ a b c):=by
 unfold fQ;split
 .exact e
 .split
  .exact f
  .exact kR _ d
def sN {C:By->Vl} (h:∀ x,l8 (C x)):∀ p:Pt,l8 (cD C p):=by
 intro p
 induction p with
 | atom k D n=>
  unfold cD;split
  .exact zR rfl
  .split
   .exact na _
   .split
    .exact na _
    .exact h D
 | un k a f=>
  unfold cD;split
  .exact f
  .split
   .exact E0 (kR _ f)
   .exact RH (kR _ f)
 | bin k a b d e=>
  unfold cD;split
  .exact CN d e
  .split
   .exact CN d e
   .exact RJ _ d e
 | ifs a b c d e g=>exact Pb d e g
def CO (c:(fs.map λg=>g.nm).Nodup) {f:Fd} (a:f∈fs):eN fs f.nm=f.v:=by
 unfold eN;cases h:fs.find? (λg=>g.nm == f.nm) with
 | none=>
  rw [rp] at h;exact absurd (by simp:(f.nm == f.nm)=true) (h f a)
 | some g=>
  have b:=vK h;have C:=wA h;rw [nA c g f b a (by simpa using C)]
def CP (h:∀ f,f∈fs->f.nm≠x):eN fs x=(3,3):=by
 unfold eN;rw [rp.2 λf a=>by simpa using h f a]
def sT (h:GF fs):∀ f,f∈fs->l8 f.v:=by
 have d:∀ (n i:Nat) (b:i<G fs),i<=n->l8 fs[i].v:=by
  intro n
  induction n using Nat.strongRecOn with
  | _ n j=>
   intro i b m;rw [h.vals _ (bt b)];have e:cD (eN fs) fs[i].p=cD (λx=>if aC x fs[i].p=true then eN fs x else (3,3)) fs[i].p:=oY _ _ _ (h.shape _ (bt b)) λx c=>(aB c).symm;rw [e];refine sN (λx=>?_) _;split
   .rename_i l;by_cases c:∃ k,∃ a:k<G fs,fs[k].nm=x
    .obtain ⟨k,a,rfl⟩:=c;rw [CO h.nn (bt a)];have:=Hv h b a l;exact j k (by omega) k a (aG _)
    .rw [CP λf g e=>by
      obtain ⟨k,a,rfl⟩:=e9 g;exact c ⟨k,a,e⟩]
     exact zZ (zZ rfl)
   .exact zZ (zZ rfl)
 intro f g;obtain ⟨i,b,rfl⟩:=e9 g;exact d i i b (aG _)
def nB (fs:List Fd) (H:List RF):List RF:=H.map λd=>{ d with kd:=(eN fs d.nm).1,n:=(eN fs d.nm).2 }
def Pc:jv (nB fs H)=jv H:=by
 unfold jv nB;rw [fM];rfl
def TU (H:List RF) (k:∀ x,(∀ d,d∈H->d.nm≠x)->eN fs x=(3,3)) (x:By):eO (nB fs H) x=eN fs x:=by
 by_cases j:∃ d,d∈H/\d.nm=x
 .have c:∀ l:List RF,(∃ d,d∈l/\d.nm=x)->eO (nB fs l) x=eN fs x:=by
   intro l
   induction l with
   | nil=>rintro ⟨d,b,_⟩;cases b
   | cons a r g=>
    rintro ⟨d,b,e⟩;show (if a.nm=x then _ else _)=_;by_cases f:a.nm=x
    .rw [aB f,<- f]
    .rw [aA f];rcases bQ.1 b with rfl|b
     .exact absurd e f
     .exact g ⟨d,b,e⟩
  exact c H j
 .have i:∀ d,d∈H->d.nm≠x:=λd b e=>j ⟨d,b,e⟩;rw [k x i];have c:∀ l:List RF,(∀ d,d∈l->d.nm≠x)->eO (nB fs l) x=(3,3):=by
   intro l
   induction l with
   | nil=>intro _;rfl
   | cons a r g=>
    intro h;show (if a.nm=x then _ else _)=_;rw [aA (h a il)];exact g λd b=>h d (ki _ b)
  exact c H i
def em (fs:List Fd) (H:List RF) (i:Nat):Nat:=match H[i]? with|some d=>fs.findIdx (λ(f:Fd)=>f.nm == d.nm)|none=>0
def Hw {i:Nat} {d:RF} (h:H[i]?=A d):em fs H i=fs.findIdx (λ(f:Fd)=>f.nm == d.nm):=by
 unfold em;rw [h]
def DR.alD (h:DR fs H) (o:GF fs) (QV:lO fs) (Q4:G fs<=1000):Af (nB fs H) (em fs H):=by
 have m:(nB fs H).length=G fs:=by
  unfold nB;rw [fy];exact h.len o.nn
 refine ⟨by rw [m];exact Q4,λi g p=>?_⟩;have q:eO (nB fs H)=eN fs:=funext (TU H λx D=>CP λf e=>D (qF f) ((h.2 _).2 ⟨f,e,rfl⟩));have t:∃ d,H[i]?=A d/\g={ d with kd:=(eN fs d.nm).1,n:=(eN fs d.nm).2 }:=by
  unfold nB at p;rw [kn] at p;cases u:H[i]? with
  | none=>rw [u] at p;cases p
  | some d=>rw [u] at p;exact ⟨d,rfl,(dp p).symm⟩
 obtain ⟨d,t,rfl⟩:=t;obtain ⟨f,e,rfl⟩:=(h.2 d).1 (oG t);obtain ⟨E,L,N⟩:=QV f e;obtain ⟨K,z,R,_⟩:=E.reads;have b:∀ k (l:k<G fs),fs.findIdx (λg=>g.nm == fs[k].nm)=k:=λk l=>by
  rw [List.findIdx_eq l];refine ⟨(by simp),λj C=>?_⟩;have:=sW.1 (jz.1 o.nn) j k (by omega) l C;simpa using this
 obtain ⟨k,l,rfl⟩:=e9 e;have s:eN fs fs[k].nm=fs[k].v:=CO o.nn e;refine ⟨fs[k].p,K,⟨z,?_,R,o.shape _ e,?_,?_,by show (ai fs[k].p).length<=1000;omega,?_,?_⟩⟩
 .have:=xI (ai fs[k].p);rw [z] at this;exact this
 .rw [q,<- o.vals _ e];show fs[k].v=((eN fs fs[k].nm).1,(eN fs fs[k].nm).2);rw [s]
 .show l8 ((eN fs fs[k].nm).1,(eN fs fs[k].nm).2);rw [s];exact sT o _ e
 .rw [Hw t,m];show fs.findIdx (λg=>g.nm == fs[k].nm)<G fs;rw [b k l];exact l
 .intro j F a w;have c:∃ d,H[j]?=A d/\F.nm=d.nm:=by
   unfold nB at a;rw [kn] at a;cases u:H[j]? with
   | none=>rw [u] at a;cases a
   | some d=>rw [u] at a;cases a;exact ⟨d,rfl,rfl⟩
  obtain ⟨S,c,P⟩:=c;obtain ⟨M,v,rfl⟩:=(h.2 S).1 (oG c);obtain ⟨y,r,rfl⟩:=e9 v;rw [Hw t,Hw c];show fs.findIdx (λg=>g.nm == fs[y].nm)<fs.findIdx (λg=>g.nm == fs[k].nm);rw [b k l,b y r];rw [P] at w;exact Hv o l r w
variable {L:List Fd} {aJ:List By}
def nP (H:List RF) (x:By) (aJ:List By):Prop:=
 ∃ (L:List Fd) (U:List (Nat × Fd)) (f:Nat × Fd) (a:List (Nat × Fd)) (h:Nat × Fd),U.map Prod.snd=L/\DR L H/\lO L/\(L.map λg=>g.nm).Nodup/\f∈U/\f.2.nm=x/\wV U f a/\a.head?=A h/\aC h.2.nm f.2.p=true/\aJ=cJ a
def nP.ci (h:nP H x aJ):AO H:=by
 obtain ⟨L,U,f,l,k,a,e,j,d,b,_,g,i,c,_⟩:=h;exact (e.dZ d j).2 ⟨f.2,a▸bU.2 ⟨f,b,rfl⟩,g.dZ a b i c⟩
def tU {i:Nat} {f:Fd} {c:Nat} (j:L[i]?=A f) (o:(L.map λg=>g.nm).Nodup) (q:lO L) (s:DR L H) (h:fq L i f=.err c aJ):c=8/\nP H f.nm aJ:=by
 unfold fq at h;have d:i<G L:=(fI.1 j).1;have a:i<(aT L).length:=by rw [eA];exact d
 have b:(aT L)[i]=(i,f):=by
  have e:L[i]=f:=(fI.1 j).2;simp [aT,e]
 split at h
 .cases h
 .rename_i p r;injection h with l n;obtain ⟨k,t,m,u⟩:=sH i (xQ L) a b r;exact ⟨l.symm,L,aT L,(i,f),p,t,cW L,s,q,o,b▸bt a,rfl,k,m,u,n.symm⟩
def mB (fs:List Fd) (n:By) (q:Pt):Prop:=∃ f,f∈fs/\f.nm=n/\f.p=q
def qN (h:(Z.map λg=>(g.nm,g.p)).Perm (fs.map λg=>(g.nm,g.p))) (n:By) (q:Pt):mB Z n q↔mB fs n q:=by
 have a:∀ l:List Fd,mB l n q↔(n,q)∈l.map λg=>(g.nm,g.p):=λl=>by
  rw [bU];constructor
  .rintro ⟨f,b,rfl,rfl⟩;exact ⟨f,b,rfl⟩
  .rintro ⟨f,b,e⟩;cases e;exact ⟨f,b,rfl,rfl⟩
 rw [a,a];exact h.mem_iff
def tV (h:∀ n q,mB Z n q->xP q/\(ai q).length<=100/\G n<=6):lO Z:=λf a=>h f.nm f.p ⟨f,a,rfl,rfl⟩
def lO.np (h:lO fs) {n:By} {q:Pt} (b:mB fs n q):xP q/\(ai q).length<=100/\G n<=6:=by
 obtain ⟨f,a,rfl,rfl⟩:=b;exact h f a
def RL {Q0 Q4:List Fd} {f:Fd} {v:Vl} (h:((Q0++f::Q4).map λg=>g.nm).Nodup) (c:f.nm=x) (n:By) (q:Pt):mB (Q0++(⟨x,p,v⟩:Fd)::Q4) n q↔((n=x/\q=p)\/(n≠x/\mB (Q0++f::Q4) n q)):=by
 have a:∀ g,g∈Q0++Q4->g.nm≠x:=λg C e=>by
  have d:((Q0++f::Q4).map λg=>g.nm).Perm (f.nm::(Q0++Q4).map λg=>g.nm):=(by rw [<- fL (f:=λg:Fd=>g.nm)];exact sZ.map _);have:=d.nodup_iff.1 h;rw [jB] at this;exact this.1 (bU.2 ⟨g,C,by rw [e,c]⟩)
 constructor
 .rintro ⟨g,C,rfl,rfl⟩;rcases cG.1 C with C|C
  .exact zZ ⟨a g (cG.2 (zR C)),g,cG.2 (zR C),rfl,rfl⟩
  .rcases bQ.1 C with rfl|C
   .exact zR ⟨rfl,rfl⟩
   .exact zZ ⟨a g (cG.2 (zZ C)),g,cG.2 (zZ (ki _ C)),rfl,rfl⟩
 .rintro (⟨rfl,rfl⟩|⟨b,g,C,rfl,rfl⟩)
  .exact ⟨_,cG.2 (zZ il),rfl,rfl⟩
  .rcases cG.1 C with C|C
   .exact ⟨g,cG.2 (zR C),rfl,rfl⟩
   .rcases bQ.1 C with rfl|C
    .exact absurd c b
    .exact ⟨g,cG.2 (zZ (ki _ C)),rfl,rfl⟩
def Kg {v:Vl} (a:∀ f,f∈fs->f.nm≠x) (n:By) (q:Pt):mB (fs++[(⟨x,p,v⟩:Fd)]) n q↔((n=x/\q=p)\/(n≠x/\mB fs n q)):=by
 constructor
 .rintro ⟨g,C,rfl,rfl⟩;rcases cG.1 C with C|C
  .exact zZ ⟨a g C,g,C,rfl,rfl⟩
  .rw [iB.1 C];exact zR ⟨rfl,rfl⟩
 .rintro (⟨rfl,rfl⟩|⟨_,g,C,rfl,rfl⟩)
  .exact ⟨_,cG.2 (zZ (iB.2 rfl)),rfl,rfl⟩
  .exact ⟨g,cG.2 (zR C),rfl,rfl⟩
def Pe (m:GF fs) (N:lO fs) (l:DR fs H) (M:xP p) (K:(ai p).length<=100) (P:G x<=6) (hs:az p) (h:mK fs x p=.ok Z aJ):GF Z/\lO Z/\DR Z (iu (gv H x) ⟨x,ai p,0,0⟩)/\¬ AO (iu (gv H x) ⟨x,ai p,0,0⟩)/\(bK H x<0->G fs≠10):=by
 obtain ⟨c,o⟩:=Ag m hs h;have D:∀ n q,mB Z n q↔((n=x/\q=p)\/(n≠x/\mB fs n q)):=by
  rcases o with ⟨E,f,F,rfl,b,a⟩|⟨j,_,a⟩
  .exact λn q=>(qN a n q).t (RL m.nn b n q)
  .exact λn q=>(qN a n q).t (Kg j n q)
 have e:DR Z (iu (gv H x) ⟨x,ai p,0,0⟩):=l.set D;have d:lO Z:=tV λn q C=>(by
   rcases (D n q).1 C with ⟨rfl,rfl⟩|⟨_,C⟩
   .exact ⟨M,K,P⟩
   .exact N.np C);refine ⟨c,d,e,λi=>wU c ((e.dZ c.nn d).1 i),λg=>?_⟩;rcases o with ⟨E,f,F,rfl,b,_⟩|⟨_,k,_⟩
 .exact absurd b ((l.find x).1 g f (cG.2 (zZ il)))
 .exact k
def Kh {c:Nat} (E:GF fs) (T:lO fs) (z:DR fs H) (S:xP p) (R:(ai p).length<=100) (V:G x<=6) (h:mK fs x p=.err c aJ):(c=7/\aJ=[]/\bK H x<0/\G fs=10)\/(c=8/\(bK H x<0->G fs≠10)/\nP (iu (gv H x) ⟨x,ai p,0,0⟩) x aJ):=by
 unfold mK at h;cases N:fs.findIdx? (λf=>f.nm == x) with
 | some i=>
  rw [N] at h;obtain ⟨f,P,d⟩:=ft N;simp only [P] at h;obtain ⟨e,W⟩:=qO P;have w:fs.set i ⟨f.nm,p,f.v⟩=fs.take i++(⟨f.nm,p,f.v⟩:Fd)::fs.drop (i+1):=by
   have C:i<G fs:=(fI.1 P).1;rw [List.set_eq_take_append_cons_drop,aB C]
  rw [w] at h;have k:((fs.take i++f::fs.drop (i+1)).map λg=>g.nm).Nodup:=e▸E.nn;have M:∀ n q,mB (fs.take i++(⟨f.nm,p,f.v⟩:Fd)::fs.drop (i+1)) n q↔((n=x/\q=p)\/(n≠x/\mB fs n q)):=λn q=>by
   have:=RL (p:=p) (v:=f.v) k d n q;rw [<- e] at this;rw [d];exact this
  have j:=z.set M;have l:((fs.take i++(⟨f.nm,p,f.v⟩:Fd)::fs.drop (i+1)).map λg=>g.nm).Nodup:=by
   rw [fK,fL] at k ⊢;exact k
  have r:lO (fs.take i++(⟨f.nm,p,f.v⟩:Fd)::fs.drop (i+1)):=tV λn q K=>(by
    rcases (M n q).1 K with ⟨rfl,rfl⟩|⟨_,K⟩
    .exact ⟨S,R,V⟩
    .exact T.np K);have t:(fs.take i++(⟨f.nm,p,f.v⟩:Fd)::fs.drop (i+1))[i]?=A ⟨f.nm,p,f.v⟩:=by
   rw [qx (by omega),W,nK];rfl
  obtain ⟨u,s⟩:=tU t l r j h;refine zZ ⟨u,λy=>absurd d ((z.find x).1 y f (oG P)),?_⟩;rw [<- d] at s ⊢;exact s
 | none=>
  rw [N] at h;have m:∀ f,f∈fs->f.nm≠x:=λf F=>by
   have:=Br.1 N f F;simpa using this
  simp only at h;split at h
  .rename_i o;injection h with u s;exact zR ⟨u.symm,s.symm,(z.find x).2 m,o⟩
  .rename_i o;have M:=Kg (p:=p) (v:=(0,0)) m;have j:=z.set M;have l:((fs++[(⟨x,p,(0,0)⟩:Fd)]).map λg=>g.nm).Nodup:=by
    rw [fK,List.nodup_append];refine ⟨E.nn,(by simp),λa L b D e=>?_⟩;obtain ⟨g,Y,rfl⟩:=bU.1 L;simp at D;exact m g Y (e.t D)
   have r:lO (fs++[(⟨x,p,(0,0)⟩:Fd)]):=tV λn q K=>(by
     rcases (M n q).1 K with ⟨rfl,rfl⟩|⟨_,K⟩
     .exact ⟨S,R,V⟩
     .exact T.np K);obtain ⟨u,s⟩:=tU (by simp) l r j h;exact zZ ⟨u,λ_=>o,s⟩
def Pf (s:GF fs) (u:lO fs) (r:DR fs H) (h:mL fs x=.ok Z aJ):GF Z/\lO Z/\DR Z (gv H x)/\¬ AO (gv H x)/\¬ bK H x<0:=by
 obtain ⟨b,D,f,E,rfl,a,c⟩:=Ah s h;have i:∀ n q,mB Z n q↔mB (D++E) n q:=qN (c▸List.Perm.refl _);have l:∀ n q,mB Z n q↔(n≠x/\mB (D++f::E) n q):=λn q=>by
  rw [i];have p:∀ g,g∈D++E->g.nm≠x:=λg C e=>by
   have t:((D++f::E).map λg=>g.nm).Perm (f.nm::(D++E).map λg=>g.nm):=(by rw [<- fL (f:=λg:Fd=>g.nm)];exact sZ.map _);have:=t.nodup_iff.1 s.nn;rw [jB] at this;exact this.1 (bU.2 ⟨g,C,by rw [e,a]⟩)
  constructor
  .rintro ⟨g,C,rfl,rfl⟩;refine ⟨p g C,g,?_,rfl,rfl⟩;rcases cG.1 C with C|C
   .exact cG.2 (zR C)
   .exact cG.2 (zZ (ki _ C))
  .rintro ⟨m,g,C,rfl,rfl⟩;rcases cG.1 C with C|C
   .exact ⟨g,cG.2 (zR C),rfl,rfl⟩
   .rcases bQ.1 C with rfl|C
    .exact absurd a m
    .exact ⟨g,cG.2 (zZ C),rfl,rfl⟩
 have d:DR Z (gv H x):=r.del l;have k:lO Z:=tV λn q v=>u.np ((l n q).1 v).2;exact ⟨b,k,d,λo=>wU b ((d.dZ b.nn k).1 o),λj=>(r.find x).1 j f (cG.2 (zZ il)) a⟩
def Ki {c:Nat} (e:DR fs H) (h:mL fs x=.err c aJ):c=5/\aJ=[]/\bK H x<0:=by
 unfold mL at h;split at h
 .rename_i b;injection h with d a;refine ⟨d.symm,a.symm,(e.find x).2 λf g=>?_⟩;have:=Br.1 b f g;simpa using this
 .cases h
variable {z:By}
def tW (L:List Fd):Prop:=L.Pairwise (λg h=>aC h.nm g.p=false)/\∀ g,g∈L->aC g.nm g.p=false
def jc.wide {a:Fd} {n:By} (h:jc L x n):jc (a::L) x n:=by
 induction h with
 | one f b c=>exact .one f (ki _ b) c
 | step f g b d _ c e=>exact .step f g (ki _ b) (ki _ d) e c
def jc.t {n m:By} (h:jc L m n) (a:∃ g,g∈L/\g.nm=m) (g:jc L x m):jc L x n:=by
 obtain ⟨k,e,rfl⟩:=a
 induction h with
 | one f b a=>exact .step f k b e g a
 | step f d b c _ a i=>exact .step f d b c i a
def jc.mem {n:By} (h:jc L x n):∃ g,g∈L/\g.nm=n:=by
 cases h with
 | one f a _=>exact ⟨f,a,rfl⟩
 | step f _ a _ _ _=>exact ⟨f,a,rfl⟩
def CR {a:Fd} (j:((a::L).map λg=>g.nm).Nodup) (i:tW (a::L)) (h:jc (a::L) x a.nm):aC x a.p=true:=by
 generalize e:a.nm=n at h;cases h with
 | one f d b=>
  have:=nA j a f il d e;rw [this];exact b
 | step f g d c _ b=>
  have:=nA j a f il d e;subst this;exfalso;rcases bQ.1 c with rfl|c
  .rw [i.2 g il] at b;cases b
  .have:=(td.1 i.1).1 g c;rw [this] at b;cases b
def E2 {a:Fd} {n:By} (j:((a::L).map λg=>g.nm).Nodup) (p:tW (a::L)) (h:jc (a::L) x n):n=a.nm\/jc L x n\/(jc L a.nm n/\aC x a.p=true):=by
 induction h with
 | one f k d=>
  rcases bQ.1 k with e|b
  .exact zR (by rw [e])
  .exact zZ (zR (.one f b d))
 | step f g k q o d m=>
  rcases bQ.1 k with e|b
  .exact zR (by rw [e])
  .rcases bQ.1 q with e|c
   .subst e;exact zZ (zZ ⟨.one f b d,CR j p o⟩)
   .rcases m with e|i|⟨i,l⟩
    .exfalso;rw [fL,jB] at j;exact j.1 (bU.2 ⟨g,c,e⟩)
    .exact zZ (zR (.step f g b c i d))
    .exact zZ (zZ ⟨.step f g b c i d,l⟩)
def uT:∀ (gs:List (Nat × Fd)) (on:List By),((gs.map Prod.snd).map λg=>g.nm).Nodup->tW (gs.map Prod.snd)->∀ n,n∈cJ (aO on gs)↔∃ x,x∈on/\jc (gs.map Prod.snd) x n
 | [],on,_,_,n=>by
  constructor
  .intro h;cases h
  .rintro ⟨x,_,h⟩;obtain ⟨g,u,_⟩:=h.mem;cases u
 | g::r,on,m,o,n=>by
  have f:=m;have d:=o;rw [fL] at m o;rw [fL,jB] at m;have j:tW (r.map Prod.snd):=⟨(td.1 o.1).2,λk v=>o.2 k (ki _ v)⟩;have b:∀ on,aF on g.2.p=true↔∃ x,x∈on/\aC x g.2.p=true:=λon=>by
   unfold aF;rw [rD]
  unfold aO;by_cases i:aF on g.2.p=true
  .rw [aB i];show n∈g.2.nm::cJ (aO (on++[g.2.nm]) r)↔_;rw [bQ,uT r _ m.2 j n];constructor
   .rintro (rfl|⟨x,a,c⟩)
    .obtain ⟨x,a,p⟩:=(b on).1 i;exact ⟨x,a,.one g.2 il p⟩
    .rcases cG.1 a with a|a
     .exact ⟨x,a,c.wide⟩
     .rw [iB.1 a] at c;obtain ⟨s,q,p⟩:=(b on).1 i;exact ⟨s,q,jc.t c.wide ⟨g.2,il,rfl⟩ (.one g.2 il p)⟩
   .rintro ⟨x,a,c⟩;rcases E2 f d c with e|l|⟨l,_⟩
    .exact zR e
    .exact zZ ⟨x,cG.2 (zR a),l⟩
    .exact zZ ⟨g.2.nm,cG.2 (zZ (iB.2 rfl)),l⟩
  .rw [aA i,uT r _ m.2 j n];constructor
   .rintro ⟨x,a,c⟩;exact ⟨x,a,c.wide⟩
   .rintro ⟨x,a,c⟩;rcases E2 f d c with e|l|⟨_,t⟩
    .exfalso;subst e;exact i ((b on).2 ⟨x,a,CR f d c⟩)
    .exact ⟨x,a,l⟩
    .exact absurd ((b on).2 ⟨x,a,t⟩) i
def uU:∀ (gs:List (Nat × Fd)) (on:List By),(aO on gs).Sublist gs
 | [],on=>yr _
 | g::r,on=>by
  unfold aO;split
  .exact (uU r _).cons_cons _
  .exact (uU r _).cons _
def CS:∀ (Q0 Q4:List (Nat × Fd)) (on:List By),(∀ g,g∈Q0->aF on g.2.p=false)->aO on (Q0++Q4)=aO on Q4
 | [],Q4,on,_=>rfl
 | a::Q0,Q4,on,h=>by
  rw [show aO on (a::Q0++Q4)=if aF on a.2.p=true then a::aO (on++[a.2.nm]) (Q0++Q4) else aO on (Q0++Q4) from rfl,aA (by rw [h a il];simp)];exact CS Q0 Q4 on λg b=>h g (ki _ b)
def AP (fs:List Fd) (x:By) (aJ:List By):Prop:=aJ.Sublist (fs.map λg=>g.nm)/\∀ n,n∈aJ↔((n=x/\∃ f,f∈fs/\f.nm=x)\/jc fs x n)
variable {U:List Fd}
abbrev vD (fs:List Fd):List (By × Pt):=fs.map λg=>(g.nm,g.p)
def sU (gs:List (Nat × Fd)) (b:Nat) (v:Vl):vD ((qH gs b v).map Prod.snd)=vD (gs.map Prod.snd):=by
 unfold vD qH;rw [fM,fM,fM];refine sB λg _=>?_;simp only [Function.comp];split<;>rfl
def CT:∀ (C:List Nat) (gs:List (Nat × Fd)),vD ((iR gs C).map Prod.snd)=vD (gs.map Prod.snd)
 | [],gs=>rfl
 | b::r,gs=>by
  unfold iR;rw [CT r,sU]
def Hy (h:vD L=vD U) (n:By) (q:Pt):mB L n q↔mB U n q:=qN (List.Perm.of_eq h) n q
def Hz (h:vD L=vD U):(L.map λg=>g.nm)=U.map λg=>g.nm:=by
 have:=eL (List.map Prod.fst) h;rw [fM,fM] at this;exact this
def E3 (h:vD L=vD U) (b:tW L):tW U:=by
 constructor
 .have a:(vD L).Pairwise (λg k=>aC k.1 g.2=false):=jz.2 b.1;rw [h] at a;exact jz.1 a
 .intro g d;obtain ⟨k,e,e1,c⟩:=(Hy h g.nm g.p).2 ⟨g,d,rfl,rfl⟩;rw [<- e1,<- c];exact b.2 k e
def jc.np (h:∀ n q,mB L n q->mB U n q) {n:By} (j:jc L x n):jc U x n:=by
 induction j with
 | one f e a=>
  obtain ⟨g,d,e1,b⟩:=h f.nm f.p ⟨f,e,rfl,rfl⟩;rw [<- e1];exact .one g d (by rw [b];exact a)
 | step f k e l _ a i=>
  obtain ⟨g,d,e1,b⟩:=h f.nm f.p ⟨f,e,rfl,rfl⟩;obtain ⟨o,c,m,p⟩:=h k.nm k.p ⟨k,l,rfl,rfl⟩;rw [<- e1];rw [<- m] at i a;exact .step g o d c i (by rw [b];exact a)
def GF.HY (h:GF fs):tW fs:=⟨h.pw,h.self⟩
def Km {gs:List (Nat × Fd)} {f:Nat × Fd} (i:((gs.map Prod.snd).map λg=>g.nm).Nodup) (c:tW (gs.map Prod.snd)) (h:f∈gs):AP (gs.map Prod.snd) f.2.nm (cJ (f::aO [f.2.nm] gs)):=by
 refine ⟨?_,λn=>?_⟩
 .obtain ⟨D,C,rfl⟩:=List.append_of_mem h;have j:∀ g,g∈D++[f]->aF [f.2.nm] g.2.p=false:=λg a=>by
   unfold aF;simp only [List.any_cons,List.any_nil,Bool.or_false];rcases cG.1 a with a|a
   .have d:=c.1;rw [fK,Bw] at d;exact d.2.2 g.2 (bU.2 ⟨g,a,rfl⟩) f.2 (by simp)
   .rw [iB.1 a];exact c.2 f.2 (by simp)
  have e:aO [f.2.nm] (D++f::C)=aO [f.2.nm] C:=by
   have:=CS (D++[f]) C [f.2.nm] j;rw [kI] at this;exact this
  rw [e];have E:(f::aO [f.2.nm] C).Sublist (D++f::C):=((uU C _).cons_cons f).trans (List.sublist_append_right D _);have:=(E.map Prod.snd).map λg=>g.nm;rw [show cJ (f::aO [f.2.nm] C)=((f::aO [f.2.nm] C).map Prod.snd).map λg=>g.nm by unfold cJ;rw [fM];rfl];exact this
 .show n∈f.2.nm::cJ (aO [f.2.nm] gs)↔_;rw [bQ,uT gs _ i c n];constructor
  .rintro (rfl|⟨x,k,b⟩)
   .exact zR ⟨rfl,f.2,bU.2 ⟨f,h,rfl⟩,rfl⟩
   .rw [iB.1 k] at b;exact zZ b
  .rintro (⟨rfl,_⟩|b)
   .exact zR rfl
   .exact zZ ⟨_,iB.2 rfl,b⟩
def AP.np (h:vD L=vD U) (b:AP L x aJ):AP U x aJ:=by
 refine ⟨Hz h▸b.1,λn=>(b.2 n).t ?_⟩;have a:∀ {L U:List Fd},vD L=vD U->(n=x/\∃ f,f∈L/\f.nm=x)\/jc L x n->(n=x/\∃ f,f∈U/\f.nm=x)\/jc U x n:=by
  intro L U h i;rcases i with ⟨e,f,j,k⟩|c
  .obtain ⟨g,d,e1,_⟩:=(Hy h f.nm f.p).1 ⟨f,j,rfl,rfl⟩;exact zR ⟨e,g,d,by rw [e1,k]⟩
  .exact zZ (c.np λn q=>(Hy h n q).1)
 exact ⟨a h,a h.symm⟩
def rP {i:Nat} {f:Fd} (l:L[i]?=A f) (h:fq L i f=.ok Z aJ) (k:GF Z):AP Z f.nm aJ:=by
 unfold fq at h;split at h
 .rename_i C q;injection h with m n;subst m;subst n;have a:=CT ((((i,f)::aO [f.nm] C).map λx=>x.1)) C;have e:(i,f)∈C:=by
   obtain ⟨j,c⟩:=uL (show (aT L)[i]?=A (i,f) by
    have d:i<G L:=(fI.1 l).1;rw [qE _ _ d,(fI.1 l).2])
   have b:=q;rw [j] at b;have o:=wS _ _ C (i,f) (by rw [c];exact b);exact o.mem_iff.2 (cG.2 (zZ il))
  have p:((C.map Prod.snd).map λg=>g.nm).Nodup:=Hz a▸k.nn;exact (Km p (E3 a k.HY) e).np a.symm
 .cases h
def TV (a:GF Z) (h:mK fs x p=.ok Z aJ):AP Z x aJ:=by
 unfold mK at h;cases c:fs.findIdx? (λf=>f.nm == x) with
 | some i=>
  rw [c] at h;obtain ⟨f,e,b⟩:=ft c;simp only [e] at h;have d:i<G fs:=(fI.1 e).1;have:=rP (by rw [List.getElem?_set_self d]) h a;rw [<- b];exact this
 | none=>
  rw [c] at h;simp only at h;split at h
  .cases h
  .exact rP (by simp) h a
def TW (b:GF Z) (h:kr fs x z=.ok Z aJ):AP Z z aJ:=by
 unfold kr at h;cases a:fs.findIdx? (λf=>f.nm == x) with
 | none=>rw [a] at h;cases h
 | some i=>
  rw [a] at h;obtain ⟨f,C,c⟩:=ft a;simp only at h;split at h
  .cases h
  .split at h
   .cases h
   .rw [C] at h;simp only at h;have:=rP (by rw [kn,C];rfl) h b;rw [show (dN x z f).nm=z from aB c] at this;exact this
def TX (w:GF fs) (c:GF Z) (h:mL fs x=.ok Z aJ):AP Z x aJ:=by
 unfold mL at h;split at h
 .cases h
 .rename_i i z;injection h with q r;obtain ⟨f,m,j⟩:=ft z;subst q;subst r;have b:=CT ((aO [x] (aT (fs.eraseIdx i))).map λx=>x.1) (aT (fs.eraseIdx i));have t:(((aT (fs.eraseIdx i)).map Prod.snd).map λg=>g.nm).Nodup:=Hz b▸c.nn;have v:=E3 b c.HY;refine AP.np b.symm ⟨?_,λn=>?_⟩
  .have:=((uU (aT (fs.eraseIdx i)) [x]).map Prod.snd).map λg=>g.nm;rw [show cJ (aO [x] (aT (fs.eraseIdx i)))=((aO [x] (aT (fs.eraseIdx i))).map Prod.snd).map λg=>g.nm by unfold cJ;rw [fM];rfl];exact this
  .rw [uT _ _ t v n];constructor
   .rintro ⟨y,p,d⟩;rw [iB.1 p] at d;exact zZ d
   .rintro (⟨_,g,l,o⟩|d)
    .exfalso;rw [cW] at l;obtain ⟨e,C⟩:=qO m;have u:i<G fs:=(fI.1 m).1;have k:g∈fs.take i++fs.drop (i+1):=by rw [<- EB];exact l
     have s:(fs.map λg=>g.nm).Perm (f.nm::(fs.take i++fs.drop (i+1)).map λg=>g.nm):=by
      have:=(sZ (a:=f) (l₁:=fs.take i) (l₂:=fs.drop (i+1))).map λg:Fd=>g.nm;rw [<- e] at this;exact this
     have:=s.nodup_iff.1 w.nn;rw [jB] at this;exact this.1 (bU.2 ⟨g,k,by rw [o,j]⟩)
    .exact ⟨x,iB.2 rfl,d⟩
end
section
attribute [local go_sem] ap aq
variable {w w' W w1:zW} {v Z:zV} {aJ:List By} {H fin:List RF} {y er:Nat} {K:List (By × Nat)}
def Pq {Q4 b:Nat} {v':zV} (e:w.ownsRow Q4 131 4 v' (G fin) (dw fin)) (f:G fin<=1000) (d:b<G fin):∃ g o c,v'=B (A (X g o)) (G fin) c/\w.cell? (X g (o+b*4+2))=A (J fin[b].kd)/\w.cell? (X g (o+b*4+3))=A (J fin[b].n):=by
 obtain ⟨_,a,c,rfl,h⟩:=dU.nj e f;rcases h with h|⟨g,o,rfl,j,i⟩
 .rw [h] at d;exact absurd d (pH _)
 .obtain ⟨_,_,c2,c3⟩:=i b fin[b] (cU d);exact ⟨g,o,c,rfl,c2,c3⟩
def Ku (bn:Option zD) (cn:Nat) (M:w.cell? (yh y)=A Z) (R:dU w Z H) (O:ea w v K) (P:aw K 0=[118,97,108,117,101]) (o:1<G K) (D:G K<=1000) {b:Nat} (s:b<G H) (N:bK H (aw K 1)=(b:Int)) (t:G H<=1000) {x:Nat->Nat} (d:Af fin x) (F:jv H=jv fin) (i:G fin=G H) (C:b<G fin) :
  zC prog 84 #[zd #[J 0,J 0,Q [],B bn 0 cn,J fin[b].kd,J fin[b].n],zJ y,v] w λr w'=>r=zP (zF true)/\zB w w':=by
 obtain ⟨rk,g,u,rfl,z⟩:=tY (fp 0 0 [] bn 0 cn fin[b].kd fin[b].n) O (yt o);have T:=z 0 (yt o);have L:=z 1 o;rw [P] at T;simp only [jC,k7,mQ] at T L;have k:=(aM w.heap.size w).alloc (aG _) (fp 0 0 [] bn 0 cn fin[b].kd fin[b].n);have Y:=eE (fp 0 0 [] bn 0 cn fin[b].kd fin[b].n) M;have QV:(1:Int)<(G K:Int):=iD.2 o;have hd:(0:Int)<(G K:Int):=Int.lt_trans (by decide) QV;have oo:(G K:Int)<=1000:=a6.2 D;have E:=I (λW (q:Below (w.alloc (fp 0 0 [] bn 0 cn fin[b].kd fin[b].n)).heap.size (w.alloc (fp 0 0 [] bn 0 cn fin[b].kd fin[b].n)) W)=>aD H (aw K 1) ((R.next k).next q));obtain ⟨n,S,rfl⟩:∃ a c,Z=B a (G H) c:=(by obtain ⟨_,a,c,e,_⟩:=R;exact ⟨a,c,e⟩);rw [N] at E;have Q6:¬ ((b:Int)<0):=Int.not_lt.2 (mF _);have Q0:(b:Int)<(G H:Int):=iD.2 s;have aa:(G H:Int)<=1000:=a6.2 t;have ha:(fin[b].kd == fin[b].kd)=true:=(by simp);have ac:(fin[b].n == fin[b].n)=true:=(by simp);have QT:Hid (∀ W,Below (w.alloc (fp 0 0 [] bn 0 cn fin[b].kd fin[b].n)).heap.size (w.alloc (fp 0 0 [] bn 0 cn fin[b].kd fin[b].n)) W->zB w W):=I λW h=>o5 h;have p:=I (λw1=>oZ (w:=w) (w1:=w1) (er:=0) (at_:=0) (tx:=[]) (bn:=bn) (ln:=0) (cn:=cn) (kd:=fin[b].kd) (nn:=fin[b].n));have l:=I (λW (q:Below (w.alloc (fp 0 0 [] bn 0 cn fin[b].kd fin[b].n)).heap.size (w.alloc (fp 0 0 [] bn 0 cn fin[b].kd fin[b].n)) W)=>Pr d F ((R.next k).next q));clear z R O M k;have m:=I (λ(W:zW) Q4 V (h:W.ownsRow Q4 131 4 V (G fin) (dw fin))=>Pq h d.1 C);rw [i] at m;rw [i] at l;clear N d F i;generalize fin[b].kd=kd at *;generalize fin[b].n=nn at *;generalize aw K 1=tx at *;generalize (G K)=ad at *;clear o D P;unfold fp at *;go_in;go_wp2_with fail
 go_region_held3 (λw'=>w'.cell? (yh y)=A (B n (G H) S)/\w'.cell? (X g (u+2))=A (Q tx)) (first|(with_reducible exact ⟨Y,L⟩)|go_keep) (first|(go_at_call 122;(with_reducible refine (E.o _ (aM _ _).drew).m ?_);rintro e w1 ⟨rfl,rfl⟩))
 go_wp2_with fail;refine (l.o _ (aM _ _).drew).m ?_;rintro e w1 ⟨V,rfl,f,j⟩;obtain ⟨xg,xo,xc,rfl,x2,x3⟩:=m.o _ _ _ f;obtain ⟨c0,c1,c2,c3,c4,c5⟩:=p.o _ ((aM _ _).drew.t j);have U:=I (QT.o _ ((aM _ _).drew.t j));have hf:w.heap.size<w1.heap.size:=gI w1 _ c0;have v':¬ w.heap.size=w1.heap.size:=cZ hf;have Q5:¬ w1.heap.size=w.heap.size:=λe=>v' e.symm;clear f j;go_wp2_with fail;go_ret;exact ⟨(by simp),U.o.alloc U.o.size _⟩
end
section
variable {fs Z L:List Fd} {H:List RF} {x:By} {aJ:List By}
def H9 {C:Type} {l:List C} (h:l.Nodup) {i j:Nat} {d:i<G l} {b:j<G l} (e:l[i]=l[j]):i=j:=by
 have c:=sW.1 h;rcases Nat.lt_trichotomy i j with a|a|a
 .exact absurd e (c i j d b a)
 .exact a
 .exact absurd e.symm (c j i b d a)
def DR.nmN (h:DR fs H) (c:(fs.map λg=>g.nm).Nodup):(H.map RF.nm).Nodup:=by
 rw [List.Nodup,jz];refine List.Pairwise.imp (λ{a b} hab e=>?_) h.1;rw [e] at hab;exact List.lt_irrefl _ hab
def DR.at (h:DR fs H) (l:(fs.map λg=>g.nm).Nodup) {f:Fd} (k:f∈fs):∃ (a:Nat) (C:a<G H),bK H f.nm=(a:Int)/\H[a]=qF f:=by
 obtain ⟨a,C,c⟩:=e9 ((h.2 _).2 ⟨f,k,rfl⟩);refine ⟨a,C,E6 C (λi m g d e=>?_) (by rw [c];rfl),c⟩;have b:i<G H:=wF m C;rw [cU b] at d;have j:(H.map RF.nm)[i]'(by simpa using b)=(H.map RF.nm)[a]'(by simpa using C):=by
  rw [kJ,kJ,dp d,e,c];rfl
 have:=H9 (h.nmN l) j;omega
def DR.of (h:DR fs H) {i:Nat} (b:i<G H):∃ f,f∈fs/\H[i]=qF f:=by
 obtain ⟨f,a,e⟩:=(h.2 H[i]).1 (bt b);exact ⟨f,a,e⟩
def rR {l:List By} (h:l.Nodup) {x:By} (a:x∈l):l.count x=1:=by
 rw [List.Nodup.count h,aB a]
def E7 (j:GF fs) (p:lO fs) (s:DR fs H) (hs:aJ.Sublist (fs.map λg=>g.nm)):RN aJ H:=by
 have o:=j.nn;obtain ⟨M,f,rfl⟩:=List.sublist_map_iff.1 hs;have d:M.Pairwise (λg h=>aC h.nm g.p=false):=j.HY.1.sublist f;have c:∀ g,g∈M->aC g.nm g.p=false:=λg t=>j.HY.2 g (f.subset t);have e:(M.map λg=>g.nm).Nodup:=o.sublist hs;intro i C;have b:i<G M:=(by simpa using C);have l:M[i]∈fs:=f.subset (bt b);obtain ⟨a,v,q,r⟩:=s.at o l;refine ⟨rR e (bt C),?_,a,v,by rw [kJ];exact q,λk u m=>?_⟩
 .rw [kJ];have:=(p _ l).2.2;omega
 .have n:k<G M:=by simpa using u
  rw [r,kJ];show gC (ai M[i].p) M[k].nm=false;rw [oz (p _ l).1];rcases Nat.lt_or_eq_of_le m with h|h
  .exact sW.1 d i k b n h
  .subst h;exact c _ (bt b)
def AP.hng (v:GF fs) (u:lO fs) (l:DR fs H) (h:AP fs x aJ):abC aJ H x:=by
 have p:=v.nn;have g:aJ.Nodup:=p.sublist h.1;have c:∀ (i:Nat) (d:i<G H),H[i].nm∈aJ↔rO H x i\/H[i].nm=x:=λi d=>by
  obtain ⟨f,q,e⟩:=l.of d;rw [h.2,l.hang p u x (cU d)];constructor
  .rintro (⟨C,_⟩|C)
   .exact zZ C
   .exact zR C
  .rintro (C|C)
   .exact zZ C
   .refine zR ⟨C,f,q,?_⟩;rw [<- C,e];rfl
 refine ⟨E7 v u l h.1,λi d y=>rR g ((c i d).2 y),λz F o=>?_⟩;have e:((List.range (G H)).filter λi=>z[i]? == A true||H[i]?.map RF.nm == A x).map (λi=>(H[i]?.map RF.nm).getD []) |>.Perm aJ:=by
  refine (List.perm_ext_iff_of_nodup ?_ g).2 λn=>?_
  .rw [List.Nodup,jz];refine List.Pairwise.imp_of_mem (λ{a b} E o hab e=>?_) ((List.nodup_range).filter _);have m:a<G H:=by simpa using (yx.1 E).1
   have j:b<G H:=by simpa using (yx.1 o).1
   rw [cU m,cU j] at e;have C:(H.map RF.nm)[a]'(by simpa using m)=(H.map RF.nm)[b]'(by simpa using j):=by
    rw [kJ,kJ];exact e
   exact hab (H9 (l.nmN p) C)
  .rw [bU];constructor
   .rintro ⟨i,d,rfl⟩;obtain ⟨C,t⟩:=yx.1 d;have k:i<G H:=(by simpa using C);rw [cU k] at t ⊢;refine (c i k).2 ?_;rcases Bool.or_eq_true_iff.1 t with D|D
    .exact zR ((o i).1 (by simpa using D))
    .exact zZ (by simpa using D)
   .intro s;obtain ⟨f,q,e⟩:=bU.1 (h.1.subset s);obtain ⟨a,E,_,w⟩:=l.at p q;have r:H[a].nm=n:=by rw [w,<- e];rfl
    refine ⟨a,yx.2 ⟨by simpa using E,?_⟩,by rw [cU E];exact r⟩;rw [cU E];rcases (c a E).1 (r▸s) with D|D
    .rw [(o a).2 D];rfl
    .simp [D]
 have:=e.length_eq;rw [fy] at this;exact this
def nP.cir (h:nP H x aJ):ef aJ H/\aJ.count x=1:=by
 obtain ⟨L,U,f,c,P,S,F,C,v,Y,V,o,z,M,rfl⟩:=h;have p:∀ g,g∈c->g.2∈L:=λg N=>S▸bU.2 ⟨g,o.sub g N,rfl⟩;have w:(U.map λg=>g.2.nm).Nodup:=by
  rw [<- S,fM] at v;exact v
 have q:(cJ c).Nodup:=by
  show (c.map λg=>g.2.nm).Nodup;rw [List.Nodup,jz];refine List.Pairwise.imp_of_mem (λ{a b} y hb hab e=>hab ?_) o.nd;obtain ⟨i,K,s⟩:=e9 (o.sub a y);obtain ⟨j,W,R⟩:=e9 (o.sub b hb);have E:(U.map λg=>g.2.nm)[i]'(by simpa using K)=(U.map λg=>g.2.nm)[j]'(by simpa using W):=by
   rw [kJ,kJ,s,R];exact e
  have:=H9 w E;subst this;rw [<- s,<- R]
 have k:(cJ c).length=G c:=(by simp [cJ]);have l:∀ (i:Nat) (K:i<G c),(cJ c)[i]'(by rw [k];exact K)=c[i].2.nm:=λi K=>(by simp [cJ]);have u:c.getLast?=A f:=o.last;refine ⟨λi K=>?_,?_⟩
 .have m:i<G c:=by rw [<- k];exact K
  have n:=p _ (bt m);obtain ⟨a,y,e1,T⟩:=F.at v n;refine ⟨rR q (bt K),?_,a,y,by rw [l i m];exact e1,?_⟩
  .rw [l i m];have:=(C _ n).2.2;omega
  .rw [T];show gC (ai c[i].2.p) _=true;rw [oz (C _ n).1];by_cases d:i+1<G c
   .have t:(i+1) % (cJ c).length=i+1:=Nat.mod_eq_of_lt (by rw [k];exact d);have:(cJ c)[(i+1) % (cJ c).length]'(Nat.mod_lt _ (th (bE _) K))=c[i+1].2.nm:=by
     simp only [t];exact l _ d
    rw [this];exact o.link i d
   .have s:i+1=G c:=(by omega);have t:(i+1) % (cJ c).length=0:=by rw [k,s,Nat.mod_self]
    have:(cJ c)[(i+1) % (cJ c).length]'(Nat.mod_lt _ (th (bE _) K))=c[0].2.nm:=by
     simp only [t];exact l _ (by omega)
    rw [this];have O:c[0]=P:=by
     cases c with
     | nil=>cases z
     | cons a r=>cases z;rfl
    have D:c[i]=f:=by
     rw [List.getLast?_eq_getElem?,cU (by omega)] at u;rw [<- dp u];congr 1;omega
    rw [O,D];exact M
 .refine rR q ?_;rw [<- V];have:f∈c:=List.mem_of_getLast? u;exact bU.2 ⟨f,this,rfl⟩
variable {K:List (By × Nat)} {p:Pt}
def Yv (q:UInt8->Bool) (r:By):r.take (r.takeWhile q).length=r.takeWhile q:=(List.prefix_iff_eq_take.1 (List.takeWhile_prefix q)).symm
def sV (c:UInt8) (r:By) (h:c≠32) (f:di ((c::r).take (rowLen (c::r)))=true):TI ((c::r).take (rowLen (c::r))):=by
 have i:=nD c r;have a:rowLen (c::r)=if fF c=true then 1+(r.takeWhile iO).length else if cT c=true then 1+(r.takeWhile cT).length else 1:=rfl
 obtain ⟨k,d⟩:∃ k,rowLen (c::r)=k+1:=⟨rowLen (c::r) - 1,by omega⟩;refine ⟨c,r.take k,by rw [d];rfl,h,f,λb y C=>?_,λb g y C=>?_,λb g=>?_⟩
 .have e:k=(r.takeWhile iO).length:=by
   rw [a,aB b] at d;omega
  rw [e,Yv] at C;exact List.all_eq_true.1 List.all_takeWhile y C
 .have e:k=(r.takeWhile cT).length:=by
   rw [a,aA (by rw [b];simp),aB g] at d;omega
  rw [e,Yv] at C;exact List.all_eq_true.1 List.all_takeWhile y C
 .have e:k=0:=by
   rw [a,aA (by rw [b];simp),aA (by rw [g];simp)] at d;omega
  rw [e];rfl
def XN (f:Nat) (l:By) (k:Nat) (t:By) (q:Nat) (h:(t,q)∈(bW f l k).1):TI t:=by
 induction f generalizing l k with
 | zero=>simp [bW] at h
 | succ f b=>
  match l with
  | []=>simp [bW] at h
  | c::r=>
   unfold bW at h;split at h
   .exact b _ _ h
   .rename_i d;split at h
    .rename_i a;simp only [bQ,mI] at h;rcases h with ⟨rfl,rfl⟩|h
     .exact sV c r d a
     .exact b _ _ h
    .simp at h
def Pj (K:List (By × Nat)) (n k:Nat):aw (K.drop n) k=aw K (n+k):=by
 unfold aw;rw [qz]
def tb {s:By} (D:aI s=(K,none)) (n:Nat) (h:bh (K.drop n) 1 0 (K.drop n).length p):xP p:=by
 have c:∀ i,i<G K->TI (aw K i):=λi C=>(by rw [eY K i C];have e:(bW (G s) s 0).1=K:=(by rw [show bW (G s) s 0=(K,none) from D]);exact XN (G s) s 0 K[i].1 K[i].2 (by rw [e];exact bt C));have a:fV K:=(by have:=xI s;rw [D] at this;exact this);have f:∀ k,k<(K.drop n).length->TI (aw (K.drop n) k):=λk l=>by
  rw [Pj];rw [mG] at l;exact c _ (by omega)
 have j:E1 (K.drop n):=gV λt q b=>a t q (lD b);have g:NT [97]:=⟨⟨97,[],rfl,by decide,by decide,(λ_ y d=>by cases d),(λ_ _ y d=>by cases d),λ_ _=>rfl⟩,by decide,by decide⟩;have:=h.rg (x:=[]) g f j;rw [ig [] [97] p (by
  cases b:aC [] p
  .rfl
  .have:=h.abq [] b;cases this)] at this
 exact ⟨_,this⟩
variable {rs:List RF} {z:By}
def Kj (x z:By) (K:List (By × Nat)) {i:Nat} (a:i<G K):aw (gJ x z K) i=if aw K i=x then z else aw K i:=by
 rw [eY K i a,eY (gJ x z K) i (by rw [qP];exact a)];simp [gJ]
def gl {t:By} {i:Nat} (a:aw K i=t) (b:t≠[]) (c:bm t=false) (d:bm x=true):aw (gJ x z K) i=t:=by
 rw [Kj x z K (bP a b),aA (λe=>?_),a];rw [a] at e;rw [e,d] at c;cases c
def bh.gJ (O:bm x=true) (r:NT z) {n i j:Nat} {p:Pt} (h:bh K n i j p):bh (gJ x z K) n i j (aR x z p):=by
 induction h with
 | atom i k y P T=>
  have q:i<(Go.Proofs.YtihgojcfpnhelaaGreatDoor.gJ x z K).length:=by rw [qP];exact y
  have e:=Kj x z K y;by_cases d:aw K i=x
  .rw [aB d] at e;have t:k=2:=oy _ _ _ (d▸P) (mS O);subst t;have e1:ej (aw K i)=x:=by
    rw [d];have G:ae x=false:=(by
      rcases mS O with ⟨_,h⟩|⟨h,_⟩|⟨_,h⟩|h
      .omega
      .exact h
      .omega
      .exfalso;revert h;simp [eb]);unfold ej;rw [G,aA (by simp),jU x O]
   have R:fw (aw K i)=fw z:=by
    have o:ae (aw K i)=false:=by
     rw [d];rcases mS O with ⟨_,h⟩|⟨h,_⟩|⟨_,h⟩|h
     .omega
     .exact h
     .omega
     .exfalso;revert h;simp [eb]
    simp [fw,o,r.2.1]
   have M:ej z=z:=by
    unfold ej;rw [r.2.1,aA (by simp),jU z r.2.2]
   have u:aR x z (.atom 2 (ej (aw K i)) (fw (aw K i)))=.atom 2 (ej z) (fw z):=by
    unfold aR;rw [aB ⟨rfl,e1⟩,R,M]
   rw [u];have:=bh.atom (K:=Go.Proofs.YtihgojcfpnhelaaGreatDoor.gJ x z K) i 2 q (by rw [e];exact mS r.2.2) (by omega);rw [e] at this;exact this
  .rw [aA d] at e;have u:aR x z (.atom k (ej (aw K i)) (fw (aw K i)))=.atom k (ej (aw K i)) (fw (aw K i)):=by
    unfold aR;rw [aA];rintro ⟨rfl,D⟩;exact d (ET D (by rintro rfl;cases O))
   rw [u,<- e];exact .atom i k q (by rw [e];exact P) T
 | jV i j a d _ l=>exact .jV i j _ (gl d (by simp) (by decide) O) l
 | neg i j a d _ l=>exact .neg i j _ (gl d (by simp) (by decide) O) l
 | br i j a d _ w l=>exact .br i j _ (gl d (by simp) (by decide) O) l (gl w (by simp) (by decide) O)
 | ifs i S E C a b c U o _ F _ N _ H g m v=>exact .ifs i S E C _ _ _ (gl U (by simp) (by decide) O) (gl o (by simp) (by decide) O) g (gl F (by simp) (by decide) O) m (gl N (by simp) (by decide) O) v (gl H (by simp) (by decide) O)
 | up n i j a o s _ l=>exact .up n i j _ o s l
 | more n i j L k a b o s _ f P _ g m=>
  have e:=gl (x:=x) (z:=z) (rfl:aw K j=aw K j) (by have:=l9 f;intro h;rw [h] at f;revert f;unfold dc;split<;>simp [b5]) (Hu f P).2 O;exact .more n i j L k _ _ o s g (by rw [e];exact f) (by rw [e];exact P) m
def tf (h:fV K) (m:NT z):fV (gJ x z K):=by
 intro t q g;unfold Go.Proofs.YtihgojcfpnhelaaGreatDoor.gJ at g;obtain ⟨⟨t0,o⟩,a,e⟩:=bU.1 g;simp only [mI] at e;obtain ⟨e1,_⟩:=e;by_cases i:t0=x
 .rw [aB i] at e1;subst e1;obtain ⟨⟨c,r,e,j,b,n,p,s⟩,l,d⟩:=m;have f:fF c=true:=by
   unfold bm at d;rw [qA,e] at d;exact d.1
  refine ⟨⟨b,c,r,e,?_,?_⟩,λk=>?_⟩
  .rintro rfl;revert f;decide
  .rintro rfl;revert f;decide
  .rw [l] at k;cases k
 .rw [aA i] at e1;subst e1;exact h _ _ a
def xR (e:xP p) (d:bm x=true) (b:NT z):xN x z (ai p)=ai (aR x z p):=by
 obtain ⟨K,c,f,_⟩:=e.reads;unfold xN;rw [c];have a:fV K:=by have:=xI (ai p);rw [c] at this;exact this
 have:=(f.gJ d b).told (tf (x:=x) a b) (by rfl);rw [this.2.2];rfl
def xP.ren (s:xP p) (u:NT z) (x:By):xP (aR x z p):=by
 obtain ⟨m,a,e,D,N,t,O,n⟩:=s;have l:∀ k,k<(z0 (bB a)).length->TI (aw (z0 (bB a)) k):=λk f=>by
  rw [RM] at f;rw [jF,lC,cU f];have E:(bB a)[k]∈bB a:=bt f;obtain ⟨F,M⟩:=yx.1 E;exact (D _ F).ti (by simpa using M)
 have v:E1 (z0 (bB a)):=λk d=>by
  have f:k<(z0 (bB a)).length:=bP rfl (by intro h;rw [h] at d;cases d);obtain ⟨c,r,j,_,b,w,q,C⟩:=l k f;rw [j] at d ⊢;have g:cT c=true:=d;rw [j,di,aB d,qA,pG,pG] at b;refine ⟨λy i=>?_,b.2,by omega⟩;rcases bQ.1 i with rfl|i
  .exact g
  .refine q ?_ g y i;cases o:fF c
   .rfl
   .have:=Bg o;rw [g] at this;cases this
 exact ⟨_,t.rg (x:=x) u l v⟩
def Pg (x z:By):∀ (l b:List RF),pR b->((l.map λd=>mA x z d.nm)).Nodup->(∀ d e,d∈l->e∈b->e.nm≠mA x z d.nm) ->
  pR (l.foldl (λb f=>iu (gv b (mA x z f.nm)) ⟨mA x z f.nm,xN x z f.rl,0,0⟩) b)/\∀ d,d∈l.foldl (λb f=>iu (gv b (mA x z f.nm)) ⟨mA x z f.nm,xN x z f.rl,0,0⟩) b↔d∈b\/∃ e,e∈l/\d=⟨mA x z e.nm,xN x z e.rl,0,0⟩:=by
 intro l
 induction l with
 | nil=>intro b C _ _;exact ⟨C,λd=>by simp⟩
 | cons a r o=>
  intro b C k i;rw [fL,jB] at k;rw [wC];have g:∀ d,d∈gv b (mA x z a.nm)↔d∈b:=λd=>by
   rw [tS];exact ⟨λh=>h.1,λh=>⟨h,i a d il h⟩⟩
  obtain ⟨m,n⟩:=o (iu (gv b (mA x z a.nm)) ⟨mA x z a.nm,xN x z a.rl,0,0⟩) (EX (CL C _) λd j=>((tS _ _ _).1 j).2) k.2 (λd e j c=>by
   rcases (yX _ _ _).1 c with rfl|c
   .intro p;exact k.1 (bU.2 ⟨d,j,p.symm⟩)
   .exact i d e (ki _ j) ((g e).1 c))
  refine ⟨m,λd=>(n d).t ?_⟩;rw [yX,g];constructor
  .rintro ((rfl|h)|⟨e,c,rfl⟩)
   .exact zZ ⟨a,il,rfl⟩
   .exact zR h
   .exact zZ ⟨e,ki _ c,rfl⟩
  .rintro (h|⟨e,c,rfl⟩)
   .exact zR (zZ h)
   .rcases bQ.1 c with rfl|c
    .exact zR (zR rfl)
    .exact zZ ⟨e,c,rfl⟩
def DR.ren (h:DR fs H) (Q0:lO fs) (w:bm x=true) (Q4:NT z) (s:∀ f,f∈fs->f.nm≠z) (y:∀ n q,mB Z n q↔mB (fs.map (dN x z)) n q):DR Z (sQ x z H):=by
 have o:∀ a b:By,a≠z->b≠z->mA x z a=mA x z b->a=b:=by
  intro a b v u e;unfold mA at e;by_cases l:a=x
  .rw [aB l] at e;by_cases c:b=x
   .rw [l,c]
   .rw [aA c] at e;exact absurd e.symm u
  .rw [aA l] at e;by_cases c:b=x
   .rw [aB c] at e;exact absurd e v
   .rw [aA c] at e;exact e
 have m:∀ d,d∈H->d.nm≠z:=λd C=>by
  obtain ⟨f,i,rfl⟩:=(h.2 d).1 C;exact s f i
 have r:(H.map λd=>mA x z d.nm).Nodup:=by
  rw [List.Nodup,jz];refine List.Pairwise.imp_of_mem (λ{a b} v u hab e=>?_) h.1;have:=o _ _ (m a v) (m b u) e;rw [this] at hab;exact List.lt_irrefl _ hab
 obtain ⟨l,c⟩:=Pg x z H [] List.Pairwise.nil r (λd e _ j=>by cases j);refine ⟨l,λd=>(c d).t ?_⟩;constructor
 .rintro (j|⟨e,j,rfl⟩)
  .cases j
  .obtain ⟨f,i,rfl⟩:=(h.2 e).1 j;obtain ⟨g,t,e1,p⟩:=(y (mA x z f.nm) (aR x z f.p)).2 ⟨dN x z f,bU.2 ⟨f,i,rfl⟩,rfl,rfl⟩;refine ⟨g,t,?_⟩;unfold qF;rw [e1,p];show (⟨mA x z f.nm,xN x z (ai f.p),0,0⟩:RF)=_;rw [xR (Q0 f i).1 w Q4]
 .rintro ⟨g,t,rfl⟩;obtain ⟨k,D,e1,p⟩:=(y g.nm g.p).1 ⟨g,t,rfl,rfl⟩;obtain ⟨f,i,rfl⟩:=bU.1 D;refine zZ ⟨qF f,(h.2 _).2 ⟨f,i,rfl⟩,?_⟩;unfold qF;rw [<- e1,<- p];show _=(⟨mA x z f.nm,xN x z (ai f.p),0,0⟩:RF);rw [xR (Q0 f i).1 w Q4];rfl
variable {s:By}
def tg (l:(fs.map λg=>g.nm).Nodup) (m:DR fs H):Pu fs=mi H:=by
 obtain ⟨j,C⟩:=nE (aT fs);have c:((kS (aT fs)).map λg=>g.2.nm).Nodup:=by
  rw [(j.map λg=>g.2.nm).nodup_iff,E8 λg=>g.nm];exact l
 have i:DR fs ((kS (aT fs)).map λg=>qF g.2):=by
  refine ⟨?_,λd=>?_⟩
  .unfold pR;rw [jz];rw [List.Nodup,jz] at c;refine List.Pairwise.imp ?_ (C.and c);intro a b h;exact bi (a:=b.2.nm) (b:=a.2.nm) (nM h.2) h.1
  .rw [bU];constructor
   .rintro ⟨g,e,rfl⟩;refine ⟨g.2,?_,rfl⟩;have:g.2∈(aT fs).map Prod.snd:=bU.2 ⟨g,j.mem_iff.1 e,rfl⟩;rw [cW] at this;exact this
   .rintro ⟨f,k,rfl⟩;rw [<- cW fs] at k;obtain ⟨g,e,rfl⟩:=bU.1 k;exact ⟨g,j.mem_iff.2 e,rfl⟩
 rw [m.uniq i];unfold Pu sK mi;rw [List.flatMap_map];rfl
def DR.rfb (h:DR fs H) (a:QL fs):cg H:=by
 refine ⟨by rw [h.len a.gf.nn];have:=a.len;omega,λd b=>?_⟩;obtain ⟨f,c,rfl⟩:=(h.2 d).1 b;obtain ⟨_,e,g⟩:=a.rg f c;exact ⟨by show (G f.nm)<=10;omega,by show (ai f.p).length<=1000;omega⟩
def g8 (b:DR fs H) (h:fs.find? (λf=>f.nm == x)=none):bK H x<0:=(b.find x).2 λf a e=>by
 have:=rp.1 h f a;simp [e] at this
def Kv (k:DR fs H) (j:(fs.map λg=>g.nm).Nodup) {f:Fd} (h:fs.find? (λf=>f.nm == x)=A f):f∈fs/\f.nm=x/\∃ (a:Nat) (c:a<G H),bK H x=(a:Int)/\H[a]=qF f:=by
 have b:=vK h;have d:f.nm=x:=(by simpa using wA h);obtain ⟨a,c,e,i⟩:=k.at j b;exact ⟨b,d,a,c,by rw [<- d];exact e,i⟩
def QL.xW (h:QL fs):kt fs:=⟨h.gf,h.len,λf a=>⟨h.ne f a,(h.rg f a).2.2⟩⟩
def kt.ql (h:kt fs) (a:lO fs):QL fs:=⟨h.gf,a,h.len,λf b=>(h.xX f b).1⟩
def RQ:∀ {l m:List By},l.Nodup->(∀ a,a∈l->a∈m)->G l<=G m
 | [],m,_,_=>bE _
 | a::r,m,c,C=>by
  rw [jB] at c;have f:=C a il;have:=RQ (l:=r) (m:=m.erase a) c.2 λb d=>(List.mem_erase_of_ne (show b≠a from λe=>c.1 (e▸d))).2 (C b (ki _ d));rw [List.length_erase_of_mem f] at this;have g:=List.length_pos_of_mem f;rw [gS];omega
def nP.len (h:nP H x aJ):G aJ<=G H:=by
 obtain ⟨n,_⟩:=h.cir;have g:aJ.Nodup:=by
  rw [List.nodup_iff_count];intro a;by_cases d:a∈aJ
  .obtain ⟨i,m,rfl⟩:=e9 d;exact jD (n i m).1
  .rw [List.count_eq_zero_of_not_mem d];exact bE _
 have c:∀ a,a∈aJ->a∈H.map RF.nm:=λa d=>by
  obtain ⟨i,m,rfl⟩:=e9 d;obtain ⟨_,_,k,p,b,_⟩:=n i m;refine bU.2 ⟨H[k],bt p,?_⟩;have r:¬ bK H aJ[i]<0:=by rw [b];omega
  unfold bK at b;cases l:H.findIdx? (λf=>f.nm == aJ[i]) with
  | none=>rw [l] at b;exact absurd b (by simp)
  | some j=>
   rw [l] at b;have e:j=k:=by have:((j:Int))=(k:Int):=b;omega
   subst e;obtain ⟨q,o,_⟩:=FZ.1 l;simpa using o
 have:=RQ g c;simpa using this
def nP.tT (h:nP H x aJ):pP H:=by
 obtain ⟨L,U,f,e,d,c,b,a,_⟩:=h;exact b.tT a
def qD (D:aI s=(K,none)) {i:Nat} (h:kN K i=2):i<G K/\nT K i=aw K i/\NT (aw K i):=by
 have b:fV K:=(by have:=xI s;rw [D] at this;exact this);have C:=CJ (K:=K) (i:=i) (by rw [h];decide);have a:=(dh b i).1 h;have c:ae (aw K i)=false:=by
  rcases mS a with ⟨_,h⟩|⟨h,_⟩|⟨_,h⟩|h
  .cases h
  .exact h
  .cases h
  .exfalso;revert h;simp [eb]
 refine ⟨C,?_,?_,c,a⟩
 .unfold nT ej;rw [aB C,c,jU _ a];rfl
 .rw [eY K i C];have e:(bW (G s) s 0).1=K:=(by rw [show bW (G s) s 0=(K,none) from D]);exact XN (G s) s 0 K[i].1 K[i].2 (by rw [e];exact bt C)
def T6 {a:By} (b:a≠[]) (h:a=nT K 0):0<G K/\aw K 0=a:=by
 unfold nT at h;split at h
 .rename_i c;refine ⟨c,?_⟩;unfold ej eh at h;split at h
  .exact absurd h b
  .split at h
   .exact absurd h b
   .exact h.symm
 .exact absurd h b
def T7:∀ (k:Nat) (h:k<12),(aQ[k]'h).2.1=(k:Int)+1:=by decide
def Ia (s:By) (K:List (By × Nat)):Prop:=aI s=(K,none)/\G K<=120/\(∀ t p,(t,p)∈K->t≠[]/\G t<=19)
def RR (d:G s<=120) (C:aI s=(K,none)):Ia s K:=by
 have e:(bW (G s) s 0).1=K:=(by rw [show bW (G s) s 0=(K,none) from C]);refine ⟨C,by rw [<- e];exact bf (fT (G s) s 0) d,λt p b=>⟨?_,pW (G s) s 0 t p (by rw [e];exact b)⟩⟩;have a:=xI s;rw [C] at a;obtain ⟨⟨_,c,r,h,_⟩,_⟩:=a t p b;rw [h];simp
def jY {q:Int} {f:List By} {t:Option Pt} (h:ew s (.ok q f t)):∃ (K:List (By × Nat)) (k:Nat) (a:k<12),Ia s K/\q=(k:Int)+1/\0<G K/\aw K 0=(aQ[k]'a).1/\f=fC K 1 (aQ[k]'a).2.2.1/\(∀ i,i<(aQ[k]'a).2.2.1->kN K (1+i)=2) /\
  (((aQ[k]'a).2.2.2=false/\t=none)\/((aQ[k]'a).2.2.2=true/\∃ p,t=A p/\bh (K.drop (2+(aQ[k]'a).2.2.1)) 1 0 (K.drop (2+(aQ[k]'a).2.2.1)).length p/\ai p=bV (K.drop (2+(aQ[k]'a).2.2.1)) (K.drop (2+(aQ[k]'a).2.2.1)).length)):=by
 rcases h with ⟨_,h⟩|⟨_,p,_,h⟩|⟨l,K,n,h⟩
 .cases h
 .cases h
 .rcases h with ⟨k,a,u,r⟩|⟨_,h⟩
  .obtain ⟨o,b⟩:=T6 (iT _ (bt a)).1 u;have m:=T7 k a;rcases r with ⟨j,_,_,_,h⟩|⟨g,⟨_,_,h⟩|⟨d,_,h⟩|⟨_,_,h⟩|⟨d,x,D,p,C,_,_,⟨_,h⟩|⟨_,_,_,h⟩|⟨_,_,y,w,z,v,h⟩⟩⟩
   .cases h
   .cases h
   .injection h with e1 c e;exact ⟨K,k,a,RR l n,e1.t m,o,b,c,g,zR ⟨d,e⟩⟩
   .cases h
   .cases h
   .cases h
   .injection h with e1 c e;exact ⟨K,k,a,RR l n,e1.t m,o,b,c,g,zZ ⟨d,y,e,w,z⟩⟩
  .cases h
def Pv (h:ew s (Ln.set x p).r):∃ K,Ia s K/\aw K 0=[115,101,116]/\4<=G K/\aw K 1=x/\NT x/\bV (K.drop 3) (K.drop 3).length=ai p/\xP p:=by
 obtain ⟨K,k,n,b,l,m,f,E,g,a⟩:=jY h;obtain rfl:k=0:=(by omega);obtain ⟨j,D,F⟩:=qD b.1 (g 0 (by show 0<1;decide));rcases a with ⟨a,_⟩|⟨_,q,e,c,i⟩
 .cases a
 .cases e;have C:x=nT K 1:=(by injection E);refine ⟨K,b,f,?_,by rw [C];exact D.symm,by rw [C,D];exact F,i.symm,tb b.1 3 c⟩;have d:=c.lt;rw [mG] at d;have:(aQ[0]).2.2.1=1:=rfl;omega
def Pw (h:ew s (Ln.del x).r):∃ K,Ia s K/\aw K 0=[100,101,108,101,116,101]/\2<=G K/\aw K 1=x/\NT x:=by
 obtain ⟨K,k,g,a,e,f,c,E,d,i⟩:=jY h;obtain rfl:k=1:=(by omega);obtain ⟨b,D,F⟩:=qD a.1 (d 0 (by show 0<1;decide));have C:x=nT K 1:=(by injection E);exact ⟨K,a,c,b,by rw [C];exact D.symm,by rw [C,D];exact F⟩
def Px (h:ew s (Ln.ren x z).r):∃ K,Ia s K/\aw K 0=[114,101,110,97,109,101]/\3<=G K/\aw K 1=x/\NT x/\aw K 2=z/\NT z:=by
 obtain ⟨K,k,p,d,n,o,i,c,f,m⟩:=jY h;obtain rfl:k=2:=(by omega);obtain ⟨l,D,E⟩:=qD d.1 (f 0 (by show 0<2;decide));obtain ⟨j,e,g⟩:=qD d.1 (f 1 (by show 1<2;decide));injection c with e1 b;injection b with b _;have C:x=nT K 1:=e1;have a:z=nT K 2:=b;exact ⟨K,d,i,j,by rw [C];exact D.symm,by rw [C,D];exact E,by rw [a];exact e.symm,by rw [a,e];exact g⟩
def Ib (h:ew s (Ln.value x).r):∃ K,Ia s K/\aw K 0=[118,97,108,117,101]/\1<G K/\aw K 1=x:=by
 obtain ⟨K,k,c,C,a,b,F,E,D,d⟩:=jY h;obtain rfl:k=8:=(by omega);obtain ⟨N,O,P⟩:=qD C.1 (D 0 (by show 0<1;decide));have M:x=nT K 1:=(by injection E);exact ⟨K,C,F,N,by rw [M];exact O.symm⟩
def Kw (h:ew s (Ln.rule x).r):∃ K,Ia s K/\aw K 0=[114,117,108,101]/\1<G K/\aw K 1=x:=by
 obtain ⟨K,k,c,C,a,b,F,E,D,d⟩:=jY h;obtain rfl:k=9:=(by omega);obtain ⟨N,O,P⟩:=qD C.1 (D 0 (by show 0<1;decide));have M:x=nT K 1:=(by injection E);exact ⟨K,C,F,N,by rw [M];exact O.symm⟩
def Ky (h:ew s Ln.list.r):∃ K,Ia s K/\aw K 0=[108,105,115,116]/\0<G K:=by
 obtain ⟨K,k,f,d,e,a,b,c,g,i⟩:=jY h;obtain rfl:k=10:=(by omega);exact ⟨K,d,b,a⟩
def Ic (h:ew s Ln.order.r):∃ K,Ia s K/\aw K 0=[111,114,100,101,114]/\0<G K:=by
 obtain ⟨K,k,f,d,e,a,b,c,g,i⟩:=jY h;obtain rfl:k=11:=(by omega);exact ⟨K,d,b,a⟩
def NT.len (h:NT z):z≠[]/\G z<=6:=by
 obtain ⟨⟨c,r,e,_,a,_⟩,d,b⟩:=h;refine ⟨(by rw [e];simp),?_⟩;unfold bm at b;rw [qA] at b;rw [di,aA (by rw [d];simp),aB b.1,pG] at a;exact a
def Hx (b:lO fs):fs.any (λf=>aC x f.p&&decide (100<(ai (aR x z f.p)).length))=true↔∃ f,f∈fs/\100<(ai (aR x z f.p)).length:=by
 rw [rD];constructor
 .rintro ⟨f,a,h⟩;rw [qA,pG] at h;exact ⟨f,a,h.2⟩
 .rintro ⟨f,a,h⟩;refine ⟨f,a,?_⟩;rw [qA,pG];refine ⟨?_,h⟩;cases c:aC x f.p
  .rw [ig x z f.p c] at h;have:=(b f a).2.1;omega
  .rfl
def DR.abu (h:DR fs H) (e:lO fs) (g:bm x=true) (c:NT z):pO x z H↔∀ f,f∈fs->(ai (aR x z f.p)).length<=100:=by
 constructor
 .intro b f a;have:=b (qF f) ((h.2 _).2 ⟨f,a,rfl⟩);rw [show (qF f).rl=ai f.p from rfl,xR (e f a).1 g c] at this;exact this
 .intro b d i;obtain ⟨f,a,rfl⟩:=(h.2 d).1 i;rw [show (qF f).rl=ai f.p from rfl,xR (e f a).1 g c];exact b f a
def tm (n:By) (q:Pt):mB (fs.map (dN x z)) n q↔∃ f,f∈fs/\mA x z f.nm=n/\aR x z f.p=q:=by
 constructor
 .rintro ⟨g,b,rfl,rfl⟩;obtain ⟨f,a,rfl⟩:=bU.1 b;exact ⟨f,a,rfl,rfl⟩
 .rintro ⟨f,a,rfl,rfl⟩;exact ⟨dN x z f,bU.2 ⟨f,a,rfl⟩,rfl,rfl⟩
def Kk (c:lO fs) (b:NT z) (g:∀ f,f∈fs->(ai (aR x z f.p)).length<=100) (e:∀ n q,mB Z n q↔mB (fs.map (dN x z)) n q):lO Z:=tV λn q d=>by
 obtain ⟨f,a,rfl,rfl⟩:=(tm n q).1 ((e n q).1 d);refine ⟨(c f a).1.ren b x,g f a,?_⟩;unfold mA;split
 .exact b.len.2
 .exact (c f a).2.2
def tr (j:(fs.map λg=>g.nm).Nodup) (h:∀ f,f∈fs->f.nm≠z):((fs.map (dN x z)).map λg=>g.nm).Nodup:=by
 rw [fM,List.Nodup,jz];rw [List.Nodup,jz] at j;refine List.Pairwise.imp_of_mem (λ{a b} ha hb hab e=>?_) j;have c:(if a.nm=x then z else a.nm)=(if b.nm=x then z else b.nm):=e;by_cases i:a.nm=x
 .rw [aB i] at c;by_cases d:b.nm=x
  .exact hab (by rw [i,d])
  .rw [aA d] at c;exact h b hb c.symm
 .rw [aA i] at c;by_cases d:b.nm=x
  .rw [aB d] at c;exact h a ha c
  .rw [aA d] at c;exact hab c
def Ph (v:GF fs) (l:lO fs) (r:∀ f,f∈fs->f.nm≠[]) (m:DR fs H) (t:bm x=true) (n:NT z) (h:kr fs x z=.ok Z aJ):GF Z/\lO Z/\DR Z (sQ x z H)/\¬ AO (sQ x z H)/\¬ bK H x<0/\bK H z<0/\pO x z H:=by
 obtain ⟨c,⟨f,w,o⟩,j,b⟩:=Ai v r n.len.1 h;have s:=qN b;have a:∀ f,f∈fs->(ai (aR x z f.p)).length<=100:=by
  unfold kr at h;split at h
  .cases h
  .split at h
   .cases h
   .split at h
    .cases h
    .rename_i e;intro g u;rcases cC 100 (ai (aR x z g.p)).length with p|p
     .exact absurd ((Hx l).2 ⟨g,u,p⟩) e
     .exact p
 have d:=m.ren l t n j s;have k:=Kk l n a s;exact ⟨c,k,d,λq=>wU c ((d.dZ c.nn k).1 q),λi=>(m.find x).1 i f w o,(m.find z).2 j,(m.abu l t n).2 a⟩
def Kl {c:Nat} (QV:GF fs) (p:lO fs) (j:DR fs H) (Q0:bm x=true) (v:NT z) (h:kr fs x z=.err c aJ) :
  (c=5/\aJ=[]/\bK H x<0)\/(c=6/\aJ=[]/\¬ bK H x<0/\0<=bK H z)\/(c=7/\aJ=[]/\¬ bK H x<0/\bK H z<0/\¬ pO x z H)\/(c=8/\¬ bK H x<0/\bK H z<0/\pO x z H/\nP (sQ x z H) z aJ):=by
 unfold kr at h;cases w:fs.findIdx? (λf=>f.nm == x) with
 | none=>
  rw [w] at h;injection h with m d;refine zR ⟨m.symm,d.symm,(j.find x).2 λf F=>?_⟩;have:=Br.1 w f F;simpa using this
 | some i=>
  rw [w] at h;obtain ⟨f,M,r⟩:=ft w;have N:f∈fs:=oG M;have o:¬ bK H x<0:=λt=>(j.find x).1 t f N r;simp only at h;split at h
  .rename_i D;injection h with m d;refine zZ (zR ⟨m.symm,d.symm,o,?_⟩);obtain ⟨g,k⟩:=Option.isSome_iff_exists.1 D;rcases (by omega:bK H z<0\/0<=bK H z) with C|y
   .exact absurd (by simpa using wA k) ((j.find z).1 C g (vK k))
   .exact y
  .rename_i D;have b:∀ f,f∈fs->f.nm≠z:=λg k e=>D (by
    rw [List.find?_isSome];exact ⟨g,k,by simp [e]⟩)
   split at h
   .rename_i a;injection h with m d;obtain ⟨g,k,u⟩:=(Hx p).1 a;refine zZ (zZ (zR ⟨m.symm,d.symm,o,(j.find z).2 b,λG=>?_⟩));have:=(j.abu p Q0 v).1 G g k;omega
   .rename_i a;have l:∀ f,f∈fs->(ai (aR x z f.p)).length<=100:=λg k=>by
     rcases cC 100 (ai (aR x z g.p)).length with u|u
     .exact absurd ((Hx p).2 ⟨g,k,u⟩) a
     .exact u
    rw [M] at h;simp only at h;have E:∀ n q,mB (fs.map (dN x z)) n q↔mB (fs.map (dN x z)) n q:=λn q=>Iff.rfl;have s:(fs.map (dN x z))[i]?=A (dN x z f):=(by rw [kn,M];rfl);obtain ⟨m,d⟩:=tU s (tr QV.nn b) (Kk p v l E) (j.ren p Q0 v b E) h;refine zZ (zZ (zZ ⟨m,o,(j.find z).2 b,(j.abu p Q0 v).2 l,?_⟩));rw [show (dN x z f).nm=z from aB r] at d;exact d
variable {out:List RF} {nm:By} {w w' W:zW} {S:Nat->Prop} {y:Nat} {vb va v U:zV} {d:De} {a:Ab} {O:AR} {l:Ln}
def tZ (a:Ab) (d:De) (r:Rp) (b:Ab) (S:Nat->Prop) (y:Nat) (vb va v:zV) (w:zW):Prop:=
 ∃ E,AD b E/\QA b/\G r.nm<=1000/\∀ C D,ll w (B C (G r.nm) D) r.nm->zC prog 83 #[zd #[J r.er,J r.at_,Q r.tx,B C (G r.nm) D,J r.kd,J r.nn],zJ y,v] w (dk S y vb va E w)
def E9 (y:Nat) (v:zV) (w:zW) (out:List RF) (er:Nat) (nm:By):Prop:=∀ W,zB w W->zC prog 116 #[zJ y,v] W (jT W out er nm)
def Py (C:AD a d) (D:QA a) (h:dE w S y vb va d) (b:QL Z) (c:DR Z out) (e:AP Z nm aJ) (k:G nm<=6) (i:E9 y v w out 0 nm):tZ a d (vE a (.ok Z aJ)).1 (vE a (.ok Z aJ)).2 S y vb va v w:=by
 have f:G aJ<=1000:=by
  have g:=e.1.length_le;rw [fy] at g;have:=b.len;omega
 refine ⟨y6 d out,C.done c,D.done b,f,λE F j=>?_⟩;exact Pk E F h i j f (c.tT b.rg) (by omega) (e.hng b.gf b.rg c) (by have:=(D.bk C).1;omega)
def Kz (e:AD a d) (f:QA a) (h:dE w S y vb va d) (c:nP out nm aJ) (j:G out<=1000) (g:E9 y v w out 8 nm):tZ a d (vE a (.err 8 aJ)).1 (vE a (.err 8 aJ)).2 S y vb va v w:=by
 have b:G aJ<=1000:=bf c.len j;refine ⟨if d.op=true then rN d else d,e.fail,f.fail,b,λC D i=>?_⟩;exact H0 C D h g i b c.tT c.cir.1 c.cir.2
def CV {c:Nat} (b:AD a d) (e:QA a) (h:dE w S y vb va d) (i:c≠0) (f:c≠8) (g:E9 y v w [] c []):tZ a d (vE a (.err c [])).1 (vE a (.err c [])).2 S y vb va v w:=by
 refine ⟨if d.op=true then rN d else d,b.fail,e.fail,bE _,λC D j=>?_⟩;exact Pn C D h g i f
def dE.AQ (h:dE w S y vb va d):∃ U,w.cell? (yh y)=A U/\dU w U d.fs:=by
 obtain ⟨U,c,b,_,_,_,a,_⟩:=h.cells;exact ⟨U,b,a.1⟩
def ua {er:Nat} (c:er≠0) (a:er<=12) (h:∀ W,zB w W->zC prog 150 #[zJ y,v] W (jT W [] er [])):E9 y v w [] er []:=λW b=>m9 er c a (h W b)
def Ie (a:pP out) (c:¬ AO out) (h:∀ W,zB w W->zC prog 150 #[zJ y,v] W (jT W out 0 nm)):E9 y v w out 0 nm:=λW b=>(J7 a (h W b)).m λr w' h=>h.elim (λh=>absurd h.1 c) λh=>h.2
def Fa (a:pP out) (c:AO out) (h:∀ W,zB w W->zC prog 150 #[zJ y,v] W (jT W out 0 nm)):E9 y v w out 8 nm:=λW b=>(J7 a (h W b)).m λr w' h=>h.elim (λh=>h.2) λh=>absurd c h.1
def tw (l:List RF) (x:By):(gv l x).length<=G l:=List.length_filter_le ..
def tz (g:AD a d) (b:QA a) (h:dE w S y vb va d) (o:(Ln.set x p).Ok) (hs:ew s (Ln.set x p).r) (l:ea w v (aI s).1):tZ a d (bT a (.set x p)).1 (bT a (.set x p)).2 S y vb va v w:=by
 obtain ⟨⟨L,n⟩,T,N,z⟩:=o;obtain ⟨K,⟨Y,M,H⟩,C,V,R,O,r,m⟩:=Pv hs;rw [Y] at l;replace l:ea w v K:=l;have E:G d.fs=G a.fs:=g.fs.len b.fs.gf.nn;have D:=b.fs.len;show tZ a d (vE a (mK a.fs x p)).1 (vE a (mK a.fs x p)).2 S y vb va v w;have j:(bK d.fs x<0->G a.fs≠10)->∀ W,zB w W->zC prog 150 #[zJ y,v] W (jT W (iu (gv d.fs x) ⟨x,ai p,0,0⟩) 0 x):=λk W i=>by
  obtain ⟨U,q,t⟩:=(h.next i).AQ;have:=pp q t (l.next i) (by omega) H C V (by rw [R];intro h;have:=k h;omega) (by omega);rw [R,r] at this;exact this
 cases e:mK a.fs x p with
 | ok Z aJ=>
  obtain ⟨P,f,u,F,c⟩:=Pe b.fs.gf b.fs.rg g.fs m z n T e;exact Py g b h ((b.fs.xW.set T ⟨L,n⟩ e).ql f) u (TV P e) n (Ie (u.tT f) F (j c))
 | err g1 aJ=>
  rcases Kh b.fs.gf b.fs.rg g.fs m z n e with ⟨rfl,rfl,P,f⟩|⟨rfl,P,f⟩
  .refine CV g b h (by decide) (by decide) (ua (by decide) (by decide) λW i=>?_);obtain ⟨U,q,t⟩:=(h.next i).AQ;exact O2 q t (l.next i) (by omega) C V (by rw [R];exact P) (by omega)
  .refine Kz g b h f ?_ (Fa f.tT f.ci (j P));rw [uR];have:=tw d.fs x;omega
def tB (i:AD a d) (e:QA a) (h:dE w S y vb va d) (j:(Ln.del x).Ok) (hs:ew s (Ln.del x).r) (g:ea w v (aI s).1):tZ a d (bT a (.del x)).1 (bT a (.del x)).2 S y vb va v w:=by
 obtain ⟨M,t⟩:=j;obtain ⟨K,⟨u,z,F⟩,o,n,E,C⟩:=Pw hs;rw [u] at g;replace g:ea w v K:=g;show tZ a d (vE a (mL a.fs x)).1 (vE a (mL a.fs x)).2 S y vb va v w;cases b:mL a.fs x with
 | ok Z aJ=>
  obtain ⟨D,m,p,r,q⟩:=Pf e.fs.gf e.fs.rg i.fs b;refine Py i e h ((e.fs.xW.del b).ql m) p (TX e.fs.gf D b) t (Ie (p.tT m) r λW f=>?_);obtain ⟨U,k,l⟩:=(h.next f).AQ;have:=m7 k l (g.next f) (by omega) o n (by rw [E];exact q);rw [E] at this;exact this
 | err c aJ=>
  obtain ⟨rfl,rfl,D⟩:=Ki i.fs b;refine CV i e h (by decide) (by decide) (ua (by decide) (by decide) λW f=>?_);obtain ⟨U,k,l⟩:=(h.next f).AQ;exact TF k l (g.next f) (by omega) o n (by rw [E];exact D)
def tG (i:AD a d) (e:QA a) (h:dE w S y vb va d) (q:(Ln.ren x z).Ok) (hs:ew s (Ln.ren x z).r) (l:ea w v (aI s).1):tZ a d (bT a (.ren x z)).1 (bT a (.ren x z)).2 S y vb va v w:=by
 obtain ⟨⟨Q5,O⟩,D,V⟩:=q;obtain ⟨K,⟨L,N,P⟩,u,t,T,C,p,E⟩:=Px hs;rw [L] at l;replace l:ea w v K:=l;have Q0:G d.fs=G a.fs:=i.fs.len e.fs.gf.nn;have F:=e.fs.len;have M:=J5 x z d.fs;show tZ a d (vE a (kr a.fs x z)).1 (vE a (kr a.fs x z)).2 S y vb va v w;have j:¬ bK d.fs x<0->bK d.fs z<0->∀ W,zB w W->zC prog 150 #[zJ y,v] W λr w'=>(pO x z d.fs/\jT W (sQ x z d.fs) 0 z r w')\/(¬ pO x z d.fs/\jT W [] 7 [] r w'):=λR f W b=>by
  obtain ⟨U,n,o⟩:=(h.next b).AQ;have:=m8 n o (i.fs.tT e.fs.rg) (l.next b) (by omega) u t (by rw [p];exact ⟨D,by omega⟩) (by rw [T];exact R) (by rw [p];exact f);rw [T,p] at this;exact this
 cases g:kr a.fs x z with
 | ok Z aJ=>
  obtain ⟨R,f,k,m,Y,c,H⟩:=Ph e.fs.gf e.fs.rg e.fs.ne i.fs C.2.2 E g;exact Py i e h ((e.fs.xW.ren ⟨D,V⟩ g).ql f) k (TW R g) V (Ie (k.tT f) m λW b=>(j Y c W b).m λr w' h=>h.elim (λh=>h.2) λh=>absurd H h.1)
 | err g1 aJ=>
  rcases Kl e.fs.gf e.fs.rg i.fs C.2.2 E g with ⟨rfl,rfl,R⟩|⟨rfl,rfl,R,f⟩|⟨rfl,rfl,R,f,k⟩|⟨rfl,R,f,k,m⟩
  .refine CV i e h (by decide) (by decide) (ua (by decide) (by decide) λW b=>?_);obtain ⟨U,n,o⟩:=(h.next b).AQ;exact TJ n o (l.next b) (by omega) u t (by rw [T];exact R)
  .refine CV i e h (by decide) (by decide) (ua (by decide) (by decide) λW b=>?_);obtain ⟨U,n,o⟩:=(h.next b).AQ;exact Hp n o (l.next b) (by omega) u t (by rw [T];exact R) (by rw [p];exact f)
  .exact CV i e h (by decide) (by decide) (ua (by decide) (by decide) λW b=>(j R f W b).m λr w' h=>h.elim (λh=>absurd h.1 k) λh=>h.2)
  .exact Kz i e h m (by omega) (Fa m.tT m.ci λW b=>(j R f W b).m λr w' h=>h.elim (λh=>h.2) λh=>absurd k h.1)
variable {U:List Fd} {Z:zV}
def Fb (r:Rp) (y:Nat) (v:zV) (w:zW):Prop:=
 (G r.nm)<=1000/\∀ C D,ll w (B C (G r.nm) D) r.nm->zC prog 84 #[zd #[J r.er,J r.at_,Q r.tx,B C (G r.nm) D,J r.kd,J r.nn],zJ y,v] w λr w'=>r=zP (zF true)/\zB w w'
def tH (c:AD a d) (e:QA a) (h:dE w S y vb va d) (hs:ew s Ln.list.r) (b:ea w v (aI s).1):Fb (bT a .list).1 y v w:=by
 obtain ⟨K,⟨f,m,l⟩,j,g⟩:=Ky hs;rw [f] at b;replace b:ea w v K:=b;obtain ⟨Z,i,k⟩:=h.AQ;refine ⟨bE _,λC D _=>?_⟩;show zC prog 84 #[zd #[J 0,J 0,Q (Pu a.fs),B C 0 D,J 0,J 0],zJ y,v] w _;rw [tg e.fs.gf.nn c.fs];exact Po C D i k (c.fs.rfb e.fs) b j g
def T8 (i:AD a d) (b:QA a) (h:dE w S y vb va d) (hs:ew s Ln.order.r) (g:ea w v (aI s).1):Fb (bT a .order).1 y v w:=by
 obtain ⟨K,⟨l,p,q⟩,n,j⟩:=Ic hs;rw [l] at g;replace g:ea w v K:=g;obtain ⟨Z,m,o⟩:=h.AQ;have e:(a.fs.map λf=>f.nm).length=G d.fs:=by rw [fy,i.fs.len b.fs.gf.nn]
 have c:(a.fs.map λf=>f.nm).length<=1000:=by rw [fy];have:=b.fs.len;omega
 exact ⟨c,λC D k=>Kr C D m o (i.fs.tT b.fs.rg) k c (E7 b.fs.gf b.fs.rg i.fs (yr _)) e g n j⟩
def T9 (D:AD a d) (c:QA a) (h:dE w S y vb va d) (hs:ew s (Ln.value x).r) (C:ea w v (aI s).1):Fb (bT a (.value x)).1 y v w:=by
 obtain ⟨K,⟨t,Y,u⟩,M,N,V⟩:=Ib hs;rw [t] at C;replace C:ea w v K:=C;obtain ⟨Z,P,R⟩:=h.AQ;have l:=D.fs.len c.fs.gf.nn;have hT:=c.fs.len;have r:(bT a (.value x)).1=⟨(pX a.fs x).1,0,[],[],(pX a.fs x).2.1,(pX a.fs x).2.2⟩:=rfl;rw [r];unfold pX;cases T:a.fs.find? (λf=>f.nm == x) with
 | none=>
  refine ⟨bE _,λE F _=>?_⟩;exact be E F P R C (by rw [M];decide) (by rw [M];decide) N (by omega) (by rw [V];exact g8 D.fs T)
 | some f=>
  obtain ⟨q,z,b,k,p,o⟩:=Kv D.fs c.fs.gf.nn T;have e:(nB a.fs d.fs).length=G d.fs:=by unfold nB;rw [fy]
  have g:b<(nB a.fs d.fs).length:=by rw [e];exact k
  have i:eN a.fs d.fs[b].nm=f.v:=by rw [o];exact CO c.fs.gf.nn q
  have j:(nB a.fs d.fs)[b]={ d.fs[b] with kd:=(eN a.fs d.fs[b].nm).1,n:=(eN a.fs d.fs[b].nm).2 }:=kJ ..;have e1:(nB a.fs d.fs)[b].kd=f.v.1:=by rw [j,i]
  have m:(nB a.fs d.fs)[b].n=f.v.2:=by rw [j,i]
  refine ⟨bE _,λE F _=>?_⟩;have:=Ku E F P R C M N (by omega) k (by rw [V];exact p) (by omega) (D.fs.alD c.fs.gf c.fs.rg (by omega)) Pc.symm e g;rw [e1,m] at this;exact this
def tI (M:AD a d) (b:QA a) (h:dE w S y vb va d) (hs:ew s (Ln.rule x).r) (C:ea w v (aI s).1):Fb (bT a (.rule x)).1 y v w:=by
 obtain ⟨K,⟨k,o,p⟩,F,N,V⟩:=Kw hs;rw [k] at C;replace C:ea w v K:=C;obtain ⟨Z,P,R⟩:=h.AQ;have c:=M.fs.len b.fs.gf.nn;have l:=b.fs.len;have j:(bT a (.rule x)).1=⟨(vU a.fs x).1,0,(vU a.fs x).2,[],0,0⟩:=rfl;rw [j];unfold vU;cases T:a.fs.find? (λf=>f.nm == x) with
 | none=>
  refine ⟨bE _,λD E _=>?_⟩;exact be D E P R C (by rw [F];decide) (by rw [F];decide) N (by omega) (by rw [V];exact g8 M.fs T)
 | some f=>
  obtain ⟨q,n,g,m,i,e⟩:=Kv M.fs b.fs.gf.nn T;refine ⟨bE _,λD E _=>?_⟩;have:=Pp D E P R C F N (by omega) m (by rw [V];exact i) (by omega);rw [e] at this;exact this
def CW (a:Ab) (l:Ln) (S:Nat->Prop) (y:Nat) (vb va:zV) (c:By) (w:zW):Prop:=
 ∃ b:Nat × De,(bT a l).1=⟨(b.1:Int),0,[],[],0,0⟩/\AD (bT a l).2 b.2/\QA (bT a l).2/\zC prog 85 #[zJ y,Q c] w (J3 S y vb va b w)
def Ua (c:AD a d) (e:QA a) (h:dE w S y vb va d):CW a .begin S y vb va [98,101,103,105,110] w:=by
 obtain ⟨C,b⟩:=c.begin;exact ⟨uQ d,by rw [C];rfl,b,e.begin,J4 h⟩
def Pz (c:AD a d) (e:QA a) (h:dE w S y vb va d):CW a .cancel S y vb va [99,97,110,99,101,108] w:=by
 obtain ⟨C,b⟩:=c.cancel;exact ⟨qK d,by rw [C];rfl,b,e.cancel,Hm h⟩
def PA (C:AD a d) (D:QA a) (h:dE w S y vb va d):CW a .kW S y vb va [99,111,109,109,105,116] w:=by
 obtain ⟨E,b⟩:=C.kW;exact ⟨qL d,by rw [E];rfl,b,D.kW,Hn h (by have:=(D.bk C).1;omega)⟩
def tJ (b:AD a d) (c:QA a) (h:dE w S y vb va d):CW a .pS S y vb va [117,110,100,111] w:=by
 obtain ⟨C,e⟩:=b.pS;exact ⟨lZ d,by rw [C];rfl,e,c.pS,O0 h (by have:=(c.bk b).2;omega)⟩
def tL (D:AD a d) (C:QA a) (h:dE w S y vb va d):CW a .pT S y vb va [114,101,100,111] w:=by
 obtain ⟨E,b⟩:=D.pT C;exact ⟨l6 d,by rw [E];rfl,b,C.pT,O1 h (by have:=(C.bk D).1;omega)⟩
variable {F w1 w2:zW} {T H P:Nat->Prop} {E:List En} {c Q6:Nat->Nat} {U i:Nat} {O R lv:zV} {V:List Bk} {Y:List Yd} {nm:List By} {c0:Nat->Nat} {Q5:zW}
structure Pl (F:zW) (U:Nat) (c:Nat->Nat) (O Z R:zV) (E:List En) (Y:List Yd) (V:List Bk) (w:zW):Prop where
 st:jH F (λq=>c q≠0) E w
 pb:mC F U c O Z R (E.map En.e) Y V w
 len:G Y=G E
 ad:∀ i (hi:i<G E) (hj:i<G Y),AD E[i].a Y[i].d/\QA E[i].a
structure Pm (F:zW) (U:Nat) (c:Nat->Nat) (O Z R:zV) (E:List En) (Y:List Yd) (V:List Bk) (lv:zV) (nm:List By) (w:zW):Prop where
 st:jH F (λq=>c q≠0) E w
 pb:mC F U c O Z R (E.map En.e) Y V w
 nl:∀ q,lv.ownBlock=A q->c q=6
 own:w.ownsRow F.heap.size 9 1 lv (G nm) (ab nm)
def tM (E:List En) (d:i<G E) (k:Nat) (a:Ab):(E.set i ⟨E[i].e,k,a⟩).map En.e=E.map En.e:=by
 rw [List.map_set];refine rC (by simp) λj c b=>?_;rw [tj];split
 .rename_i e;subst e;simp
 .rfl
def Pl.do (h:Pl F U c O Z R E Y V w) (n:Env F) (k:jZ F) (u:i<G E) (t:E[i].k+1<1000000000000) (m:ex s l) :
  zC prog 20 #[zK (A (yh (E[i].e))),Q s] w λr w1=>∃ C D c1,r=zP (zd #[J (bT E[i].a l).1.er,J (bT E[i].a l).1.at_,.string ⟨(bT E[i].a l).1.tx.toArray⟩,B C (bT E[i].a l).1.nm.length D,J (bT E[i].a l).1.kd,J (bT E[i].a l).1.nn])/\Pm F U c1 O Z R (E.set i ⟨E[i].e,E[i].k+1,(bT E[i].a l).2⟩) Y V (B C (bT E[i].a l).1.nm.length D) (bT E[i].a l).1.nm w1/\∀ q,c q=7->c1 q=7/\w1.heap[q]?=w.heap[q]?:=by
 refine (h.st.do n k u t m).m ?_;rintro r w1 ⟨C,M,D,rfl,rfl,g,f,j⟩;have e:=h.st.low.size;have d:=fJ g;refine ⟨C,D,λq=>if (B C (bT E[i].a l).1.nm.length D).ownBlock=A q then 6 else c q,rfl,⟨j.less λq a=>?_,?_,λq a=>aB a,dS g e⟩,λq a=>⟨?_,f.block q (by rw [a];decide)⟩⟩
 .by_cases b:(B C (bT E[i].a l).1.nm.length D).ownBlock=A q
  .exact zZ b
  .rw [aA b] at a;exact zR a
 .rw [tM];refine (h.pb.ks (f.ks h.st.low j.low) λq a=>rz.1 a).col (λq a _=>aA λb=>?_) λq a=>?_
  .have p:=(h.pb.lt q a).2;have o:=(d q b).1;omega
  .by_cases b:(B C (bT E[i].a l).1.nm.length D).ownBlock=A q
   .exact ⟨bf e (d q b).1,(d q b).2⟩
   .rw [aA b] at a;exact ⟨(h.pb.lt q a).1,bG (h.pb.lt q a).2 f.size⟩
 .refine (aA λb=>?_).t a;have p:=(h.pb.lt q (by rw [a];decide)).2;have o:=(d q b).1;omega
def Pm.next (h:Pm F U c O Z R E Y V lv nm w) (a:zB w w'):Pm F U c O Z R E Y V lv nm w':=⟨h.st.next a,h.pb.next a,h.nl,gZ (P:=λ_=>False) h.own (Ks.of a) λ_ _ h=>h⟩
def Pm.ed {S':Nat->Prop} {d b:zV} {d':De} (h:Pm F U c O Z R E Y V lv nm w) (g:i<G Y) (e:Ks (kz Y[i].y Y[i].vb Y[i].va) w w') (j:dE w' S' Y[i].y d b d') (m:∀ q,kz Y[i].y d b q->kz Y[i].y Y[i].vb Y[i].va q\/w.heap.size<=q) (l:∀ q,S' q->Y[i].S q\/w.heap.size<=q) :
  Pm F U (rc c (λ_=>10+i) w w') O Z R E (Y.set i ⟨S',Y[i].y,d,b,d'⟩) V lv nm w':=by
 have f:∀ q,kz Y[i].y Y[i].vb Y[i].va q->c q=10+i:=λq a=>h.pb.ce i g q (zZ a);refine ⟨h.st.to e (λq a=>by rw [f q a];omega) (λq a=>(h.pb.lt q a).1) λq a=>Ig a,h.pb.ed g e j m l,λq a=>?_,gZ h.own e λq a n=>?_⟩
 .have:=h.nl q a;rw [Bj (h.pb.lt q (by rw [this];decide)).2,this]
 .have k:=h.nl q a;rw [f q n] at k;omega
def Pm.keep (h:Pm F U c O Z R E Y V lv nm w) {r:Ending} (g:dj w U F.heap.size O Z R lv V r w'):r=zP (zp #[])/\∃ a x Q6,jH F (λq=>Q6 q≠0) E w'/\mC F U Q6 O Z a (E.map En.e) Y (V++[x]) w':=by
 obtain ⟨a,x,Q6,P,rfl,b,f,i,e⟩:=h.pb.kept h.nl g;exact ⟨rfl,a,x,Q6,h.st.to f i (λq d=>(h.pb.lt q d).1) e,b⟩
def jw (F:zW) (U m n:Nat) (w:zW):Prop:=∃ c O Z R E Y V,Pl F U c O Z R E Y V w/\G E=m/\G V<=n/\∀ i (a:i<G E),E[i].k<=n
def jw.next {m n:Nat} (h:jw F U m n w) (b:zB w w'):jw F U m n w':=by
 obtain ⟨c,O,Z,R,E,Y,V,a,d⟩:=h;exact ⟨c,O,Z,R,E,Y,V,⟨a.st.next b,a.pb.next b,a.len,a.ad⟩,d⟩
def Mq (c0:Nat->Nat) (Q5:zW) (F:zW) (U:Nat) (c:Nat->Nat) (O Z R:zV) (E:List En) (V:List Bk) (lv:zV) (nm:List By) (w w':zW):Prop:=
 Ks (λq=>c q≠0) w w'/\∃ Q6 a,Pm F U Q6 O Z R E a V lv nm w'/\G a=G E/\(∀ i (d:i<G E) (b:i<G a),AD E[i].a a[i].d/\QA E[i].a)/\∀ q,c0 q=7->Q6 q=7/\w'.heap[q]?=Q5.heap[q]?
def RT {k:Nat} {a:Ab} {u:Yd} (l:i<G E) (d:G Y=G E) (h:∀ i (l:i<G E) (c:i<G Y),AD E[i].a Y[i].d/\QA E[i].a) (f:AD a u.d) (g:QA a):∀ j (c:j<(E.set i ⟨E[i].e,k,a⟩).length) (b:j<(Y.set i u).length),AD (E.set i ⟨E[i].e,k,a⟩)[j].a (Y.set i u)[j].d/\QA (E.set i ⟨E[i].e,k,a⟩)[j].a:=by
 intro j c b;rw [tu] at c b;rw [tj,tj];by_cases e:i=j
 .rw [aB e,aB e];exact ⟨f,g⟩
 .rw [aA e,aA e];exact h j c b
def Pm.mq (e:∀ q,c0 q=7->c q=7/\w.heap[q]?=Q5.heap[q]?) {k:Nat} {a:Ab} {S':Nat->Prop} {f d:zV} {d':De} (r:i<G E) (b:G Y=G E) (l:∀ i (r:i<G E) (g:i<G Y),AD E[i].a Y[i].d/\QA E[i].a) (h:Pm F U c O Z R (E.set i ⟨E[i].e,k,a⟩) Y V lv nm w) (g:i<G Y) (v:AD a d') (u:QA a) (n:Ks (kz Y[i].y Y[i].vb Y[i].va) w w') (s:dE w' S' Y[i].y f d d') (m:∀ q,kz Y[i].y f d q->kz Y[i].y Y[i].vb Y[i].va q\/w.heap.size<=q) (t:∀ q,S' q->Y[i].S q\/w.heap.size<=q) :
  Mq c0 Q5 F U c O Z R (E.set i ⟨E[i].e,k,a⟩) V lv nm w w':=
 ⟨n.wide λq j=>by rw [h.pb.ce i g q (zZ j)];omega,_,_,h.ed g n s m t,by rw [tu,tu,b],RT r b l v u,λq j=>by
  have o:=(e q j).1;have p:=(h.pb.lt q (by rw [o];decide)).2;exact ⟨by rw [Bj p,o],(n.block q p λm=>by have x:=h.pb.ce i g q (zZ m);omega).t (e q j).2⟩⟩
def Pm.mq0 (d:∀ q,c0 q=7->c q=7/\w.heap[q]?=Q5.heap[q]?) {k:Nat} {a:Ab} (j:i<G E) (b:G Y=G E) (e:∀ i (j:i<G E) (n:i<G Y),AD E[i].a Y[i].d/\QA E[i].a) (h:Pm F U c O Z R (E.set i ⟨E[i].e,k,a⟩) Y V lv nm w) (n:i<G Y) (l:AD a Y[i].d) (m:QA a) (g:zB w w'):Mq c0 Q5 F U c O Z R (E.set i ⟨E[i].e,k,a⟩) V lv nm w w':=by
 refine ⟨Ks.of g,c,Y,h.next g,by rw [tu,b],?_,λq f=>⟨(d q f).1,(g.block q (h.pb.lt q (by rw [(d q f).1];decide)).2).t (d q f).2⟩⟩;have:=RT (k:=k) (u:=Y[i]) j b e l m;rw [List.set_getElem_self] at this;exact this
end
section
variable {F w w' W w1 w2:zW} {E:List En} {c Q5:Nat->Nat} {T i k:Nat} {U Z R lv v:zV} {V:List Bk} {Q6:List Nat} {Y:List Yd} {nm:List By} {l:Ln} {s:By} {bn:Option zD} {cn:Nat} {a:Ab} {c0:Nat->Nat} {O:zW}
def KA {Q4:Nat} (h:w.ownsRow Q4 9 1 (B bn (G nm) cn) (G nm) (ab nm)):ll w (B bn (G nm) cn) nm:=by
 by_cases b:nm=[]
 .subst b;exact zR ⟨rfl,bn,cn,rfl⟩
 .refine zZ ⟨b,?_⟩;rcases h.2 with ⟨c,f⟩|⟨g,i,e,c,m,n,a,_⟩
  .exact absurd (zE.1 f) b
  .injection c with e1 l k;subst e1 k;refine ⟨_,cn,rfl,a,λj d=>?_⟩;have:=BA h j (by rw [nL];exact d);rw [Addr.add_lit,cS,this];simp [ab,d]
def RU {Q4 n:Nat} {d:TypeId} (h:w.ownsRow Q4 d 1 v (G Q6) (CX Q6)) (c:i<G Q6):∃ g C,v=zS g (G Q6) C/\w.cell? (X g i)=A (zK (A (yh (Q6[i])))):=by
 rcases h.2 with ⟨b,f⟩|⟨g,a,e,b,_⟩
 .omega
 .subst b;refine ⟨g,a,rfl,?_⟩;rw [BA h i (by rw [nL];exact c)];simp [CX,c]
def mC.KB (h:mC F T c U Z R Q6 Y V w) (d:i<G Q6):∃ g C,U=zS g (G Q6) C/\w.cell? (yh T)=A U/\w.cell? (X g i)=A (zK (A (yh (Q6[i])))):=by
 obtain ⟨g,C,b,a⟩:=RU (n:=0) h.xs d;exact ⟨g,C,b,(bq w T 0 _ _ _ h.row).t rfl,a⟩
def mC.Fc (h:mC F T c U Z R Q6 Y V w) (d:i<G Y):∃ g C,Z=zS g (G Y) C/\w.cell? (X T 1)=A Z/\w.cell? (X g i)=A (zK (A (yh (Y[i].y)))):=by
 have a:=h.ys;have e:G Y=(Y.map Yd.y).length:=(fy ..).symm;rw [e] at a;obtain ⟨g,C,b,D⟩:=RU (n:=0) a (by rw [<- e];exact d);exact ⟨g,C,by rw [e];exact b,(bq w T 1 _ _ _ h.row).t rfl,by rw [D];simp⟩
structure za (c0:Nat->Nat) (O:zW) (F:zW) (T:Nat) (c:Nat->Nat) (U Z R:zV) (E:List En) (Y:List Yd) (V:List Bk) (i:Nat) (l:Ln) (hi:i<G E) (bn:Option zD) (cn:Nat) (w:zW):Prop where
 pm:Pm F T c U Z R (E.set i ⟨E[i].e,E[i].k+1,(bT E[i].a l).2⟩) Y V (B bn (bT E[i].a l).1.nm.length cn) (bT E[i].a l).1.nm w
 len:G Y=G E
 ad:∀ i (hi:i<G E) (hj:i<G Y),AD E[i].a Y[i].d/\QA E[i].a
 sc:∀ q,c0 q=7->c q=7/\w.heap[q]?=O.heap[q]?
def Mx (c0:Nat->Nat) (O:zW) (F:zW) (T:Nat) (c:Nat->Nat) (U Z R:zV) (E:List En) (V:List Bk) (i:Nat) (l:Ln) (a:i<G E) (bn:Option zD) (cn:Nat) (w w':zW):Prop:=Mq c0 O F T c U Z R (E.set i ⟨E[i].e,E[i].k+1,(bT E[i].a l).2⟩) V (B bn (bT E[i].a l).1.nm.length cn) (bT E[i].a l).1.nm w w'
variable {hi:i<G E}
def za.next (h:za c0 O F T c U Z R E Y V i l hi bn cn w) (b:zB w w'):za c0 O F T c U Z R E Y V i l hi bn cn w':=⟨h.pm.next b,h.len,h.ad,λq a=>⟨(h.sc q a).1,(b.block q (h.pm.pb.lt q (by rw [(h.sc q a).1];decide)).2).t (h.sc q a).2⟩⟩
def uc (h:za c0 O F T c U Z R E Y V i l hi bn cn w) (f:i<G Y) (n:tZ E[i].a Y[i].d (bT E[i].a l).1 (bT E[i].a l).2 Y[i].S Y[i].y Y[i].vb Y[i].va v w) :
  zC prog 83 #[zd #[J (bT E[i].a l).1.er,J (bT E[i].a l).1.at_,.string ⟨(bT E[i].a l).1.tx.toArray⟩,B bn (bT E[i].a l).1.nm.length cn,J (bT E[i].a l).1.kd,J (bT E[i].a l).1.nn],zK (A (yh (Y[i].y))),v] w λr w'=>r=zP (zF true)/\Mx c0 O F T c U Z R E V i l hi bn cn w w':=by
 obtain ⟨D,d,e,_,g⟩:=n;refine (g bn cn (KA h.pm.own)).m ?_;rintro r w' ⟨C,o,k,rfl,a,m,j,b⟩;exact ⟨rfl,Pm.mq h.sc hi h.len h.ad h.pm f d e m a j b⟩
def ut (h:za c0 O F T c U Z R E Y V i l hi bn cn w) (C:i<G Y) (D:(bT E[i].a l).2=E[i].a) (a:Fb (bT E[i].a l).1 Y[i].y v w) :
  zC prog 84 #[zd #[J (bT E[i].a l).1.er,J (bT E[i].a l).1.at_,.string ⟨(bT E[i].a l).1.tx.toArray⟩,B bn (bT E[i].a l).1.nm.length cn,J (bT E[i].a l).1.kd,J (bT E[i].a l).1.nn],zK (A (yh (Y[i].y))),v] w λr w'=>r=zP (zF true)/\Mx c0 O F T c U Z R E V i l hi bn cn w w':=by
 refine (a.2 bn cn (KA h.pm.own)).m ?_;rintro r w' ⟨rfl,b⟩;exact ⟨rfl,Pm.mq0 h.sc hi h.len h.ad h.pm C (by rw [D];exact (h.ad i hi C).1) (by rw [D];exact (h.ad i hi C).2) b⟩
def uI {a:By} (h:za c0 O F T c U Z R E Y V i l hi bn cn w) (j:i<G Y) (f:CW E[i].a l Y[i].S Y[i].y Y[i].vb Y[i].va a w) :
  zC prog 85 #[zK (A (yh (Y[i].y))),Q a] w λr w'=>r=zP (J (bT E[i].a l).1.er)/\Mx c0 O F T c U Z R E V i l hi bn cn w w':=by
 obtain ⟨t,d,g,e,m⟩:=f;refine m.m ?_;rintro r w' ⟨s,o,rfl,b,p,n⟩;exact ⟨by rw [d],Pm.mq h.sc hi h.len h.ad h.pm j g e p b n λq k=>zR k⟩
def vi (h:za c0 O F T c U Z R E Y V i l hi bn cn w) (C:i<G Y) (D:(bT E[i].a l).2=E[i].a):Mx c0 O F T c U Z R E V i l hi bn cn w w:=
 Pm.mq0 h.sc hi h.len h.ad h.pm C (by rw [D];exact (h.ad i hi C).1) (by rw [D];exact (h.ad i hi C).2) (aM _ _)
def Uc (h:za c0 O F T c U Z R E Y V i l hi bn cn w) (C:i<G Y) (D:(bT E[i].a l).2=ma E[i].a) (b:Y[i].d.op=false):Mx c0 O F T c U Z R E V i l hi bn cn w w:=by
 have a:=(h.ad i hi C).1.fail;rw [aA (by rw [b];simp)] at a;exact Pm.mq0 h.sc hi h.len h.ad h.pm C (by rw [D];exact a) (by rw [D];exact (h.ad i hi C).2.fail) (aM _ _)
def PE (h:za c0 O F T c U Z R E Y V i l hi bn cn w) (C:i<G Y) (D:(bT E[i].a l).2=ma E[i].a) (f:Y[i].d.op=true) :
  zC prog 82 #[zK (A (yh (Y[i].y)))] w λr w'=>r=zP (zp #[])/\Mx c0 O F T c U Z R E V i l hi bn cn w w':=by
 have b:=(h.ad i hi C).1.fail;rw [aB f] at b;refine (uP (h.pm.pb.y9 i C)).m ?_;rintro r w' ⟨rfl,d,e⟩;exact ⟨rfl,Pm.mq h.sc hi h.len h.ad h.pm C (by rw [D];exact b) (by rw [D];exact (h.ad i hi C).2.fail) e d (λq a=>zR a) λq a=>zR a⟩
def Dn (c0:Nat->Nat) (O:zW) (F:zW) (T:Nat) (U Z:zV) (E:List En) (V:List Bk) (r:Ending) (w':zW):Prop:=r=zP (zF true)/\∃ Q5 a b x,Pl F T Q5 U Z a E b (V++[x]) w'/\∀ q,c0 q=7->w'.heap[q]?=O.heap[q]?
def oB (g:Mx c0 O F T c U Z R E V i l hi bn cn w1 w) (v:G V<=9000000) (u:(bT E[i].a l).1.nm.length<=1000):∀ W,zB w W->zC prog 86 #[zK (A (X T 2)),B bn (bT E[i].a l).1.nm.length cn] W λr w'=>r=zP (zp #[])/\Dn c0 O F T U Z (E.set i ⟨E[i].e,E[i].k+1,(bT E[i].a l).2⟩) V (zP (zF true)) w':=by
 intro W n;obtain ⟨_,Q5,s,h,k,o,p⟩:=g;have a:=h.next n;refine (sn a.pb.row a.pb.K v a.own u a.st.low.size (λq g=>⟨λe=>?_,λe=>?_⟩) λe=>?_).m ?_
 .have b:=a.nl q g;rw [e,a.pb.cw] at b;cases b
 .have b:=a.nl q g;rw [a.pb.ct q e] at b;cases b
 .have b:=a.pb.ct T e;rw [a.pb.cw] at b;cases b
 .intro r w' d;obtain ⟨b,m,x,c2,t,C⟩:=a.keep d;refine ⟨b,rfl,c2,m,s,x,⟨t,C,k,o⟩,λq g=>?_⟩;obtain ⟨_,_,_,z,_⟩:=d;obtain ⟨f,y⟩:=p q g;have j:=(h.pb.lt q (by rw [f];decide)).2;refine (z.block q (bG j n.size) λd=>?_).t ((n.block q j).t y);rcases d with rfl|d|d
  .rw [a.pb.cw] at f;cases f
  .rw [a.nl q d] at f;cases f
  .rw [a.pb.ct q d] at f;cases f
end
section
attribute [local go_sem] ap aq
variable {F w w' W w1 w2:zW} {E:List En} {c R:Nat->Nat} {T i k:Nat} {U Z O lv v:zV} {V:List Bk} {Q6:List Nat} {Y:List Yd} {nm:List By} {l:Ln} {s:By} {bn:Option zD} {cn:Nat} {a:Ab}
structure Dc (F:zW) (T:Nat) (c:Nat->Nat) (U Z O:zV) (E:List En) (Y:List Yd) (V:List Bk) (i:Nat) (hi:i<G E) (s:By) (l:Ln) (w:zW):Prop where
 pl:Pl F T c U Z O E Y V w
 env:Env F
 al0:jZ F
 k:E[i].k+1<1000000000000
 e3:G E<=3
 ln:ex s l
 lp:ew s l.r
 bs9:G V<=9000000
variable {hi:i<G E}
def Dc.mid (h:Dc F T c U Z O E Y V i hi s l w):zC prog 20 #[zK (A (yh (E[i].e))),Q s] w λr w1=>∃ bn cn c1,r=zP (zd #[J (bT E[i].a l).1.er,J (bT E[i].a l).1.at_,.string ⟨(bT E[i].a l).1.tx.toArray⟩,B bn (bT E[i].a l).1.nm.length cn,J (bT E[i].a l).1.kd,J (bT E[i].a l).1.nn])/\za c w F T c1 U Z O E Y V i l hi bn cn w1:=by
 refine (h.pl.do h.env h.al0 hi h.k h.ln).m ?_;rintro r w1 ⟨bn,cn,c1,rfl,a,b⟩;exact ⟨bn,cn,c1,rfl,a,h.pl.len,h.pl.ad,b⟩
def Mx.row {c0:Nat->Nat} {f:zW} {o:Obj} (h:Mx c0 f F T c U Z O E V i l hi bn cn w w') (d:zB w1 w) {q:Nat} (b:w1.heap[q]?=A o) (e:c q=0):w'.heap[q]?=A o:=by
 have a:=(cz.1 b).1;exact (h.1.block q (bG a d.size) λh=>h e).t ((d.block q a).t b)
def ub {er at_ kd nn:Int} {tx:By} {ln:Nat} (a:Below (w.alloc (fp er at_ tx bn ln cn kd nn)).heap.size (w.alloc (fp er at_ tx bn ln cn kd nn)) w1):w1.heap[w.heap.size]?=A (zM #[J er,J at_,Q tx,B bn ln cn,J kd,J nn] 39 (0,0)):=
 (a.block w.heap.size (by simp)).t (by simp only [fp,World.alloc,yi])
def zb {b:Int} {f:List By} {t:Option Pt} (hs:ew s (.ok b f t)):zC prog 36 #[Q s] w λe w'=>∃ a l c,e=zP (zp #[B a l c,J 0,J 0,Q (ik b)])/\zB w w'/\ea w' (B a l c) (aI s).1:=by
 refine (yE hs).m ?_;rintro e w' ⟨C,g,h,j⟩;have d:=(j b f t rfl).1;obtain ⟨a,i,o,rfl,_⟩:=id d;exact ⟨_,_,_,g,h,d⟩
def wX {q:By} (h:Dc F T c U Z O E Y V i hi s l w) {u:Int} {ns:List By} {t:Option Pt} (M:l.r=.ok u ns t) (k:ik u=q) (hw:q=[115,101,116]\/q=[100,101,108,101,116,101]\/q=[114,101,110,97,109,101])
  (QV:∀ (d:i<G Y) W v,dE W Y[i].S Y[i].y Y[i].vb Y[i].va Y[i].d->ea W v (aI s).1->tZ E[i].a Y[i].d (bT E[i].a l).1 (bT E[i].a l).2 Y[i].S Y[i].y Y[i].vb Y[i].va v W) :
  zC prog 56 #[zJ T,J i,Q s] w (Dn c w F T U Z (E.set i ⟨E[i].e,E[i].k+1,(bT E[i].a l).2⟩) V):=by
 have d:i<G Y:=(by rw [h.pl.len];exact hi);have hX:i<(E.map En.e).length:=(by rw [fy];exact hi);obtain ⟨gx,px,z,x0,R⟩:=h.pl.pb.KB hX;rw [kJ] at R;rw [fy] at z;have Tw:(i:Int)<(G E:Int):=iD.2 hi;have Q6:(0:Int)<=(i:Int):=mF _;have HD:(i:Int)<(G Y:Int):=iD.2 d;have y:=I h.mid;have H:=I (λW=>zb (w:=W) (M▸h.lp));rw [k] at H;have K:=I (QV d);have x:=I h.bs9;subst z;clear h M QV k;rcases hw with rfl|rfl|rfl
 all_goals
  go_in;go_wp2_with (go_at_call 20;refine mo y.o ?_;rintro e w1 ⟨bn,cn,c1,rfl,p⟩);obtain ⟨gy,py,rfl,C,N⟩:=p.pm.pb.Fc d;have Q4:∃ o,o=fp (bT E[i].a l).1.er (bT E[i].a l).1.at_ (bT E[i].a l).1.tx bn (bT E[i].a l).1.nm.length cn (bT E[i].a l).1.kd (bT E[i].a l).1.nn:=⟨_,rfl⟩;obtain ⟨o,P⟩:=Q4;have b:=eE o C;have a:=eE o N;rw [P] at b a;simp only [fp] at b a;have HM:=I p;have g:c1 w1.heap.size=0:=rz.1 λh=>iC _ (p.pm.pb.lt _ h).2;have Q5:=I g;clear p C N g P;apply I;go_wp2_with (go_at_call 36;refine mo (H.o _) ?_;rintro e w2 ⟨va,vl,vc,rfl,D,r⟩;have j:=I D;have L:=I r;clear D r);have f:=I ((HM.o.next (bI _ _)).next j.o);have m:=I (ub (w:=w1) j.o);obtain ⟨⟨r0,r1,r2,r3,r4,r5⟩,-⟩:=eC m.o;have Q0:Hid ((bT E[i].a l).1.nm.length<=1000):=I (by obtain ⟨_,_,_,hn,_⟩:=K.o _ _ (f.o.pm.pb.y9 i d) L.o;exact hn);have QT:=I (uc f.o d (K.o _ _ (f.o.pm.pb.y9 i d) L.o));clear b a;apply I;go_wp2_with (go_at_call 83;refine mo QT.o ?_;rintro e w3 ⟨rfl,n⟩;have S:=I n;clear n);obtain ⟨⟨-,-,-,s3,-,-⟩,-⟩:=eC (S.o.row (aM _ _) m.o Q5.o);have HK:=I (oB S.o x.o Q0.o);clear r0 r1 r2 r3 r4 r5;apply I;go_wp2_with fail
  go_region_with (first|(go_at_call 86;(with_reducible refine (HK.o _ (aM _ _).drew).m ?_);rintro e w4 ⟨rfl,n⟩;have HB:=I n;clear n))
  go_wp2_with fail;go_ret;exact HB.o
end
section
attribute [local go_sem] ap aq
variable {F w w' W w1 w2:zW} {E:List En} {c R:Nat->Nat} {T i k:Nat} {O Z U lv v:zV} {V:List Bk} {Q6:List Nat} {Y:List Yd} {nm:List By} {l:Ln} {s:By} {bn:Option zD} {cn:Nat} {a:Ab} {hi:i<G E}
def Ue {a:Int} (h:rT a=false):(ik a == [115,101,116])=false/\(ik a == [100,101,108,101,116,101])=false/\(ik a == [114,101,110,97,109,101])=false:=by
 have b:∀ x∈aQ,rT x.2.1=false->(x.1 == [115,101,116])=false/\(x.1 == [100,101,108,101,116,101])=false/\(x.1 == [114,101,110,97,109,101])=false:=(by decide);unfold ik;split
 .rename_i x c;have d:=vK c;have e:x.2.1=a:=by simpa using wA c
  exact b x d (by rw [e];exact h)
 .decide
def PF {a:Int} (h:rT a=true):ik a=[115,101,116]\/ik a=[100,101,108,101,116,101]\/ik a=[114,101,110,97,109,101]:=by
 unfold rT at h;simp only [rE,beq_iff_eq] at h;rcases h with rfl|rfl|rfl
 .exact zR (by decide)
 .exact zZ (zR (by decide))
 .exact zZ (zZ (by decide))
def PG {y:By} {b er:Int} {p:Nat} (h:Dc F T c O Z U E Y V i hi s (.err b er p) w) (he:er≠0) (vt:ik b=y) (hw:y=[115,101,116]\/y=[100,101,108,101,116,101]\/y=[114,101,110,97,109,101]) (ha:(bT E[i].a (.err b er p)).2=ma E[i].a) :
  zC prog 56 #[zJ T,J i,Q s] w (Dn c w F T O Z (E.set i ⟨E[i].e,E[i].k+1,(bT E[i].a (.err b er p)).2⟩) V):=by
 have u:i<G Y:=(by rw [h.pl.len];exact hi);have hX:i<(E.map En.e).length:=(by rw [fy];exact hi);obtain ⟨D,M,H,x0,x1⟩:=h.pl.pb.KB hX;rw [kJ] at x1;rw [fy] at H;have Tw:(i:Int)<(G E:Int):=iD.2 hi;have Ud:(0:Int)<=(i:Int):=mF _;have ac:(i:Int)<(G Y:Int):=iD.2 u;have HD:Hid (zC prog 20 #[zK (A (yh (E[i].e))),Q s] w λr w1=>∃ bn cn c1,r=zP (zd #[J er,J p,Q [],B bn 0 cn,J 0,J 0])/\za c w F T c1 (zS D (G E) M) Z U E Y V i (.err b er p) hi bn cn w1):=I ((H▸h.mid).m λr w1 K=>by
  obtain ⟨bn,cn,c1,rfl,n⟩:=K;exact ⟨bn,cn,c1,rfl,n⟩)
 have N:Hid ((bT E[i].a (.err b er p)).1.nm.length<=1000):=I (bE _);have HL:Hid (∀ W,zC prog 36 #[Q s] W λe w'=>∃ C,e=zP (zp #[C,J er,J p,Q y])/\zB W w'):=I λW=>(by
   subst vt;exact (yE (w:=W) h.lp).m λe w' K=>by
    obtain ⟨C,h1,h2,_⟩:=K;exact ⟨C,h1,h2⟩);have aa:(er == 0)=false:=bo.2 he;have q:=I h.bs9;subst H;clear h;have L:=I ha;clear ha vt;rcases hw with rfl|rfl|rfl
 all_goals
  go_in;go_wp2_with (go_at_call 20;refine mo HD.o ?_;rintro e w1 ⟨bn,cn,c1,rfl,n⟩);obtain ⟨x,P,rfl,t,y1⟩:=n.pm.pb.Fc u;have Q0:∃ o,o=fp er (p:Int) [] bn 0 cn 0 0:=⟨_,rfl⟩;obtain ⟨o,Q6⟩:=Q0;have l:=eE o t;have g:=eE o y1;rw [Q6] at l g;simp only [fp] at l g;have HM:=I n;have QT:c1 w1.heap.size=0:=rz.1 λh=>iC _ (n.pm.pb.lt _ h).2;have QV:=I QT;clear n t y1 QT Q6;apply I;go_wp2_with (go_at_call 36;refine mo (HL.o _) ?_;rintro e w2 ⟨C,rfl,v⟩;have hr:=I v;clear v);have Q4:=I ((HM.o.next (bI _ _)).next hr.o);have k:=I (ub (w:=w1) hr.o);obtain ⟨⟨r0,R,r2,r3,r4,r5⟩,-⟩:=eC k.o;clear l g;apply I;go_wp2_with (go_at_call 81;refine mo (xT _ _ _ _) ?_;rintro e w3 ⟨rfl,v⟩;have HA:=I v;clear v);have j:=I (Q4.o.next HA.o);have d:=I ((HA.o.block _ (cz.1 k.o).1).t k.o);obtain ⟨vf,vs,-,S,-⟩:=(j.o.pm.pb.y9 i u).cells;cases a:Y[i].d.op with
  | true=>
   rw [a] at S;have Q5:=I (PE j.o u L.o a);clear r0 R r2 r3 r4 r5;apply I;go_wp2_with (go_at_call 82;refine mo Q5.o ?_;rintro e w4 ⟨rfl,f⟩;have z:=I f;clear f);obtain ⟨⟨-,-,-,s3,-,-⟩,-⟩:=eC (z.o.row (aM _ _) d.o QV.o);have m:=I (oB z.o q.o N.o);replace m:Hid (∀ W,zB w4 W->zC prog 86 #[zK (A (X T 2)),B bn 0 cn] W λr w'=>r=zP (zp #[])/\Dn c w F T (zS D (G E) M) (zS x (G Y) P) (E.set i ⟨E[i].e,E[i].k+1,(bT E[i].a (.err b er p)).2⟩) V (zP (zF true)) w'):=m;apply I;go_wp2_with fail
   go_region_with (first|(go_at_call 86;(with_reducible refine (m.o _ (aM _ _).drew).m ?_);rintro e w4 ⟨rfl,f⟩;have HB:=I f;clear f))
   go_wp2_with fail;go_ret;exact HB.o
  | false=>
   rw [a] at S;have z:=I (Uc j.o u L.o a);obtain ⟨⟨-,-,-,s3,-,-⟩,-⟩:=eC d.o;clear r0 R r2 r3 r4 r5;have m:=I (oB z.o q.o N.o);replace m:Hid (∀ W,zB w3 W->zC prog 86 #[zK (A (X T 2)),B bn 0 cn] W λr w'=>r=zP (zp #[])/\Dn c w F T (zS D (G E) M) (zS x (G Y) P) (E.set i ⟨E[i].e,E[i].k+1,(bT E[i].a (.err b er p)).2⟩) V (zP (zF true)) w'):=m;apply I;go_wp2_with fail
   go_region_with (first|(go_at_call 86;(with_reducible refine (m.o _ (aM _ _).drew).m ?_);rintro e w5 ⟨rfl,f⟩;have gy:=I f;clear f))
   go_wp2_with fail;go_ret;exact gy.o
def PH {q:By} {b er:Int} {p:Nat} (h:Dc F T c O Z U E Y V i hi s (.err b er p) w) (he:er≠0) (t:ik b=q) (n1:(q == [115,101,116])=false) (n2:(q == [100,101,108,101,116,101])=false) (n3:(q == [114,101,110,97,109,101])=false) (L:(bT E[i].a (.err b er p)).2=E[i].a) :
  zC prog 56 #[zJ T,J i,Q s] w (Dn c w F T O Z (E.set i ⟨E[i].e,E[i].k+1,(bT E[i].a (.err b er p)).2⟩) V):=by
 have z:i<G Y:=(by rw [h.pl.len];exact hi);have hX:i<(E.map En.e).length:=(by rw [fy];exact hi);obtain ⟨D,S,y,x0,vt⟩:=h.pl.pb.KB hX;rw [kJ] at vt;rw [fy] at y;have Q6:(i:Int)<(G E:Int):=iD.2 hi;have Q5:(0:Int)<=(i:Int):=mF _;have ac:(i:Int)<(G Y:Int):=iD.2 z;have HD:Hid (zC prog 20 #[zK (A (yh (E[i].e))),Q s] w λr w1=>∃ bn cn c1,r=zP (zd #[J er,J p,Q [],B bn 0 cn,J 0,J 0])/\za c w F T c1 (zS D (G E) S) Z U E Y V i (.err b er p) hi bn cn w1):=I ((y▸h.mid).m λr w1 N=>by
  obtain ⟨bn,cn,c1,rfl,g⟩:=N;exact ⟨bn,cn,c1,rfl,g⟩)
 have Q0:Hid ((bT E[i].a (.err b er p)).1.nm.length<=1000):=I (bE _);have Q4:Hid (∀ W,zC prog 36 #[Q s] W λe w'=>∃ K,e=zP (zp #[K,J er,J p,Q q])/\zB W w'):=I λW=>(by
   subst t;exact (yE (w:=W) h.lp).m λe w' N=>by
    obtain ⟨K,h1,h2,_⟩:=N;exact ⟨K,h1,h2⟩);have R:(er == 0)=false:=bo.2 he;have x:=I h.bs9;subst y;clear h;have u:=I L;clear L t;go_in;go_wp2_with (go_at_call 20;refine mo HD.o ?_;rintro e w1 ⟨bn,cn,c1,rfl,g⟩);obtain ⟨gy,hr,rfl,P,H⟩:=g.pm.pb.Fc z;have QV:∃ o,o=fp er (p:Int) [] bn 0 cn 0 0:=⟨_,rfl⟩;obtain ⟨o,C⟩:=QV;have f:=eE o P;have a:=eE o H;rw [C] at f a;simp only [fp] at f a;have HM:=I g;have j:c1 w1.heap.size=0:=rz.1 λh=>iC _ (g.pm.pb.lt _ h).2;have aa:=I j;clear g P H j C;apply I;go_wp2_with (go_at_call 36;refine mo (Q4.o _) ?_;rintro e w2 ⟨K,rfl,l⟩;have k:=I l;clear l);have v:=I ((HM.o.next (bI _ _)).next k.o);have d:=I (ub (w:=w1) k.o);obtain ⟨⟨r0,r1,r2,r3,r4,r5⟩,-⟩:=eC d.o;clear f a;apply I;go_wp2_with (go_at_call 81;refine mo (xT _ _ _ _) ?_;rintro e w3 ⟨rfl,l⟩;have n:=I l;clear l);have HA:=I (v.o.next n.o);have QT:=I ((n.o.block _ (cz.1 d.o).1).t d.o);have HQ:=I (vi HA.o z u.o);obtain ⟨⟨-,-,-,s3,-,-⟩,-⟩:=eC QT.o;have M:=I (oB HQ.o x.o Q0.o);replace M:Hid (∀ W,zB w3 W->zC prog 86 #[zK (A (X T 2)),B bn 0 cn] W λr w'=>r=zP (zp #[])/\Dn c w F T (zS D (G E) S) (zS gy (G Y) hr) (E.set i ⟨E[i].e,E[i].k+1,(bT E[i].a (.err b er p)).2⟩) V (zP (zF true)) w'):=M;clear r0 r1 r2 r3 r4 r5;apply I;go_wp2_with fail
 go_region_with (first|(go_at_call 86;(with_reducible refine (M.o _ (aM _ _).drew).m ?_);rintro e w4 ⟨rfl,m⟩;have HB:=I m;clear m))
 go_wp2_with fail;go_ret;exact HB.o
end
section
variable {F w w' W w1 w2 w3:zW} {T k m n y e M:Nat} {s:By} {E H:List En} {c:Nat->Nat} {Q5 O R U Z:zV} {Q6:List Nat} {Y:List Yd} {V:List Bk}
structure RwA (w1:zW) (T Q4:Nat) (ty:TypeId) (v v':zV) (Q6:List Nat) (row:Array zV) (wf:zW):Prop where
 ks:Ks (λq=>q=T\/v.ownBlock=A q) w1 wf
 own:wf.ownsRow Q4 ty 1 v' (G Q6) (CX Q6)
 row:wf.heap[T]?=A (zM row 72 (0,0))
 at_:∀ q,v'.ownBlock=A q->v.ownBlock=A q\/w1.heap.size<=q
def hH {Q4 g a j e:Nat} {r:TypeId} {v:zV} {cs:Array zV} {t w2:zW} (b:w1.heap[T]?=A (zM cs 72 (0,0))) (l:zB w1 t) (s:v.ownBlock≠A T) (x:G Q6=n) (w:w2.ownsRow Q4 r 1 (zS g (n+1) a) (n+1) (CX Q6++[zJ e])) (c:t.grownBy w2 v.ownBlock) (f:v.ownBlock=A g\/w1.heap.size<=g) :
  RwA w1 T Q4 r v (zS g (n+1) a) (Q6++[e]) (cs.setIfInBounds j (zS g (n+1) a)) (w2.setCell (X T j) (zS g (n+1) a)):=by
 have d:=(cz.1 b).1;have p:T≠g:=λe=>by
  subst e;rcases f with h|h
  .exact s h
  .omega
 have o:Ks (λq=>q=T\/v.ownBlock=A q) w1 w2:=(Ks.of l).t ⟨c.os,c.tape,c.output,c.size,λk o u=>c.block k o λe=>u (zZ e.symm)⟩;have i:w2.heap[T]?=A (zM cs 72 (0,0)):=(c.block T (bG d l.size) λe=>s e.symm).t ((l.block T d).t b);refine ⟨o.set T j _ (zR rfl),?_,aj i j _,λq m=>?_⟩
 .rw [b6,x];have e1:CX (Q6++[e])=CX Q6++[zJ e]:=by simp [CX]
  rw [e1];exact gZ (P:=λq=>q=T) w ((Ks.refl _ _).set T j _ rfl) λq m e=>by cases m;exact p e.symm
 .cases m;exact f
def es (M:Nat):De:=⟨[],[],[],M,false,[]⟩
def vj (h:w.heap[y]?=A (zM #[zN,zN,zN,J M,zF false,zN] 114 (0,0))) (a:M<=6):dE w (λ_=>False) y (zN) (zN) (es M):=
 ⟨⟨_,_,h,⟨jS,Bf⟩,jS,Bf⟩,pE.nil,pE.nil,a,⟨bE _,bE _⟩,λ_ h=>h.elim,⟨(λe=>by cases e),(λe=>by cases e)⟩,(λ_ e=>by cases e),λ_ h=>h.elim⟩
def Ff (M y:Nat):Yd:=⟨λ_=>False,y,zN,zN,es M⟩
def vm (M:Nat):AD ⟨M,[],[],[],none⟩ (es M):=⟨DR.nil,.nil,.nil,rfl,rfl,λ_ e=>by cases e⟩
def mC.more (h:mC F T c Q5 O R Q6 Y V w1) (s:jH F (λq=>c q≠0) H w1) (n:RwA w1 T F.heap.size 34 Q5 U (Q6++[e]) #[U,O,R] w2) (m:RwA w2 T F.heap.size 110 O Z (Y.map Yd.y++[y]) #[U,Z,R] w3) (hy:w2.heap.size<=y)
  (u:w3.heap[y]?=A (zM #[zN,zN,zN,J M,zF false,zN] 114 (0,0))) (C:Z.ownBlock≠A y) (hM:M<=6):∃ o,jH F (λq=>o q≠0) H w3/\mC F T o U Z R (Q6++[e]) (Y++[Ff M y]) V w3:=by
 have Q0:=n.ks.size;have QT:=m.ks.size;have ei:=s.low.size;have w:=(cz.1 u).1;have d:=fJ n.own;have hq:=fJ m.own;have v:Ks (λq=>q=T\/Q5.ownBlock=A q\/O.ownBlock=A q) w1 w3:=(n.ks.wide λq K=>K.imp id zR).t (m.ks.wide λq K=>K.imp id zZ);have E:∀ {q k},k≠1->k≠2->k≠3->c q=k->¬ (q=T\/Q5.ownBlock=A q\/O.ownBlock=A q):=λP W k3 e g=>by
  rcases g with rfl|g|g
  .rw [h.cw] at e;exact P e.symm
  .rw [h.cx _ g] at e;exact W e.symm
  .rw [h.cy _ g] at e;exact k3 e.symm
 let o:Nat->Nat:=λq=>if q<w1.heap.size then c q else if q<w3.heap.size then (if U.ownBlock=A q then 2 else if Z.ownBlock=A q then 3 else if q=y then 10+(G Y) else 0) else 0
 have b:∀ q,o q=if q<w1.heap.size then c q else if q<w3.heap.size then (if U.ownBlock=A q then 2 else if Z.ownBlock=A q then 3 else if q=y then 10+(G Y) else 0) else 0:=λq=>rfl
 have p:∀ {q k},k≠0->c q=k->o q=k:=λS e=>by
  rw [b,aB (h.lt _ (by rw [e];exact S)).2,e]
 have r:∀ q,o q≠0->c q≠0\/(w1.heap.size<=q/\q<w3.heap.size):=λq K=>by
  rw [b] at K;split at K
  .exact zR K
  .split at K
   .exact zZ ⟨by omega,by assumption⟩
   .exact absurd rfl K
 have x:∀ q,U.ownBlock=A q->Z.ownBlock≠A q:=λq l D=>by
  rcases m.at_ q D with a|a
  .have j:=h.cy q a;rcases n.at_ q l with L|L
   .rw [h.cx q L] at j;cases j
   .have:=(h.lt q (by rw [j];decide)).2;omega
  .have:=(d q l).2;omega
 refine ⟨o,s.to v (λq K=>?_) (λq K=>(h.lt q K).1) r,⟨m.row,p (by decide) h.cw,gZ n.own m.ks λq K g=>?_,?_,gZ h.K v λq K=>E (by decide) (by decide) (by decide) (h.ct q K),λq K=>?_,λq K=>?_,λq K=>p (by decide) (h.ct q K),λQ4 l=>((h.bk Q4 l).ks v λq K=>E (by decide) (by decide) (by decide) K).wide λq K=>p (by decide) K,λi t=>?_,λi t q K=>?_,λq K=>?_⟩⟩
 .rcases K with rfl|K|K
  .rw [h.cw];decide
  .rw [h.cx q K];decide
  .rw [h.cy q K];decide
 .have a:c q=2\/w1.heap.size<=q:=(n.at_ q K).imp (h.cx q) id;rcases g with rfl|g
  .have j:=h.lt q (by rw [h.cw];decide);rcases a with a|a
   .rw [h.cw] at a;cases a
   .omega
  .have j:=h.cy q g;have L:=h.lt q (by rw [j];decide);rcases a with a|a
   .rw [j] at a;cases a
   .omega
 .have e1:(Y++[Ff M y]).map Yd.y=Y.map Yd.y++[y]:=by simp [Ff]
  have N:(Y++[Ff M y]).length=(Y.map Yd.y++[y]).length:=(by simp);rw [e1,N];exact m.own
 .rcases n.at_ q K with a|a
  .exact p (by decide) (h.cx q a)
  .have j:=(d q K).2;rw [b,aA (by omega),aB (by omega),aB K]
 .rcases m.at_ q K with a|a
  .exact p (by decide) (h.cy q a)
  .have j:=(hq q K).2;rw [b,aA (by omega),aB (by omega),aA (λl=>x q l K),aB K]
 .rw [yq];split
  .rename_i f;exact h.Bi v f λq K e=>E (by omega) (by omega) (by omega) e K
  .simp only [List.getElem_singleton];exact vj u hM
 .rw [yq] at K;split at K
  .rename_i f;exact p (by omega) (h.ce i f q K)
  .rename_i f;have z:i=G Y:=by rw [b6] at t;simp at t;omega
   simp only [List.getElem_singleton] at K;have QV:q=y:=by
    rcases K with K|K|K|K
    .exact K.elim
    .exact K
    .cases K
    .cases K
   subst QV;rw [b,aA (by omega),aB w,aA (λl=>by have:=(d q l).2;omega),aA C,aB rfl,z]
 .rcases r q K with a|a
  .exact ⟨(h.lt q a).1,by have:=(h.lt q a).2;omega⟩
  .exact ⟨by omega,a.2⟩
end
section
attribute [local go_sem] ap aq
variable {F w w' W w1 w2:zW} {T k m n:Nat} {s:By} {E:List En} {c:Nat->Nat} {O U Z:zV} {Q6:List Nat} {Y:List Yd} {V:List Bk}
def vB:(prog.info? 34).map (λi=>(i.zero,i.size,i.bytes))=A (A (zK none),1,8):=by kernel_rfl
def vC:(prog.info? 110).map (λi=>(i.zero,i.size,i.bytes))=A (A (zK none),1,8):=by kernel_rfl
def vM (u:Int) (h:u<0\/6<u) (w:zW):zC prog 45 #[J u] w λr w'=>r=zP (zp #[zK none,J 12])/\w'=w:=by
 rcases h with h|h
 .go_in;go_wp2_with fail;go_ret2;exact ⟨rfl,rfl⟩
 .have a:¬ u<0:=(by omega);go_in;go_wp2_with fail;go_ret2;exact ⟨rfl,rfl⟩
def Ug (u:Int) (h:u<0\/6<u) (w:zW):zC prog 35 #[zJ T,J u] w λr w'=>r=zP (zF true)/\w'=w:=by
 have C:=I (vM u h w);rcases h with h|h
 .go_in;go_wp2_with (go_at_call 45;refine C.o.m ?_;rintro e w1 ⟨rfl,rfl⟩);go_ret;exact ⟨rfl,rfl⟩
 .have a:¬ u<0:=(by omega);go_in;go_wp2_with (go_at_call 45;refine C.o.m ?_;rintro e w1 ⟨rfl,rfl⟩);go_ret;exact ⟨rfl,rfl⟩
def vN (F:zW) (T M:Nat) (Z:zV) (E:List En) (Y:List Yd) (V:List Bk) (r:Ending) (w':zW):Prop:=r=zP (zF true)/\∃ c a b e y,jH F (λq=>c q≠0) (E++[⟨e,0,⟨M,[],[],[],none⟩⟩]) w'/\mC F T c a b Z (E.map En.e++[e]) (Y++[Ff M y]) V w'
def vO (h:Pl F T c O U Z E Y V w) (M:Nat) (hM:M<=6) (h3:G E<3):zC prog 35 #[zJ T,J M] w (vN F T M Z E Y V):=by
 have HN:=I (h.st.new M hM);have a9:¬ (M:Int)<0:=(by omega);have ba:¬ 6<(M:Int):=(by omega);have a8:(G E:Int)<3:=(by omega);have P:=I h;clear h;go_in;go_wp2_with (go_at_call 45;refine mo HN.o ?_;rintro bj w1 ⟨e,rfl,ac,x⟩);have b:=I (P.o.pb.ks (ac.ks P.o.st.low x.low) λq s=>rz.1 s);have W:=I x;obtain ⟨H,N,D,rfl⟩:∃ a l c,O=B a l c:=(by rcases P.o.pb.xs.2 with ⟨K,_⟩|⟨B6,hp,x0,K,_⟩<;>exact ⟨_,_,_,K⟩);have r:w1.cell? (yh T)=A (B H N D):=(bq w1 T 0 _ _ _ b.o.row).t rfl;have y0:w1.cell? (X T 1)=A U:=(bq w1 T 1 _ _ _ b.o.row).t rfl;have JL:(N:Int)<3:=by
  rcases P.o.pb.xs.2 with ⟨K,h2⟩|⟨B6,hp,x0,K,_⟩
  .injection K with _ e2 _;omega
  .injection K with _ e2 _;rw [fy] at e2;omega
 clear ac x;obtain ⟨i0,hi,aJ,a0,a1⟩:=fe vB;have ao:Hid (w1.ownsRow F.heap.size 34 1 (B H N D) (G E) (CX (E.map En.e))):=I (by have:=b.o.xs;rw [fy] at this;exact this);have QV:Hid (F.heap.size<=w1.heap.size):=I W.o.low.size;have B5:Hid (G E+1<=maxLen/\(G E+1)*8<=140737488355328):=I (by unfold maxLen;omega);have am:w1.frozen? (X T 1)=false:=bF b.o.row 1;have al:w1.frozen? (yh T)=false:=bF b.o.row 0;have i:T<w1.heap.size:=(cz.1 b.o.row).1;have ay:¬ T=w1.heap.size:=cZ i;have bb:¬ w1.heap.size=T:=λe=>ay e.symm;have h1:Hid (A T≠(B H N D).ownBlock):=I λe=>by have K:=b.o.cx T e.symm;rw [b.o.cw] at K;cases K
 have HW:Hid ((B H N D).ownBlock≠A T):=I λe=>h1.o e.symm;apply I;go_wp2_with (at_builtin;refine rq _ rfl (.tmp 43) (.tmp 45) 66 rfl F.heap.size 34 i0 (zK none) 1 8 underlying66 hi aJ a0 a1 rfl (by decide) (B H N D) (G E) _ rfl (ao.o.alloc _) (yh w1.heap.size) 1 1 [zJ e] rfl rfl (λq u s=>bC w1 _ 34 q u s) (λu L=>by simp at L;rw [L];rfl) (by decide) B5.o.1 B5.o.2 (bf QV.o (by simp)) (w1.heap.size+1) (by simp) ?_;intro t d w2 ag f aa vQ;have o:=(f.block T (bG i (bI w1 _).size) h1.o).t ((bI w1 _).block T i);have r:=(aS o 0).t r;have al:=(qJ o 0).t al;have y0:=(aS o 1).t y0;have am:=(qJ o 1).t am;have B1:=I ag;have B2:=I f;have B3:=I aa;clear ag f aa o;apply Hid.o);obtain ⟨C,R,S,rfl⟩:∃ a l c,U=B a l c:=by
  rcases P.o.pb.ys.2 with ⟨K,_⟩|⟨B6,hp,x0,K,_⟩<;>exact ⟨_,_,_,K⟩
 have ad:T<w2.heap.size:=(gI w2 (yh T) r);have au:¬ T=w2.heap.size:=cZ ad;have av:¬ w2.heap.size=T:=λe=>au e.symm;have k:Hid (RwA w1 T F.heap.size 34 (B H N D) (zS t (G E+1) d) (E.map En.e++[e]) #[zS t (G E+1) d,B C R S,Z] (w2.setCell (yh T) (zS t (G E+1) d))):=I (hH (j:=0) b.o.row (bI _ _) HW.o (fy ..) B1.o B2.o (B3.o.imp id λe=>by omega));have HX:Hid ((w2.setCell (yh T) (zS t (G E+1) d)).ownsRow F.heap.size 110 1 (B C R S) (G Y) (CX (Y.map Yd.y))):=I (gZ b.o.ys k.o.ks λq s p=>by
  have K:=b.o.cy q s;rcases p with rfl|p
  .rw [b.o.cw] at K;cases K
  .rw [b.o.cx q p] at K;cases K)
 have Q6:Hid (A T≠(B C R S).ownBlock):=I λe=>by have K:=b.o.cy T e.symm;rw [b.o.cw] at K;cases K
 have Q0:Hid (G Y+1<=maxLen/\(G Y+1)*8<=140737488355328):=I (by have:=P.o.len;unfold maxLen;omega);have OX:Hid (F.heap.size<=w2.heap.size):=I (bf QV.o (by have:=k.o.ks.size;simpa using this));obtain ⟨j0,ji,a2,a3,a4⟩:=fe vC;have QT:(w2.setCell (yh T) (zS t (G E+1) d)).cell? (X T 1)=A (B C R S):=(bq _ T 1 _ _ _ k.o.row).t rfl;have Q5:(w2.setCell (yh T) (zS t (G E+1) d)).frozen? (X T 1)=false:=bF k.o.row 1;have an:Hid (T<(w2.setCell (yh T) (zS t (G E+1) d)).heap.size):=I (by simpa using ad);apply I;go_wp2_with (at_builtin;refine rq _ rfl (.tmp 53) (.tmp 57) 67 rfl F.heap.size 110 j0 (zK none) 1 8 underlying67 ji a2 a3 a4 rfl (by decide) (B C R S) (G Y) _ rfl ((HX.o.alloc _).alloc _) (yh (w2.heap.size+1)) 1 1 [zJ w2.heap.size] rfl rfl (λq u s=>pV _ _ (by simp) _ 110 q u s) (λu L=>by simp at L;rw [L];rfl) (by decide) Q0.o.1 Q0.o.2 (by simp;exact bf OX.o (by omega)) (w2.heap.size+2) (by simp) ?_;intro g2 Q2 w4 n af ak a5;have B4:=I n;have g:=I af;have v:=I ak;clear n af ak;apply Hid.o);have z:(w2.setCell (yh T) (zS t (G E+1) d)).heap.size=w2.heap.size:=(by simp);have Q4:Hid (∀ q,(B C R S).ownBlock=A q->q<w2.heap.size):=I λq s=>z▸(fJ HX.o q s).2;have wK:=I (hH (j:=1) k.o.row ((bI _ _).t ((bI _ _).m (by simp))) (λe=>Q6.o e.symm) (fy ..) B4.o g.o (v.o.imp id λe=>by omega));have m:=(g.o.block T (by simp;omega) Q6.o).t (((bI _ _).block T (by simp;omega)).t ((bI _ _).block T an.o));have z1:=(aS m 1).t QT;have bk:=(qJ m 1).t Q5;have ar:Hid (w4.heap[w2.heap.size]?=A (zM #[zN,zN,zN,J M,zF false,zN] 114 (0,0))):=I ((g.o.block w2.heap.size (by simp;omega) λe=>iC _ (Q4.o _ e.symm)).t (((bI _ _).block w2.heap.size (by simp)).t (by rw [<- z];simp only [World.alloc,yi])));clear m QT Q5;apply I;go_wp2_with fail;go_ret;refine ⟨rfl,?_⟩;have ax:(B (A (yh g2)) (G Y+1) Q2).ownBlock≠A w2.heap.size:=λe=>by
  have e':g2=w2.heap.size:=dp e;rcases v.o with h|h
  .have:=Q4.o _ h;omega
  .omega
 obtain ⟨c',K,h2⟩:=b.o.more (M:=M) (y:=w2.heap.size) W.o k.o wK.o (jD z) ((cY _ _ _ _ λe=>av e).t ar.o) ax hM;exact ⟨c',_,_,e,_,K,h2⟩
variable {U:zW} {Z:Nat} {H:List En} {R Q5:zV} {T:Nat->Prop}
def jH.drop (h:jH U T (E++H) w):jH U T E w:=by
 obtain ⟨f,a,F,b,c,d⟩:=h;refine ⟨f,a,F,λi e=>?_,c,d⟩;have:=b i (by rw [b6];omega);rw [yj e] at this;exact this
def PI (h:Pl U Z c R Q5 O E Y V w) (M:Nat) (p:M<=6) (x:G E=3):zC prog 35 #[zJ Z,J M] w λr w'=>r=zP (zF true)/\Pl U Z c R Q5 O E Y V w':=by
 have m:=I (h.st.new M p);have k:¬ (M:Int)<0:=(by omega);have t:¬ 6<(M:Int):=(by omega);have C:=I h;clear h;go_in;go_wp2_with (go_at_call 45;refine mo m.o ?_;rintro r w1 ⟨e,rfl,d,b⟩);have f:=I (C.o.pb.ks (d.ks C.o.st.low b.low) λq s=>rz.1 s);have i:=I b;obtain ⟨n,j,u,rfl⟩:∃ a l c,R=B a l c:=(by rcases C.o.pb.xs.2 with ⟨D,_⟩|⟨g,K,L,D,_⟩<;>exact ⟨_,_,_,D⟩);have v:w1.cell? (yh Z)=A (B n j u):=(bq w1 Z 0 _ _ _ f.o.row).t rfl;obtain rfl:j=3:=by
  rcases C.o.pb.xs.2 with ⟨D,o⟩|⟨g,K,L,D,_⟩
  .rw [fy] at o;omega
  .injection D with _ N _;rw [fy] at N;omega
 clear d b;apply I;go_wp2_with fail;go_ret;exact ⟨rfl,i.o.drop,f.o,C.o.len,C.o.ad⟩
def ze (h:jw U Z m n w) (o:m<=3) (u:Int):zC prog 35 #[zJ Z,J u] w λr w'=>r=zP (zF true)/\∃ q,q<=3/\jw U Z q n w':=by
 by_cases v:u<0\/6<u
 .refine (Ug u v w).m ?_;rintro r w' ⟨rfl,rfl⟩;exact ⟨rfl,m,o,h⟩
 .obtain ⟨M,rfl⟩:∃ M:Nat,u=(M:Int):=⟨u.toNat,by omega⟩;have j:M<=6:=(by omega);obtain ⟨c,R,Q5,O,E,Y,V,d,rfl,p,b⟩:=h;by_cases F:G E=3
  .refine (PI d M j F).m ?_;rintro r w' ⟨rfl,k⟩;exact ⟨rfl,_,o,c,R,Q5,O,E,Y,V,k,rfl,p,b⟩
  .refine (vO d M j (by omega)).m ?_;rintro r w' ⟨rfl,z,l,g,e,y,s,K⟩;have L:kt []:=by
    have:=s.xW (i:=G E) (by simp);simpa using this
   have x:QA ⟨M,[],[],[],none⟩:=⟨L.ql (λf C=>by cases C),(λ_ h=>by cases h),(λ_ h=>by cases h),(λ_ h=>by cases h),bE _,j⟩;refine ⟨rfl,G E+1,by omega,z,l,g,O,E++[⟨e,0,⟨M,[],[],[],none⟩⟩],Y++[Ff M y],V,⟨s,?_,?_,λi D H=>?_⟩,(by simp),p,λi D=>?_⟩
   .rw [fK];exact K
   .rw [b6,b6,d.len];rfl
   .have t:=d.len;rw [yq,yq];by_cases a:i<G E
    .rw [dif_pos a,dif_pos (by omega)];exact d.ad i a (by omega)
    .rw [dif_neg a,dif_neg (by omega)];simp only [List.getElem_singleton];exact ⟨vm M,x⟩
   .rw [yq];split
    .rename_i a;exact b i a
    .simp only [List.getElem_singleton];exact bE _
end
end Go.Proofs.YtihgojcfpnhelaaGreatDoor
