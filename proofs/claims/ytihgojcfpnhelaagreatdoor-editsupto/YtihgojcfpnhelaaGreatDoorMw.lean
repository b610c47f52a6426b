import Derived.Test.YtihgojcfpnhelaaGreatDoorM
import Derived.Test.YtihgojcfpnhelaaGreatDoorR
set_option maxRecDepth 100000
set_option maxHeartbeats 4000000
set_option linter.all false
namespace Go.Proofs.YtihgojcfpnhelaaGreatDoor
open Go renaming World->zW,Value->zV,Calls->zC,Addr->zD
open Go.RowKit Go.Proofs.Tryz
open List renaming length→G
section
section
def aw (ts:List (By × Nat)) (i:Nat):By:=match ts[i]? with|some x=>x.1|none=>[]
def eF (len:Nat) (ts:List (By × Nat)) (i:Nat):Nat:=match ts[i]? with|some x=>x.2|none=>len
def eY (ts:List (By × Nat)) (i:Nat) (h:i<G ts):aw ts i=ts[i].1:=by simp [aw,h]
def kV (ts:List (By × Nat)) (i:Nat) (h:(G ts)<=i):aw ts i=[]:=by simp [aw,h]
def l7 (len:Nat) (ts:List (By × Nat)) (i:Nat):(ts.drop i=[]/\aw ts i=[]/\eF len ts i=len)\/∃ r,ts.drop i=(aw ts i,eF len ts i)::r:=by
 by_cases h:i<G ts
 ·right;refine ⟨ts.drop (i+1),?_⟩;have b:eF len ts i=ts[i].2:=by simp [eF,h]
  rw [eY ts i h,b];exact jL h
 ·left;have a:(G ts)<=i:=ae;exact ⟨nY a,by simp [aw,a],by simp [eF,a]⟩
def Tk (x:By):Prop:=∃ c r,x=c::r/\c≠63/\c::r≠cE
section
variable (len:Nat) (ts:List (By × Nat))
def ow (k:UInt8) (o i q:Nat) (K:List By) (a:o<=7):cF len (q+1) (aH k o::K) (ts.drop i)=cF len q (ku k o (aw ts i)++K) (ts.drop i):=by
 rw [cP len q _ K _ (aw ts i) (eF len ts i) (l7 len ts i),aA (by simp [aH,fj]),qq k o _ a]
def mU (x:By) (i q:Nat) (K:List By) (a:Tk x) (h:aw ts i=x):cF len (q+1) (x::K) (ts.drop i)=cF len q K (ts.drop (i+1)):=by
 obtain ⟨c,r,rfl,hc,b⟩:=a;rw [cP len q _ K _ (aw ts i) (eF len ts i) (l7 len ts i),aA Z6,jl c r _ hc];simp only [aA b,h];simp [List.tail_drop]
def xO (x:By) (i q:Nat) (K:List By) (b:Tk x) (h:aw ts i≠x):cF len (q+1) (x::K) (ts.drop i)=some (3,eF len ts i):=by
 obtain ⟨c,r,rfl,hc,d⟩:=b;rw [cP len q _ K _ (aw ts i) (eF len ts i) (l7 len ts i),aA Z6,jl c r _ hc];simp only [aA d];rw [aA (by simp;intro _ a;exact h a.symm)]
def DI (i q:Nat) (K:List By):cF len (q+1) (fj::K) (ts.drop i)=some (4,eF len ts i):=by
 rw [cP len q _ K _ (aw ts i) (eF len ts i) (l7 len ts i),aB rfl]
def kH (S:List By) (i j m:Nat):Prop:=∀ K q,cF len (m+q) (S++K) (ts.drop i)=cF len q K (ts.drop j)
def ic (S:List By) (i:Nat) (er:Int) (p m:Nat):Prop:=∀ K q,cF len (m+q) (S++K) (ts.drop i)=some (er,p)
end
section
variable {len:Nat} {ts:List (By × Nat)}
def kH.nil (i:Nat):kH len ts [] i i 0:=λK q=>by rw [cS];rfl
def kH.t {S T:List By} {i j k m n:Nat} (h:kH len ts S i j m) (g:kH len ts T j k n):kH len ts (S++T) i k (m+n):=λK q=>YZ
def kH.no {S T:List By} {i j m n p:Nat} {er:Int} (h:kH len ts S i j m) (g:ic len ts T j er p n):ic len ts (S++T) i er p (m+n):=λK q=>YZ
def kH.sym {S:List By} {k:UInt8} {o i j m:Nat} (ho:o<=7) (h:kH len ts (ku k o (aw ts i)++S) i j m):kH len ts (aH k o::S) i j (m+1):=λK q=>XF
def ic.sym {S:List By} {k:UInt8} {o i m p:Nat} {er:Int} (ho:o<=7) (h:ic len ts (ku k o (aw ts i)++S) i er p m):ic len ts (aH k o::S) i er p (m+1):=λK q=>XF
def kH.tok {S:List By} {x:By} {i j m:Nat} (hx:Tk x) (ht:aw ts i=x) (h:kH len ts S (i+1) j m):kH len ts (x::S) i j (m+1):=λK q=>XZ
def ic.tok {S:List By} {x:By} {i m p:Nat} {er:Int} (hx:Tk x) (ht:aw ts i=x) (h:ic len ts S (i+1) er p m):ic len ts (x::S) i er p (m+1):=λK q=>XZ
def ic.bad {S:List By} {x:By} {i:Nat} (a:Tk x) (b:aw ts i≠x):ic len ts (x::S) i 3 (eF len ts i) 1:=λK q=>by
 rw [mP 1 q,gT,xO len ts x i q (S++K) a b]
def ic.deep {S:List By} {i:Nat}:ic len ts (fj::S) i 4 (eF len ts i) 1:=λK q=>by
 rw [mP 1 q,gT,DI len ts i q (S++K)]
def ic.opens {S:List By} {i:Nat} (a:aw ts i=[40]):ic len ts (jX::S) i 4 (eF len ts i) 2:=λK q=>by
 rw [show 2+q=q+1+1 from ae,gT,cP len (q+1) _ _ _ (aw ts i) (eF len ts i) (l7 len ts i),aA ai,a];show cF len (q+1) (fj::(S++K)) (ts.drop i)=_;exact DI len ts i q (S++K)
def Ss:Tk iF:=⟨78,_,rfl,ai,ai⟩
def ic.Vm {S:List By} {i:Nat} (a:aw ts i≠[40]) (b:aw ts i≠iF):ic len ts (jX::S) i 3 (eF len ts i) 2:=λK q=>by
 rw [show 2+q=q+1+1 from ae,gT,cP len (q+1) _ _ _ (aw ts i) (eF len ts i) (l7 len ts i),aA ai];rw [show dT jX (aw ts i)=some (if aw ts i=[40] then [fj] else [iF]) from rfl,aA a];exact xO len ts iF i q (S++K) Ss b
end
def eb:List (By × Nat):=
 [([105,102],3),([97,110,100],4),([111,114],5),([110,111,116],6),([116,114,117,101],7),([102,97,108,115,101],8),
  ([40],9),([41],10),([44],11),([43],12),([45],13),([42],15),([47],16),([37],17),([61],18),([60],19)]
def ij (t:By) (k:Nat):Prop:=(headD t=true/\k=1)\/(headD t=false/\bm t=true/\k=2)\/(t=[]/\k=0)\/(t,k)∈eb
def x9 (f:Nat) (l:By) (k:Nat) (t:By) (p:Nat) (h:(t,p)∈(bW f l k).1):di t=true:=by
 induction f generalizing l k with
 | zero=>simp [bW] at h
 | succ f b=>
  match l with
  | []=>simp [bW] at h
  | c::r=>
   unfold bW at h;split at h
   ·exact b _ _ h
   ·split at h
    ·rename_i a;simp only [bQ,mI] at h;rcases h with ⟨rfl,rfl⟩|h
     ·exact a
     ·exact b _ _ h
    ·simp at h
def Az (l:List (By × Int)) (t:By) (k:Int) (h:iA l t=some k):(t,k)∈l:=by
 induction l with
 | nil=>simp [iA] at h
 | cons x l a=>
  obtain ⟨y,z⟩:=x;unfold iA at h;split at h
  ·rename_i b;simp at h;subst b h;simp
  ·exact ki _ (a h)
def Kc (t:By) (h:di t=true) (i:t≠[]):∃ k:Nat,ij t k/\fU t=(k:Int):=by
 by_cases hD:headD t=true
 ·exact ⟨1,Or.inl ⟨hD,rfl⟩,by simp [fU,hD]⟩
 ·have b:headD t=false:=yI;cases e:fH t with
  | some k=>
   have d:=Az dX t k e;have a:fU t=k:=by simp [fU,b,e]
   simp only [dX,bQ,jA,iK,mI] at d;rcases d with ⟨rfl,rfl⟩|⟨rfl,rfl⟩|⟨rfl,rfl⟩|⟨rfl,rfl⟩|⟨rfl,rfl⟩|⟨rfl,rfl⟩|⟨rfl,rfl⟩|⟨rfl,rfl⟩|⟨rfl,rfl⟩|⟨rfl,rfl⟩|⟨rfl,rfl⟩|⟨rfl,rfl⟩|⟨rfl,rfl⟩|⟨rfl,rfl⟩|⟨rfl,rfl⟩|⟨rfl,rfl⟩
   ·exact ⟨3,Or.inr (Or.inr (Or.inr ai)),a⟩
   ·exact ⟨4,Or.inr (Or.inr (Or.inr ai)),a⟩
   ·exact ⟨5,Or.inr (Or.inr (Or.inr ai)),a⟩
   ·exact ⟨6,Or.inr (Or.inr (Or.inr ai)),a⟩
   ·exact ⟨7,Or.inr (Or.inr (Or.inr ai)),a⟩
   ·exact ⟨8,Or.inr (Or.inr (Or.inr ai)),a⟩
   ·exact ⟨9,Or.inr (Or.inr (Or.inr ai)),a⟩
   ·exact ⟨10,Or.inr (Or.inr (Or.inr ai)),a⟩
   ·exact ⟨11,Or.inr (Or.inr (Or.inr ai)),a⟩
   ·exact ⟨12,Or.inr (Or.inr (Or.inr ai)),a⟩
   ·exact ⟨13,Or.inr (Or.inr (Or.inr ai)),a⟩
   ·exact ⟨15,Or.inr (Or.inr (Or.inr ai)),a⟩
   ·exact ⟨16,Or.inr (Or.inr (Or.inr ai)),a⟩
   ·exact ⟨17,Or.inr (Or.inr (Or.inr ai)),a⟩
   ·exact ⟨18,Or.inr (Or.inr (Or.inr ai)),a⟩
   ·exact ⟨19,Or.inr (Or.inr (Or.inr ai)),a⟩
  | none=>
   refine ⟨2,Or.inr (Or.inl ⟨b,?_,rfl⟩),by simp [fU,b,e]⟩
   match t,i,b,e,h with
   | c::r,_,b,e,h=>
    have g:fF c=true:=by
     cases g:fF c with
     | true=>rfl
     | false=>
      have:=pj c r g;rw [e] at this;unfold di at h;rw [b,show j6 (c::r)=fF c from rfl,g,<- this] at h;simp at h
    unfold bm;rw [show j6 (c::r)=fF c from rfl,g];simp only [Bool.true_and,Bool.not_eq_true'];rw [Bool.eq_false_iff];intro f;simp only [b5,JM,pF,bQ,jA,iK] at f;rcases f with h|h|h|h|h|h<;>rw [h] at e<;>simp [fH,iA,dX] at e
def dc (n:Nat):List By:=match n with|1=>[[111,114]]|2=>[[97,110,100]]|3=>[[61],[60]]|4=>[[43],[45]]|5=>[[42],[47],[37]]|_=>[]
def lv (n:Nat):UInt8:=match n with|1=>82|2=>80|3=>84|4=>83|5=>77|_=>65
def tl (n:Nat):UInt8:=match n with|1=>114|2=>112|3=>99|4=>115|_=>109
def gG (t x:By) (b:headD t=true) (a:headD x=false):t≠x:=by
 rintro rfl;rw [b] at a;cases a
def fD (t x:By) (b:bm t=true) (a:bm x=false):t≠x:=by
 rintro rfl;rw [b] at a;cases a
def uF (P:By->Nat->Prop) (t:By) (k:Nat) (h:ij t k) (b:∀ t,headD t=true->P t 1) (d:∀ t,headD t=false->bm t=true->P t 2) (c:P [] 0) (e:∀ x,x∈eb->P x.1 x.2):P t k:=by
 rcases h with ⟨a,rfl⟩|⟨a,f,rfl⟩|⟨rfl,rfl⟩|h
 ·exact b t a
 ·exact d t a f
 ·exact c
 ·exact e (t,k) h
def ni (t:By) (l:List By) (h:∀ x,x∈l->t≠x):b5 t l=false:=by
 rw [Bool.eq_false_iff];intro a;simp only [b5,pF] at a;exact h t a rfl
def Vn (t:By) (k:Nat) (h:ij t k) (n:Nat) (d:1<=n) (e:n<=5):(uv.getD k 0=(n:Int))↔b5 t (dc n)=true:=by
 have hn:n=1\/n=2\/n=3\/n=4\/n=5:=ae;refine uF (λt k=>(uv.getD k 0=(n:Int))↔b5 t (dc n)=true) t k h (λt c=>?_) (λt _ b=>?_) ?_ ?_
 ·rw [ni t (dc n) (λx a=>gG t x c ZF)];exact Gr
 ·rw [ni t (dc n) (λx a=>fD t x b ZF)];exact Gr
 ·exact Gr
 ·exact Gr
def xw (t:By) (k:Nat) (h:ij t k) (n:Nat) (c:1<=n) (d:n<=6):(kY.getD k 0=(n:Int))↔((n=3/\t=[110,111,116])\/(n=6/\t=[45])):=by
 have hn:n=1\/n=2\/n=3\/n=4\/n=5\/n=6:=ae;refine uF (λt k=>(kY.getD k 0=(n:Int))↔((n=3/\t=[110,111,116])\/(n=6/\t=[45]))) t k h (λt a=>?_) (λt _ b=>?_) ?_ ?_
 ·have e1:=gG t [110,111,116] a ai;have e2:=gG t [45] a ai;exact YB
 ·have e1:=fD t [110,111,116] b ai;have e2:=fD t [45] b ai;exact YB
 ·rcases hn with rfl|rfl|rfl|rfl|rfl|rfl<;>decide
 ·rcases hn with rfl|rfl|rfl|rfl|rfl|rfl<;>decide
def afN (n:Nat) (c:1<=n) (b:n<=5) (o:Nat) (t:By) (h:n=3->t≠[110,111,116]):ku (lv n) o t=[aH (lv (n+1)) o,aH (tl n) o]:=by
 have a:n=1\/n=2\/n=3\/n=4\/n=5:=ae;rcases a with rfl|rfl|rfl|rfl|rfl
 ·rfl
 ·rfl
 ·show (if t=[110,111,116] then eT t 84 o else [aH 83 o,aH 99 o])=_;rw [aA (h rfl)];rfl
 ·rfl
 ·rfl
def IX (n:Nat) (a:1<=n) (b:n<=5) (o:Nat) (t:By) (h:b5 t (dc n)=false):ku (tl n) o t=[]:=by
 have hn:n=1\/n=2\/n=3\/n=4\/n=5:=ae;have key:∀ p g,gz t (dc n) p g o=[]:=λp g=>by unfold gz;rw [h];rfl
 exact Xf
def QH (n:Nat) (a:1<=n) (b:n<=5) (o:Nat) (t:By) (h:b5 t (dc n)=true):ku (tl n) o t=t::aH (lv (n+1)) o::(if n=3 then [] else [aH (tl n) o]):=by
 have hn:n=1\/n=2\/n=3\/n=4\/n=5:=ae;have key:∀ p g,gz t (dc n) p g o=(match g with|none=>[t,aH p o]|some g=>[t,aH p o,aH g o]):=λp g=>by unfold gz;rw [h];rfl
 exact Xf
def fu (k:Int):By:=p7.getD k.toNat []
def LA (t:By) (h:headD t=true):eh t=dy t:=by simp [eh,h]
def yc (q:Option By) (t:By) (k:Nat) (h:ij t k) (o:k≠0) (f:b5 t kq=false):cM q t=fu (k:Int)++eh t:=by
 have e:cM q t=if t=[44]||t=[110,111,116] then t++[32] else dy t:=by
  unfold cM;rw [f];rfl
 rw [e];refine uF (λt k=>k≠0->b5 t kq=false->(if t=[44]||t=[110,111,116] then t++[32] else dy t)=fu (k:Int)++eh t) t k h (λt b _ _=>?_) (λt b a _ _=>?_) (λh=>absurd rfl h) ai o f
 ·rw [aA (by simp [gG t [44] b ai,gG t [110,111,116] b ai]),LA t b];rfl
 ·rw [aA (by simp [fD t [44] a ai,fD t [110,111,116] a ai])];have i:fH t=none:=se dX t λj m g=>by
   have:=fD t (dX[j]).1 a ((show ∀ x,x∈dX->bm x.1=false from ai) _ (bt m));exact this g.symm
  have l:eh t=t:=by simp [eh,b,i]
  rw [l]
  match t,a with
  | [],a=>simp [bm,j6] at a
  | [c],_=>rfl
  | c::d::r,a=>
   have n:c≠48:=by
    rintro rfl;have:j6 (48::d::r)=false:=by show fF 48=false;decide
    simp [bm,this] at a
   simp [dy,n,fu,p7]
def Vk (q:Option By) (t:By) (k:Nat) (h:ij t k) (a:b5 t kq=true) (b:tK q=true):cM q t=fu (k:Int)++eh t:=by
 have e:cM q t=[32]++t++[32]:=by
  unfold cM;rw [a,b];rfl
 rw [e];refine uF (λt k=>b5 t kq=true->[32]++t++[32]=fu (k:Int)++eh t) t k h (λt d a=>?_) (λt _ f a=>?_) ai ai a
 ·rw [ni t kq (λx c=>gG t x d GZ)] at a;cases a
 ·rw [ni t kq (λx c=>fD t x f GZ)] at a;cases a
def QF (q:Option By) (a:tK q=false):cM q [45]=fu 14:=by
 unfold cM;rw [a];decide
end
end
inductive Pt where
 | atom (k:Nat) (nm:By) (n:Nat)
 | un (k:Nat) (a:Pt)
 | bin (k:Nat) (a b:Pt)
 | ifs (a b c:Pt)
def Pt.k:Pt->Nat|.atom k _ _=>k|.un k _=>k|.bin k _ _=>k|.ifs _ _ _=>3
def Pt.nm:Pt->By|.atom _ x _=>x|_=>[]
def Pt.n:Pt->Nat|.atom _ _ n=>n|_=>0
def Pt.kids:Pt->List Pt|.atom _ _ _=>[]|.un _ a=>[a]|.bin _ a b=>[a,b]|.ifs a b c=>[a,b,c]
def jn (a:By):List By->By|[]=>[]|x::l=>x++l.flatMap λy=>a++y
def gu (k n:Nat):By:=if k=1 then Lib.decDigits n else []
def txt:Pt->By
 | .atom k x n=>iP k++x++gu k n++jn (lL k) []++jO k
 | .un k a=>iP k++[]++gu k 0++jn (lL k) [txt a]++jO k
 | .bin k a b=>iP k++[]++gu k 0++jn (lL k) [txt a,txt b]++jO k
 | .ifs a b c=>iP 3++[]++gu 3 0++jn (lL 3) [txt a,txt b,txt c]++jO 3
def Sq (p:Pt):txt p=iP p.k++p.nm++gu p.k p.n++jn (lL p.k) (p.kids.map txt)++jO p.k:=by
 cases p<;>rfl
def ac5 (a:By) (l:List By) (x:By):jn a (l++[x])=jn a l++(if l=[] then [] else a)++x:=by
 cases l with
 | nil=>simp [jn]
 | cons y l=>simp [jn]
inductive dR (w:zW) (S:Nat->Prop):Pt->Option zD->Nat->Nat->Prop
 | leaf (p:Pt):p.kids=[]->dR w S p none 0 0
 | node (p:Pt) (g cap:Nat) (A:Nat->Option zD) (L C:Nat->Nat):S g->p.kids≠[] ->
   (∀ j (h:j<G p.kids),w.cell? ⟨g,j*4,none⟩=some (zI ((p.kids[j]).k:Int))/\w.cell? ⟨g,j*4+1,none⟩=some (.string ⟨((p.kids[j]).nm).toArray⟩)/\w.cell? ⟨g,j*4+2,none⟩=some (zI ((p.kids[j]).n:Int))/\w.cell? ⟨g,j*4+3,none⟩=some (.slice (A j) (L j) (C j))) ->
   (∀ j (h:j<G p.kids),dR w S p.kids[j] (A j) (L j) (C j)) ->
   dR w S p (some ⟨g,0,none⟩) (G p.kids) cap
def aS {w w':zW} {g:Nat} (h:w'.heap[g]?=w.heap[g]?) (o:Nat):w'.cell? ⟨g,o,none⟩=w.cell? ⟨g,o,none⟩:=by
 simp only [World.cell?,h]
def dR.next {w w':zW} {S:Nat->Prop} {p:Pt} {a:Option zD} {l c:Nat} (h:dR w S p a l c) (d:∀ q,S q->w'.heap[q]?=w.heap[q]?):dR w' S p a l c:=by
 induction h with
 | leaf p f=>exact .leaf p f
 | node p g e A L C b n m _ i=>
  refine .node p g e A L C b n (λj k=>?_) i;rw [aS (d g b),aS (d g b),aS (d g b),aS (d g b)];exact m j k
def dR.wide {w:zW} {S S':Nat->Prop} {p:Pt} {a:Option zD} {l c:Nat} (h:dR w S p a l c) (j:∀ q,S q->S' q):dR w S' p a l c:=by
 induction h with
 | leaf p d=>exact .leaf p d
 | node p g b A L C f k i _ e=>exact .node p g b A L C (j g f) k i e
inductive bh (ts:List (By × Nat)):Nat->Nat->Nat->Pt->Prop
 | atom (i k:Nat):i<G ts->ij (aw ts i) k->(k=1\/k=2\/k=7\/k=8)->bh ts 6 i (i+1) (.atom k (ej (aw ts i)) (fw (aw ts i)))
 | jV (i j:Nat) (a:Pt):aw ts i=[110,111,116]->bh ts 3 (i+1) j a->bh ts 3 i j (.un 6 a)
 | neg (i j:Nat) (a:Pt):aw ts i=[45]->bh ts 6 (i+1) j a->bh ts 6 i j (.un 14 a)
 | br (i j:Nat) (a:Pt):aw ts i=[40]->bh ts 1 (i+1) j a->aw ts j=[41]->bh ts 6 i (j+1) (.un 9 a)
 | ifs (i j1 j2 j3:Nat) (a b c:Pt):aw ts i=[105,102]->aw ts (i+1)=[40]->bh ts 1 (i+1+1) j1 a->aw ts j1=[44]->bh ts 1 (j1+1) j2 b->aw ts j2=[44]->bh ts 1 (j2+1) j3 c->aw ts j3=[41]->bh ts 6 i (j3+1) (.ifs a b c)
 | up (n i j:Nat) (a:Pt):1<=n->n<=5->bh ts (n+1) i j a->bh ts n i j a
 | more (n i j j' k:Nat) (a b:Pt):1<=n->n<=5->bh ts (if n=3 then 4 else n) i j a->b5 (aw ts j) (dc n)=true->ij (aw ts j) k->bh ts (n+1) (j+1) j' b->bh ts n i j' (.bin k a b)
def bh.lt {ts:List (By × Nat)} {n i j:Nat} {p:Pt} (h:bh ts n i j p):i<j:=by
 induction h with
 | atom=>omega
 | jV=>omega
 | neg=>omega
 | br=>omega
 | ifs=>omega
 | up=>omega
 | more=>omega
abbrev Vl:=Int × Int
def bD (b:Bool):Vl:=(2,if b then 1 else 0)
def cL (n:Int):Vl:=(3,n)
def iW (v:Vl):Vl:=if v.1=3 then v else (1,wrap64 (-v.2))
def nH (v:Vl):Vl:=if v.1=3 then v else bD (v.2 == 0)
def aP (k:Int) (v:Vl):Vl:=if v.1≠k/\v.1≠3 then cL 2 else v
def dH (d a b:Vl):Vl:=if aP 2 a=d\/(aP 2 a).1=3 then aP 2 a else aP 2 b
def fQ (a b c:Vl):Vl:=if aP 2 a=(2,1) then b else if aP 2 a=(2,0) then c else aP 2 a
def iX (k:Nat) (a b:Int):Vl:=
 if k=12 then (1,wrap64 (a+b)) else if k=13 then (1,wrap64 (a - b)) else if k=15 then (1,wrap64 (a*b))
 else if k=18 then bD (a == b) else if k=19 then bD (decide (a<b)) else if b=0 then cL 1
 else if k=16 then (1,wrap64 (a.tdiv b)) else (1,a.tmod b)
def fR (k:Nat) (a b:Vl):Vl:=
 if a.1=3 then a else if b.1=3 then b else if a.1=1/\b.1=1 then iX k a.2 b.2 else if a.1=b.1/\k=18 then bD (a.2 == b.2) else cL 2
def cD (ρ:By->Vl):Pt->Vl
 | .atom k nm n=>if k=1 then (1,(n:Int)) else if k=7 then bD true else if k=8 then bD false else ρ nm
 | .un k a=>if k=9 then cD ρ a else if k=14 then iW (aP 1 (cD ρ a)) else nH (aP 2 (cD ρ a))
 | .bin k a b=>if k=4 then dH (2,0) (cD ρ a) (cD ρ b) else if k=5 then dH (2,1) (cD ρ a) (cD ρ b) else fR k (cD ρ a) (cD ρ b)
 | .ifs a b c=>fQ (cD ρ a) (cD ρ b) (cD ρ c)
def xh (n:Int) (w:zW):zC prog 240 #[zI n] w λe w'=>e=.returned (.agg #[zI 1,zI n])/\zB w w':=by
 go_in;go_wp2;refine aK (v:=.agg #[zI 1,zI n]) (by simp [results,results240,go_sem]) rfl ?_;exact tz
def uq (n:Int) (w:zW):zC prog 258 #[zI n] w λe w'=>e=.returned (.agg #[zI 3,zI n])/\zB w w':=by
 go_in;go_wp2;refine aK (v:=.agg #[zI 3,zI n]) (by simp [results,results258,go_sem]) rfl ?_;exact tz
def lK (b:Bool) (w:zW):zC prog 241 #[.bool b] w λe w'=>e=.returned (.agg #[zI (bD b).1,zI (bD b).2])/\zB w w':=by
 cases b
 ·go_in;go_wp2;refine aK (v:=.agg #[zI 2,zI 0]) aar rfl ?_;exact tz
 ·go_in;go_wp2;refine aK (v:=.agg #[zI 2,zI 1]) aar rfl ?_;exact tz
def cq {w:zW} {q:Nat} {v0 v1:zV} {t:TypeId} (h:w.heap[q]?=some (.cells #[v0,v1] t (0,0))) :
  (w.cell? ⟨q,0,none⟩=some v0/\w.cell? ⟨q,1,none⟩=some v1)/\(w.frozen? ⟨q,0,none⟩=false/\w.frozen? ⟨q,1,none⟩=false)/\q<w.heap.size:=
 ⟨⟨(bq w q 0 _ _ _ h).t rfl,(bq w q 1 _ _ _ h).t rfl⟩,⟨bF h 0,bF h 1⟩,(cz.1 h).1⟩
def dJ {w w':zW} (h:zB w w') (g:Nat) (a:w.heap.size<=g) (v0 v1:zV):zB w ((w'.setCell ⟨g,0,none⟩ v0).setCell ⟨g,1,none⟩ v1):=
 (h.setCell (p:=⟨g,0,none⟩) a _).setCell (p:=⟨g,1,none⟩) a _
def dx (v:Vl) (w:zW) (e:Ending) (w':zW):Prop:=e=.returned (.agg #[zI v.1,zI v.2])/\zB w w'
def bc (w:zW) (o:Obj) (cs:Array zV) (t:TypeId):((w.alloc o).alloc (.cells cs t)).heap[w.heap.size+1]?=some (.cells cs t (0,0)):=Xy
def fZ (w:zW) (o a:Obj) (cs:Array zV) (t:TypeId):(((w.alloc o).alloc a).alloc (.cells cs t)).heap[w.heap.size+1+1]?=some (.cells cs t (0,0)):=by
 have:=bL ((w.alloc o).alloc a) (.cells cs t);rw [show ((w.alloc o).alloc a).heap.size=w.heap.size+1+1 from aq] at this;exact this
def og (w:zW) (a b c:Obj):zB w (((w.alloc a).alloc b).alloc c):=(aY w a b).alloc aN _
def zm (v:Vl) (w:zW):zC prog 242 #[.agg #[zI v.1,zI v.2]] w (dx (iW v) w):=by
 obtain ⟨k,n⟩:=v;by_cases b:k=3
 ·subst b;go_in;go_wp2;refine aK (v:=.agg #[zI 3,zI n]) (by simp [results,results242,go_sem]) rfl ?_;exact ⟨rfl,aY _ _ _⟩
 ·have i:(k == 3)=false:=bo.2 b;have h:=I (show iW (k,n)=(1,wrap64 (-n)) by unfold iW;rw [aA b]);clear b;go_in;go_wp2_with (go_at_call 240;refine mo (xh _ _) ?_;rintro e w1 ⟨rfl,a⟩);obtain ⟨⟨c,d⟩,⟨f0,f1⟩,g⟩:=cq ((a.block (w.heap.size+1) aq).t (bc w _ _ _));have f:=I a;clear a;apply I;go_wp2;refine aK (v:=.agg #[zI 1,zI (wrap64 (-n))]) (by simp [results,results242,go_sem,c,d]) rfl ?_;rw [h.o];exact ⟨rfl,dJ ((aY w _ _).t (f.o.m aN)) _ ae _ _⟩
def rZ (v:Vl) (w:zW):zC prog 244 #[.agg #[zI v.1,zI v.2]] w (dx (nH v) w):=by
 obtain ⟨k,n⟩:=v;by_cases b:k=3
 ·subst b;go_in;go_wp2;refine aK (v:=.agg #[zI 3,zI n]) (by simp [results,results244,go_sem]) rfl ?_;exact ⟨rfl,aY _ _ _⟩
 ·have j:(k == 3)=false:=bo.2 b;have i:=I (show nH (k,n)=bD (n == 0) by unfold nH;rw [aA b]);clear b;go_in;go_wp2_with (go_at_call 241;refine mo (lK _ _) ?_;rintro e w1 ⟨rfl,a⟩);obtain ⟨⟨d,f⟩,⟨f0,f1⟩,h⟩:=cq ((a.block (w.heap.size+1) aq).t (bc w _ _ _));have g:=I a;clear a;generalize bD (n == 0)=c at *;apply I;go_wp2;refine aK (v:=.agg #[zI c.1,zI c.2]) (by simp [results,results244,go_sem,d,f]) rfl ?_;rw [i.o];exact ⟨rfl,dJ ((aY w _ _).t (g.o.m aN)) _ ae _ _⟩
abbrev bH (r:zV):zV:=.func (.func 198) #[r] #[]
def acz (r:zV) (k m n:Int) (p:By) (a:Option zD) (l c:Nat) (v:Vl) (w:zW)
  (j:∀ W,zB w W->zC prog 220 #[.agg #[bH r],.agg #[zI m,zG p,zI n,.slice a l c]] W (dx v W)) :
  zC prog 243 #[.agg #[bH r],zI k,.agg #[zI m,zG p,zI n,.slice a l c]] w (dx (aP k v) w):=by
 have x:=I j;clear j;go_in;go_wp2_with (go_at_call 220;refine mo (x.o _ (og _ _ _ _)) ?_;rintro e w1 ⟨rfl,b⟩);have i:=(b.block (w.heap.size+1+1) aq).t (fZ w _ _ _ _);obtain ⟨⟨k0,k1⟩,⟨f0,f1⟩,hsz⟩:=cq i;have q:=I i;have HB:=I (show zB w w1 from (og w _ _ _).t (b.m aN));clear b i;obtain ⟨vk,vn⟩:=v;apply I;by_cases h1:vk=k
 ·have s:(vk != k)=false:=yN;have HV:=I (show aP k (vk,vn)=(vk,vn) by unfold aP;rw [aA (λh=>h.1 h1)]);clear h1;exact Xq
 ·have s:(vk != k)=true:=yN;by_cases h3:vk=3
  ·have g:(vk != 3)=false:=yM;have HV:=I (show aP k (vk,vn)=(vk,vn) by unfold aP;rw [aA (λh=>h.2 h3)]);clear h1 h3;exact Xq
  ·have g:(vk != 3)=true:=yM;have HV:=I (show aP k (vk,vn)=(3,2) by unfold aP;rw [aB ⟨h1,h3⟩];rfl);clear h1 h3;go_wp2_with (go_at_call 258;refine mo (uq _ _) ?_;rintro e w2 ⟨rfl,d⟩);obtain ⟨⟨u,t⟩,⟨y,z⟩,o⟩:=cq ((d.block (w.heap.size+1+1) aN).t ((cj _ _ _ hsz).t q.o));have f:=I (show zB w w2 from (HB.o.alloc ae _).t (d.m aN));clear d k0 k1 f0 f1;apply I;go_wp2;refine aK (v:=.agg #[zI 3,zI 2]) (by simp [results,results243,go_sem,u,t]) rfl ?_;rw [HV.o];exact ⟨rfl,dJ f.o _ ae _ _⟩
def P6 (k:Nat) (x y:Int) (w:zW):zC prog 259 #[zI k,zI x,zI y] w (dx (iX k x y) w):=by
 have q:=I (λn w=>xh n w);have u:=I (λb w=>lK b w);have A:=I (λn w=>uq n w);have d:=I (show ∀ (v:Vl) (w1:zW),Below (w.alloc (.cells #[zI 0,zI 0] 177)).heap.size (w.alloc (.cells #[zI 0,zI 0] 177)) w1->(w1.cell? ⟨w.heap.size,0,none⟩=some (zI 0)/\w1.cell? ⟨w.heap.size,1,none⟩=some (zI 0))/\(w1.frozen? ⟨w.heap.size,0,none⟩=false/\w1.frozen? ⟨w.heap.size,1,none⟩=false)/\w.heap.size<w1.heap.size/\dx v w (.returned (.agg #[zI v.1,zI v.2])) ((w1.setCell ⟨w.heap.size,0,none⟩ (zI v.1)).setCell ⟨w.heap.size,1,none⟩ (zI v.2)) from λv w1 t=>by
  obtain ⟨D,E,H⟩:=cq ((t.block w.heap.size aq).t (bL w _));exact ⟨D,E,H,rfl,dJ ((bZ _).t (t.m aq)) _ (aG _) _ _⟩)
 by_cases j:k=12
 ·subst j;have m:=I (show iX 12 x y=(1,wrap64 (x+y)) from rfl);go_in;go_wp2_with (go_at_call 240;refine mo (q.o _ _) ?_;rintro e w1 ⟨rfl,c⟩);obtain ⟨⟨k0,k1⟩,⟨f0,f1⟩,f,a⟩:=d.o ((1,wrap64 (x+y))) _ c;have l:=I a;clear a c;apply I;go_wp2;refine aK (v:=.agg #[zI ((1,wrap64 (x+y)):Vl).1,zI ((1,wrap64 (x+y)):Vl).2]) zP rfl ?_;rw [m.o];exact l.o
 ·have C:((k:Int) == 12)=false:=bo.2 ae;by_cases i:k=13
  ·subst i;have m:=I (show iX 13 x y=(1,wrap64 (x - y)) from rfl);go_in;go_wp2_with (go_at_call 240;refine mo (q.o _ _) ?_;rintro e w1 ⟨rfl,c⟩);obtain ⟨⟨k0,k1⟩,⟨f0,f1⟩,f,a⟩:=d.o ((1,wrap64 (x - y))) _ c;have l:=I a;clear a c;apply I;go_wp2;refine aK (v:=.agg #[zI ((1,wrap64 (x - y)):Vl).1,zI ((1,wrap64 (x - y)):Vl).2]) zP rfl ?_;rw [m.o];exact l.o
  ·have F:((k:Int) == 13)=false:=bo.2 ae;by_cases h:k=15
   ·subst h;have m:=I (show iX 15 x y=(1,wrap64 (x*y)) from rfl);go_in;go_wp2_with (go_at_call 240;refine mo (q.o _ _) ?_;rintro e w1 ⟨rfl,c⟩);obtain ⟨⟨k0,k1⟩,⟨f0,f1⟩,f,a⟩:=d.o ((1,wrap64 (x*y))) _ c;have l:=I a;clear a c;apply I;go_wp2;refine aK (v:=.agg #[zI ((1,wrap64 (x*y)):Vl).1,zI ((1,wrap64 (x*y)):Vl).2]) zP rfl ?_;rw [m.o];exact l.o
   ·have G:((k:Int) == 15)=false:=bo.2 ae;by_cases o:k=18
    ·subst o;have m:=I (show iX 18 x y=bD (x == y) from rfl);go_in;go_wp2_with (go_at_call 241;refine mo (u.o _ _) ?_;rintro e w1 ⟨rfl,c⟩);obtain ⟨⟨k0,k1⟩,⟨f0,f1⟩,f,a⟩:=d.o (bD (x == y)) _ c;have l:=I a;clear a c;apply I;go_wp2;refine aK (v:=.agg #[zI (bD (x == y):Vl).1,zI (bD (x == y):Vl).2]) zP rfl ?_;rw [m.o];exact l.o
    ·have J:((k:Int) == 18)=false:=bo.2 ae;by_cases g:k=19
     ·subst g;have m:=I (show iX 19 x y=bD (decide (x<y)) from rfl);go_in;go_wp2_with (go_at_call 241;refine mo (u.o _ _) ?_;rintro e w1 ⟨rfl,c⟩);obtain ⟨⟨k0,k1⟩,⟨f0,f1⟩,f,a⟩:=d.o (bD (decide (x<y))) _ c;have l:=I a;clear a c;apply I;go_wp2;refine aK (v:=.agg #[zI (bD (decide (x<y)):Vl).1,zI (bD (decide (x<y)):Vl).2]) zP rfl ?_;rw [m.o];exact l.o
     ·have z:((k:Int) == 19)=false:=bo.2 ae;by_cases r:y=0
      ·subst r;have m:=I (show iX k x 0=(3,1) by unfold iX;rw [aA j,aA i,aA h,aA o,aA g,aB rfl];rfl);clear j i h o g;go_in;go_wp2_with (go_at_call 258;refine mo (A.o _ _) ?_;rintro e w1 ⟨rfl,c⟩);obtain ⟨⟨k0,k1⟩,⟨f0,f1⟩,f,a⟩:=d.o (3,1) _ c;have l:=I a;clear a c;apply I;go_wp2;refine aK (v:=.agg #[zI ((3,1):Vl).1,zI ((3,1):Vl).2]) zP rfl ?_;rw [m.o];exact l.o
      ·have B:(y == 0)=false:=bo.2 r;by_cases p:k=16
       ·have s:((k:Int) == 16)=true:=by simp [p]
        have m:=I (show iX k x y=(1,wrap64 (x.tdiv y)) by unfold iX;rw [aA j,aA i,aA h,aA o,aA g,aA r,aB p]);clear j i h o g p;go_in;go_wp2_with (go_at_call 240;refine mo (q.o _ _) ?_;rintro e w1 ⟨rfl,c⟩);obtain ⟨⟨k0,k1⟩,⟨f0,f1⟩,f,a⟩:=d.o ((1,wrap64 (x.tdiv y))) _ c;have l:=I a;clear a c;apply I;go_wp2;refine aK (v:=.agg #[zI ((1,wrap64 (x.tdiv y)):Vl).1,zI ((1,wrap64 (x.tdiv y)):Vl).2]) zP rfl ?_;rw [m.o];exact l.o
       ·have s:((k:Int) == 16)=false:=bo.2 ae;have m:=I (show iX k x y=(1,x.tmod y) by unfold iX;rw [aA j,aA i,aA h,aA o,aA g,aA r,aA p]);clear j i h o g p;go_in;go_wp2_with (go_at_call 240;refine mo (q.o _ _) ?_;rintro e w1 ⟨rfl,c⟩);obtain ⟨⟨k0,k1⟩,⟨f0,f1⟩,f,a⟩:=d.o ((1,x.tmod y)) _ c;have l:=I a;clear a c;apply I;go_wp2;refine aK (v:=.agg #[zI ((1,x.tmod y):Vl).1,zI ((1,x.tmod y):Vl).2]) zP rfl ?_;rw [m.o];exact l.o
def aC (x:By):Pt->Bool
 | .atom k nm _=>(k == 2&&nm == x)||[].any id
 | .un k a=>(k == 2&&([]:By) == x)||[aC x a].any id
 | .bin k a b=>(k == 2&&([]:By) == x)||[aC x a,aC x b].any id
 | .ifs a b c=>((3:Nat) == 2&&([]:By) == x)||[aC x a,aC x b,aC x c].any id
def Fq (x:By) (p:Pt):aC x p=((p.k == 2&&p.nm == x)||(p.kids.map (aC x)).any id):=by
 cases p<;>rfl
def ib (w:zW) (a:Option zD) (n:Nat) (q:Nat->Pt) (A:Nat->Option zD) (L C:Nat->Nat):Prop:=
 ∀ j,j<n->∃ g,a=some ⟨g,0,none⟩/\g<w.heap.size/\w.cell? ⟨g,j*4,none⟩=some (zI ((q j).k:Int))/\w.cell? ⟨g,j*4+1,none⟩=some (.string ⟨((q j).nm).toArray⟩)/\w.cell? ⟨g,j*4+2,none⟩=some (zI ((q j).n:Int))/\w.cell? ⟨g,j*4+3,none⟩=some (.slice (A j) (L j) (C j))
def ib.next {w w':zW} {a:Option zD} {n:Nat} {q:Nat->Pt} {A:Nat->Option zD} {L C:Nat->Nat} (h:ib w a n q A L C) (c:zB w w'):ib w' a n q A L C:=λj e=>by
 obtain ⟨g,d,b,c0,c1,c2,c3⟩:=h j e;exact ⟨g,d,bG b c.size,(c.cell (p:=⟨g,j*4,none⟩) b).t c0,(c.cell (p:=⟨g,j*4+1,none⟩) b).t c1,(c.cell (p:=⟨g,j*4+2,none⟩) b).t c2,(c.cell (p:=⟨g,j*4+3,none⟩) b).t c3⟩
def yC {w:zW} {g:Nat} {u0 u1:zV} {a:TypeId} (h:w.heap[g]?=some (.cells #[u0,u1] a (0,0))) (v0 v1:zV):((w.setCell ⟨g,0,none⟩ v0).setCell ⟨g,1,none⟩ v1).heap[g]?=some (.cells #[v0,v1] a (0,0)):=by
 rw [aj (aj h 0 v0) 1 v1];rfl
def kG (r:zV) (w:zW) (n:Nat) (q:Nat->Pt) (A:Nat->Option zD) (L C:Nat->Nat) (v:Nat->Vl):Prop:=
 ∀ j,j<n->∀ W,zB w W->zC prog 220 #[.agg #[bH r],.agg #[zI ((q j).k:Int),.string ⟨((q j).nm).toArray⟩,zI ((q j).n:Int),.slice (A j) (L j) (C j)]] W (dx (v j) W)
def kG.next {r:zV} {w w':zW} {n:Nat} {q:Nat->Pt} {A:Nat->Option zD} {L C:Nat->Nat} {v:Nat->Vl} (h:kG r w n q A L C v) (a:zB w w'):kG r w' n q A L C v:=
 λj b W c=>h j b W (a.t (c.m a.size))
def kG.only {r:zV} {w:zW} {n:Nat} {q:Nat->Pt} {A:Nat->Option zD} {L C:Nat->Nat} {v:Nat->Vl} (h:kG r w n q A L C v) (j:Nat) (a:j<n) (k:Int) :
  zC prog 243 #[.agg #[bH r],zI k,.agg #[zI ((q j).k:Int),.string ⟨((q j).nm).toArray⟩,zI ((q j).n:Int),.slice (A j) (L j) (C j)]] w (dx (aP k (v j)) w):=
 acz r k _ _ _ _ _ _ _ w (λW b=>h j a W b)
def Dl (r:zV) (d:Vl) (p:Pt) (a:Option zD) (n c:Nat) (w:zW) (q:Nat->Pt) (A:Nat->Option zD) (L C:Nat->Nat) (v:Nat->Vl) (hn:2<=n) (hn3:n<=3) (G:ib w a n q A L C) (T:kG r w n q A L C v) :
  zC prog 245 #[.agg #[bH r],.agg #[zI d.1,zI d.2],.agg #[zI p.k,zG p.nm,zI p.n,.slice a n c]] w (dx (dH d (v 0) (v 1)) w):=by
 obtain ⟨g,rfl,s,c0,c1,c2,c3⟩:=G 0 ae;obtain ⟨g',GU,_,d0,d1,d2,d3⟩:=G 1 ae;obtain rfl:g=g':=Cq;rw [jC] at c0 c1 c2 c3;rw [mQ] at d0 d1 d2 d3;have H:=I T;have wR:(0:Int)<(n:Int):=ae;have hn2:(1:Int)<(n:Int):=ae;obtain ⟨i,l⟩:=d;clear G T GU;obtain ⟨W4,lX⟩:∃ W4,W4=((((w.alloc (.cells #[bH r] 306)).alloc (.cells #[zI i,zI l] 177)).alloc (.cells #[zI p.k,zG p.nm,zI p.n,zS g n c] 87)).alloc (.cells #[zI 0,zI 0] 177)):=⟨_,rfl⟩;have x:W4.heap.size=w.heap.size+1+1+1+1:=G6;have f:zB w W4:=by rw [lX];exact (og w _ _ _).alloc aN _
 have J:W4.heap[w.heap.size]?=some (.cells #[bH r] 306 (0,0)):=by
  rw [lX,cj _ _ _ aN,cj _ _ _ aN,cj _ _ _ aq];exact bL w _
 have P:W4.heap[w.heap.size+1]?=some (.cells #[zI i,zI l] 177 (0,0)):=by
  rw [lX,cj _ _ _ aq,cj _ _ _ aq];exact bc w _ _ _
 have M:W4.heap[w.heap.size+1+1]?=some (.cells #[zI p.k,zG p.nm,zI p.n,zS g n c] 87 (0,0)):=by
  rw [lX,cj _ _ _ aq];exact fZ w _ _ _ _
 have V:W4.heap[w.heap.size+1+1+1]?=some (.cells #[zI 0,zI 0] 177 (0,0)):=by
  have:=bL (((w.alloc (.cells #[bH r] 306)).alloc (.cells #[zI i,zI l] 177)).alloc (.cells #[zI p.k,zG p.nm,zI p.n,zS g n c] 87)) (.cells #[zI 0,zI 0] 177);rw [lX];simpa using this
 have C0:=(f.cell (p:=⟨g,0,none⟩) s).t c0;have U:=(f.cell (p:=⟨g,0+1,none⟩) s).t c1;have Z:=(f.cell (p:=⟨g,0+2,none⟩) s).t c2;have C3:=(f.cell (p:=⟨g,0+3,none⟩) s).t c3;rw [cS] at U Z C3;obtain ⟨i0,_,_⟩:=Aq J;obtain ⟨⟨i1,S⟩,_,_⟩:=cq P;obtain ⟨⟨_,_,_,i2⟩,_,_⟩:=aX M;have k:=I f;have HR:=I (And.intro J (And.intro P (And.intro M V)));have y:=I lX;have o:g<W4.heap.size:=ae;have Q:w.heap.size<W4.heap.size:=ae;have N:w.heap.size+1<W4.heap.size:=ae;have F:w.heap.size+1+1<W4.heap.size:=ae;have u:w.heap.size+1+1+1<W4.heap.size:=ae;have Jt:=I (show zC prog 243 #[.agg #[bH r],zI 2,.agg #[zI ((q 0).k:Int),.string ⟨((q 0).nm).toArray⟩,zI ((q 0).n:Int),.slice (A 0) (L 0) (C 0)]] W4.drew λe w1=>e=.returned (.agg #[zI (aP 2 (v 0)).1,zI (aP 2 (v 0)).2])/\zB W4 w1 from
  ((H.o.next (w':=W4.drew) f.drew).only 0 ae 2).m λe w1 h=>⟨h.1,(aM _ _).drew.t h.2⟩)
 have HCB:=I (show zC prog 243 #[.agg #[bH r],zI 2,.agg #[zI ((q 0).k:Int),.string ⟨((q 0).nm).toArray⟩,zI ((q 0).n:Int),.slice (A 0) (L 0) (C 0)]] (W4.alloc (.cells #[zI 0,zI 0] 177)).drew λe w1=>e=.returned (.agg #[zI (aP 2 (v 0)).1,zI (aP 2 (v 0)).2])/\zB W4 w1/\w1.heap[W4.heap.size]?=some (.cells #[zI 0,zI 0] 177 (0,0)) from
  ((H.o.next (w':=(W4.alloc (.cells #[zI 0,zI 0] 177)).drew) (f.alloc f.size _).drew).only 0 ae 2).m λe w1 h=>⟨h.1,(bZ _).drew.t (h.2.m Zu),(h.2.block W4.heap.size Zv).t (bL W4 _)⟩)
 go_in
 go_upto_region 1 with fail
 rw [<- y.o];have HS4:=I x;clear lX y J P M V x f
 go_cut [7] (λs7 wc=>∃ B,s7=zJ B/\W4.heap.size<=B/\Hid (zB W4 wc)/\wc.heap[B]?=some (.cells #[zI (aP 2 (v 0)).1,zI (aP 2 (v 0)).2] 177 (0,0)))
 case first=>
  exact Wx
 case rest=>
 obtain ⟨B,rfl,hgF,b,hF⟩:=hcut;obtain ⟨X,Y,R2,O⟩:=HR.o;have ag0:=b.o.size;obtain ⟨⟨x0,x1⟩,_,hsF⟩:=cq hF;obtain ⟨i0',_,_⟩:=Aq ((b.o.block _ Q).t X);obtain ⟨⟨j0,j1⟩,_,_⟩:=cq ((b.o.block _ N).t Y);obtain ⟨⟨_,_,_,j2⟩,_,_⟩:=aX ((b.o.block _ F).t R2);obtain ⟨⟨k0,k1⟩,⟨f0,f1⟩,E⟩:=cq ((b.o.block _ u).t O);have R:=I ((b.o.block _ u).t O);have wO:=I (k.o.t (b.o.m k.o.size));have e0:=(b.o.cell (p:=⟨g,4,none⟩) o).t ((k.o.cell (p:=⟨g,4,none⟩) s).t d0);have e1:=(b.o.cell (p:=⟨g,4+1,none⟩) o).t ((k.o.cell (p:=⟨g,4+1,none⟩) s).t d1);have e2:=(b.o.cell (p:=⟨g,4+2,none⟩) o).t ((k.o.cell (p:=⟨g,4+2,none⟩) s).t d2);have e3:=(b.o.cell (p:=⟨g,4+3,none⟩) o).t ((k.o.cell (p:=⟨g,4+3,none⟩) s).t d3);have SU:=I (λW (hb:zB wc W)=>(H.o.next (wO.o.t (hb.m wO.o.size))).only 1 ae 2);clear hF X Y R2 O i0 i1 S i2 C0 U Z C3 c0 c1 c2 c3 d0 d1 d2 d3 Jt HCB;generalize D:aP 2 (v 0)=vf at *;obtain ⟨fk,fn⟩:=vf;have t:=I D;clear D;have Rv:B≠w.heap.size+1+1+1:=ae;by_cases j:(fk,fn)=(i,l)\/fk=3
 ·have HU:=I (show dH (i,l) (v 0) (v 1)=(fk,fn) by unfold dH;rw [t.o,aB j]);rcases j with j|j
  ·obtain ⟨rfl,rfl⟩:=Prod.mk.inj j;have z:(fk == fk)=true:=aq;have K:(fn == fn)=true:=aq;clear j;exact Gj
  ·have q3:(fk == 3)=true:=by simp [j]
   by_cases hk:fk=i
   ·by_cases m:fn=l
    ·have z:(fk == i)=true:=oW;have K:(fn == l)=true:=by simp [m]
     clear j hk m;exact Gj
    ·have z:(fk == i)=true:=oW;have K:(fn == l)=false:=bo.2 m;clear j hk m;exact Gj
   ·have z:(fk == i)=false:=bo.2 hk;clear j hk;exact Gj
 ·have HU:=I (show dH (i,l) (v 0) (v 1)=aP 2 (v 1) by unfold dH;rw [t.o,aA j]);have q3:(fk == 3)=false:=bo.2 (λh=>j (Or.inr h));have q0:fk=i->fn≠l:=λh1 h2=>j (Or.inl (by rw [h1,h2]));clear j;have iL:=I (show ∀ w2,zB wc w2->dx (dH (i,l) (v 0) (v 1)) w (.returned (.agg #[zI (aP 2 (v 1)).1,zI (aP 2 (v 1)).2])) ((w2.setCell ⟨w.heap.size+1+1+1,0,none⟩ (zI (aP 2 (v 1)).1)).setCell ⟨w.heap.size+1+1+1,1,none⟩ (zI (aP 2 (v 1)).2)) from λw2 hb2=>by
   rw [HU.o];exact ⟨rfl,dJ (wO.o.t (hb2.m wO.o.size)) _ ae _ _⟩)
  have akt:=I (show ∀ w2,zB wc w2->_ from λw2 (hb2:zB wc w2)=>cq ((hb2.block _ E).t R.o));by_cases hk:fk=i
  ·have z:(fk == i)=true:=oW;have K:(fn == l)=false:=bo.2 (q0 hk);exact WD
  ·have z:(fk == i)=false:=bo.2 hk;exact WD
section
section
def fV (ts:List (By × Nat)):Prop:=∀ t p,(t,p)∈ts->(di t=true/\∃ c r,t=c::r/\c≠63/\c≠78)/\(headD t=true->kv t)
def xj (f:Nat) (l:By) (k:Nat) (t:By) (p:Nat) (h:(t,p)∈(bW f l k).1):headD t=true->kv t:=by
 induction f generalizing l k with
 | zero=>simp [bW] at h
 | succ f a=>
  match l with
  | []=>simp [bW] at h
  | c::r=>
   unfold bW at h;split at h
   ·exact a _ _ h
   ·split at h
    ·simp only [bQ,mI] at h;rcases h with ⟨rfl,rfl⟩|h
     ·rw [vp];intro b;exact FC c r b
     ·exact a _ _ h
    ·simp at h
def cQ (x:By) (n:Nat) (c:(x,n)∈eb) (t:By) (k:Nat) (h:ij t k):k=n↔t=x:=by
 have l:∀ y,y∈eb->headD y.1=false/\bm y.1=false/\y.1≠[]/\y.2≠1/\y.2≠2/\y.2≠0:=ai;obtain ⟨i,d,j,g,f,b⟩:=l _ c;simp only at i d j g f b;have a:∀ y,y∈eb->∀ z,z∈eb->(y.2=z.2↔y.1=z.1):=ai;rcases h with ⟨h,rfl⟩|⟨_,h,rfl⟩|⟨rfl,rfl⟩|h
 ·exact ⟨λe=>absurd e.symm g,λe=>by rw [e,i] at h;cases h⟩
 ·exact ⟨λe=>absurd e.symm f,λe=>by rw [e,d] at h;cases h⟩
 ·exact ⟨λe=>absurd e.symm b,λe=>absurd e.symm j⟩
 ·exact a _ h _ c
def QE (t:By) (k:Nat) (h:ij t k) (d:k=1\/k=2\/k=7\/k=8):b5 t kq=false/\zT t=true:=by
 rcases h with ⟨b,_⟩|⟨_,a,_⟩|⟨_,h⟩|h
 ·exact ⟨ni t kq (λx c=>gG t x b GZ),by simp [zT,b]⟩
 ·exact ⟨ni t kq (λx c=>fD t x a GZ),by simp [zT,a]⟩
 ·omega
 ·exact WH
def Lz (n:Nat) (c:1<=n) (b:n<=5) (t:By) (h:b5 t (dc n)=true):b5 t kq=true/\zT t=false/\t≠[]:=by
 have a:n=1\/n=2\/n=3\/n=4\/n=5:=ae;simp only [b5,pF] at h;rcases a with rfl|rfl|rfl|rfl|rfl<;>simp only [dc,bQ,jA,iK] at h
 ·subst h;decide
 ·subst h;decide
 ·rcases h with rfl|rfl<;>decide
 ·rcases h with rfl|rfl<;>decide
 ·rcases h with rfl|rfl|rfl<;>decide
def Vi (n:Nat) (g:1<=n) (i:n<=5) (t:By) (k:Nat) (h:b5 t (dc n)=true) (c:ij t k):fu (k:Int)++eh t=lL k/\iP k=[]/\jO k=[]/\k≠1:=by
 have e:n=1\/n=2\/n=3\/n=4\/n=5:=ae;have a:∀ x m,(x,m)∈eb->t=x->(fu (m:Int)++eh x=lL m/\iP m=[]/\jO m=[]/\m≠1)->fu (k:Int)++eh t=lL k/\iP k=[]/\jO k=[]/\k≠1:=by
  intro x m f b h;have d:=(cQ x m f t k c).2 b;subst d b;exact h
 simp only [b5,pF] at h;rcases e with rfl|rfl|rfl|rfl|rfl<;>simp only [dc,bQ,jA,iK] at h
 ·exact a _ 5 ai h ai
 ·exact a _ 4 ai h ai
 ·rcases h with h|h
  ·exact a _ 18 ai h ai
  ·exact a _ 19 ai h ai
 ·rcases h with h|h
  ·exact a _ 12 ai h ai
  ·exact a _ 13 ai h ai
 ·rcases h with h|h|h
  ·exact a _ 15 ai h ai
  ·exact a _ 16 ai h ai
  ·exact a _ 17 ai h ai
section
variable {ts:List (By × Nat)}
def fV.get (b:fV ts) {i:Nat} (a:i<G ts):di (aw ts i)=true/\∃ c r,aw ts i=c::r/\c≠63/\c≠78:=by
 rw [eY ts i a];exact (b ts[i].1 ts[i].2 (bt a)).1
def fV.dig (b:fV ts) {i:Nat} (a:i<G ts):headD (aw ts i)=true->kv (aw ts i):=by
 rw [eY ts i a];exact (b ts[i].1 ts[i].2 (bt a)).2
def uE {i:Nat} {x:By} (b:x≠[]) (h:aw ts i=x):i<(G ts):=by
 rcases cC i (G ts) with a|a
 ·exact a
 ·rw [kV ts i a] at h;exact absurd h.symm b
def sk {i:Nat} (a:i<G ts):pq ts (i+1)=some (aw ts i):=by
 rw [Ap ts i ae,eY ts i a]
def sr {i:Nat} (a:i<G ts):bV ts (i+1)=bV ts i++cM (pq ts i) (aw ts i):=by
 rw [x8 ts i a,eY ts i a]
def kf {i:Nat} (x:By) (k:Nat) (e:(x,k)∈eb) (b:b5 x kq=false) (d:x≠[]) (c:k≠0) (h:aw ts i=x):bV ts (i+1)=bV ts i++(fu (k:Int)++eh x)/\pq ts (i+1)=some x/\i<(G ts):=by
 have a:=uE d h;refine ⟨?_,by rw [sk a,h],a⟩;rw [sr a,h,yc _ x k (Or.inr (Or.inr (Or.inr e))) c b]
def Vj (t:By) (k:Nat) (b:ij t k) (d:k=1\/k=2\/k=7\/k=8) (c:headD t=true->kv t) (a:t≠[]):fu (k:Int)++eh t=txt (.atom k (ej t) (fw t)):=by
 show _=iP k++ej t++gu k (fw t)++[]++jO k;rcases b with ⟨h,rfl⟩|⟨h,e,rfl⟩|⟨_,h⟩|h
 ·rw [LA t h];unfold ej fw gu;rw [h];simp only [jq];rw [Ql t a (c h)];simp [fu,p7,iP,tD,jO,tE]
 ·unfold ej gu;rw [h];simp [fu,p7,iP,tD,jO,tE]
 ·omega
 ·exact WI
def bh.told (u:fV ts) {n i j:Nat} {p:Pt} (h:bh ts n i j p):tK (pq ts i)=false->j<=G ts/\tK (pq ts j)=true/\bV ts j=bV ts i++txt p:=by
 induction h with
 | atom i k o s K=>
  intro _;obtain ⟨x,F⟩:=QE _ k s K;obtain ⟨_,c,r,y,_⟩:=u.get o;refine ⟨ae,by rw [sk o];exact F,?_⟩;rw [sr o,yc _ _ k s ae x,Vj _ k s K (u.dig o) (by rw [y];simp)]
 | jV i j a e _ g=>
  intro _;obtain ⟨e1,q,_⟩:=kf (ts:=ts) [110,111,116] 6 ai ai ai ai e;obtain ⟨d,t,m⟩:=g (by rw [q];decide);refine ⟨d,t,?_⟩;rw [m,e1];simp [txt,jn,fu,p7,eh,headD,cT,dm,fH,iA,dX,iP,tD,jO,tE,gu]
 | neg i j a e _ g=>
  intro C;have o:=uE ai e;obtain ⟨d,t,m⟩:=g (by rw [sk o,e];decide);refine ⟨d,t,?_⟩;rw [m,sr o,e,QF _ C];simp [txt,jn,fu,p7,iP,tD,jO,tE,gu]
 | br i j a e _ v g=>
  intro _;obtain ⟨e1,q,_⟩:=kf (ts:=ts) [40] 9 ai ai ai ai e;obtain ⟨f1,f2,f3⟩:=kf (ts:=ts) [41] 10 ai ai ai ai v;obtain ⟨d,t,m⟩:=g (by rw [q];decide);refine ⟨ae,by rw [f2];decide,?_⟩;rw [f1,m,e1];simp [txt,jn,fu,p7,eh,headD,cT,dm,fH,iA,dX,iP,tD,jO,tE,gu]
 | ifs i W Y X a b c e v _ d _ t _ m f l B=>
  intro _;obtain ⟨e1,q,_⟩:=kf (ts:=ts) [105,102] 3 ai ai ai ai e;obtain ⟨f1,f2,_⟩:=kf (ts:=ts) [40] 9 ai ai ai ai v;obtain ⟨T,N,_⟩:=kf (ts:=ts) [44] 11 ai ai ai ai d;obtain ⟨L,M,_⟩:=kf (ts:=ts) [44] 11 ai ai ai ai t;obtain ⟨R,Q,Z⟩:=kf (ts:=ts) [41] 10 ai ai ai ai m;obtain ⟨_,_,D⟩:=f (by rw [f2];decide);obtain ⟨_,_,z⟩:=l (by rw [N];decide);obtain ⟨_,_,c3⟩:=B (by rw [M];decide);refine ⟨ae,by rw [Q];decide,?_⟩;rw [R,c3,L,z,T,D,f1,e1];simp [txt,jn,fu,p7,eh,headD,cT,dm,fH,iA,dX,iP,tD,jO,tE,gu,lL,EF]
 | up n i j a _ _ _ g=>exact g
 | more n i j j' k a b d J _ hs s _ f l=>
  intro C;obtain ⟨w,A,E⟩:=Lz n d J _ hs;obtain ⟨e1,q,V,S⟩:=Vi n d J _ k hs s;have H:j<(G ts):=by
   rcases cC j (G ts) with h|h
   ·exact h
   ·exact absurd (kV ts j h) E
  obtain ⟨_,U,D⟩:=f C;obtain ⟨O,P,z⟩:=l (by rw [sk H];exact A);refine ⟨O,P,?_⟩;rw [z,sr H,Vk _ _ k s w U,e1,D];simp [txt,jn,q,V,S,gu]
end
end
end
section
section
def aL (len:Nat) (ts:List (By × Nat)):List PT:=ts.map (λx=>(fU x.1,x.2,ej x.1,fw x.1))++[(0,len,[],0)]
section
variable {len:Nat} {ts:List (By × Nat)}
def kP:(aL len ts).length=G ts+1:=by simp [aL]
def qY {i:Nat} (h:i<(aL len ts).length) (a:i<G ts):(aL len ts)[i]=(fU (aw ts i),eF len ts i,ej (aw ts i),fw (aw ts i)):=by
 have b:eF len ts i=ts[i].2:=by simp [eF,a]
 rw [eY ts i a,b];simp [aL,a]
def r7 {i:Nat} (h:i<(aL len ts).length) (a:¬ i<G ts):(aL len ts)[i]=(0,len,[],0):=by
 simp [aL,yq,a]
def Fx {i:Nat} (h:i<(aL len ts).length):((aL len ts)[i]).2.1=eF len ts i:=by
 by_cases a:i<G ts
 ·rw [qY h a]
 ·rw [r7 h a];simp [eF,show (G ts)<=i from ae]
def fV.tk (e:fV ts) {i:Nat} (f:i<G ts):Tk (aw ts i):=by
 obtain ⟨_,c,r,h,d,a⟩:=e.get f;rw [h];exact ⟨c,r,rfl,d,λb=>a (by unfold cE at b;simp at b;exact b.1)⟩
def fV.LC (e:fV ts) (i:Nat):aw ts i≠iF:=by
 by_cases f:i<G ts
 ·obtain ⟨_,c,r,h,d,a⟩:=e.get f;rw [h];intro b;apply a;unfold iF at b;simp at b;exact b.1
 ·rw [kV ts i ae];decide
def fV.cls (g:fV ts) {i:Nat} (h:i<(aL len ts).length):∃ k:Nat,ij (aw ts i) k/\((aL len ts)[i]).1=(k:Int)/\k<20/\(k=0↔¬ i<G ts):=by
 by_cases d:i<G ts
 ·obtain ⟨j,c,r,f,_⟩:=g.get d;obtain ⟨k,a,e⟩:=Kc (aw ts i) j (by rw [f];simp);refine ⟨k,a,by rw [qY h d];exact e,?_,?_⟩
  ·rcases a with ⟨_,rfl⟩|⟨_,_,rfl⟩|⟨_,rfl⟩|hm
   ·omega
   ·omega
   ·omega
   ·exact Zi
  ·constructor
   ·rintro rfl;rcases a with ⟨_,b⟩|⟨_,_,b⟩|⟨b,_⟩|hm
    ·omega
    ·omega
    ·rw [f] at b;cases b
    ·exact absurd ((show ∀ x,x∈eb->x.2≠0 from ai) _ hm rfl) id
   ·intro b;exact absurd d b
 ·refine ⟨0,Or.inr (Or.inr (Or.inl ⟨kV ts i ae,rfl⟩)),by rw [r7 h d];rfl,ae,by simp [d]⟩
def fV.word (a:fV ts) {i:Nat} (h:i<(aL len ts).length) (x:By) (n:Nat) (d:(x,n)∈eb):((aL len ts)[i]).1=(n:Int)↔aw ts i=x:=by
 obtain ⟨k,b,c,_,_⟩:=a.cls h;rw [c];have:=cQ x n d _ k b;constructor
 ·intro h;exact this.1 ae
 ·intro h;have:=this.2 h;omega
end
structure St (len:Nat) (ts:List (By × Nat)) (w:zW) (b bl cp i:Nat) (d:Nat) (e:Int):Prop where
 rd:cX w b bl cp (aL len ts) i (d:Int) e
 env:Env w
 low:11<=bl
def St.le {len:Nat} {ts:List (By × Nat)} {w:zW} {b bl cp i d:Nat} {e:Int} (h:St len ts w b bl cp i d e):i<=(G ts):=by
 have:=h.rd.lt;rw [kP] at this;omega
def dQ (len:Nat) (ts:List (By × Nat)) (S:List By) (D:Nat->Pt->Prop) (c1:Nat) (b bl cp i d:Nat) (e:Int) (w:zW) (r:Ending) (w':zW):Prop:=
 (∃ (f m:Nat) (p:Pt) (a:Option zD) (l c:Nat),r=.returned (.tuple #[.agg #[zI p.k,zG p.nm,zI p.n,.slice a l c],.bool true])/\dR w' (λq=>w.heap.size<=q/\q<w'.heap.size) p a l c/\D f p/\St len ts w' b bl cp f d e/\i<f/\Kp b w w'/\m+c1<=20*(f - i)/\kH len ts S i f m) \/
 (∃ (f m:Nat) (d' er k n:Int) (s:By) (a:Option zD) (l c:Nat),r=.returned (.tuple #[.agg #[zI k,zG s,zI n,.slice a l c],.bool false])/\cX w' b bl cp (aL len ts) f d' er/\er≠0/\Kp b w w'/\m+c1<=20*(G ts - i)+20/\ic len ts S i er (eF len ts f) m)
def zv (len:Nat) (ts:List (By × Nat)) (b bl cp F:Nat):Prop:=
 ∀ (n i d:Nat) (e:Int) (w:zW),1<=n->n<=6->d<=6->10*(G ts - i)+(7 - n)<F->St len ts w b bl cp i d e ->
  zC prog 93 #[zJ b,zI n] w (dQ len ts [aH (lv n) d] (λa p=>bh ts n i a p) (2*n) b bl cp i d e w)
def St.Ay {len:Nat} {ts:List (By × Nat)} {w:zW} {b bl cp i d:Nat} {e:Int} (h:St len ts w b bl cp i d e) (d':Nat) :
  St len ts (w.setCell ⟨b,1,none⟩ (zI d')) b bl cp i d' e/\Kp b w (w.setCell ⟨b,1,none⟩ (zI d')):=by
 obtain ⟨c,a⟩:=h.rd.Ay (d':Int);exact ⟨⟨c,h.env.below a.bS Ro,h.low⟩,a⟩
def St.down {len:Nat} {ts:List (By × Nat)} {w w':zW} {b bl cp i a d d':Nat} {e c:Int} (h:St len ts w b bl cp i d e) (g:cX w' b bl cp (aL len ts) a (d':Int) c) (f:Below b w w'):St len ts w' b bl cp a d' c:=
 ⟨g,h.env.below f Ro,h.low⟩
def St.next {len:Nat} {ts:List (By × Nat)} {w w':zW} {b bl cp i d:Nat} {e:Int} (h:St len ts w b bl cp i d e) (a:zB w w'):St len ts w' b bl cp i d e:=
 ⟨h.rd.next a,h.env.next a,h.low⟩
def St.store {len:Nat} {ts:List (By × Nat)} {w:zW} {b bl cp i d:Nat} {e:Int} (h:St len ts w b bl cp i d e) {g j:Nat} {u:zV} (a:b<g):St len ts (w.setCell ⟨g,j,none⟩ u) b bl cp i d e:=
 ⟨h.rd.store ae (by have:=h.rd.blk;omega),h.env.below ((aM b w).setCell (p:=⟨g,j,none⟩) (by show b<=g;omega) _) Ro,h.low⟩
def St.ep {len:Nat} {ts:List (By × Nat)} {w:zW} {b bl cp i d:Nat} {e:Int} (h:St len ts w b bl cp i d e) (g:Nat) (v0 v1 v2 v3:zV) (a:b<g):St len ts ((((w.setCell ⟨g,0,none⟩ v0).setCell ⟨g,1,none⟩ v1).setCell ⟨g,2,none⟩ v2).setCell ⟨g,3,none⟩ v3) b bl cp i d e:=
 (((h.store a).store a).store a).store a
def zw (n:Nat) (t:By):Prop:=(n=3/\t=[110,111,116])\/(n=6/\t=[45])
def vZ (n:Nat) (t:By) (d:Nat) (h:zw n t) (b:d<6):ku (lv n) d t=[t,aH (lv n) (d+1)]:=by
 have a:∀ k,eT t k d=[t,aH k (d+1)]:=λk=>by unfold eT;rw [aA ae]
 rcases h with ⟨rfl,rfl⟩|⟨rfl,rfl⟩
 ·exact a 84
 ·exact a 65
def Eu (n:Nat) (t:By) (h:zw n t):ku (lv n) 6 t=[fj]:=by
 rcases h with ⟨rfl,rfl⟩|⟨rfl,rfl⟩<;>decide
def LD (n:Nat) (t:By) (k:Nat) (h:zw n t) (a:ij t k):(n=3/\k=6)\/(n=6/\k=13):=by
 rcases h with ⟨rfl,rfl⟩|⟨rfl,rfl⟩
 ·exact Or.inl ⟨rfl,(cQ [110,111,116] 6 ai _ k a).2 rfl⟩
 ·exact Or.inr ⟨rfl,(cQ [45] 13 ai _ k a).2 rfl⟩
def dR.un {w:zW} {S:Nat->Prop} {p:Pt} {a:Option zD} {l c g:Nat} {t:TypeId} {fr:Nat × Nat} (k:Nat) (h:dR w S p a l c) (d:S g) (hb:w.heap[g]?=some (.cells #[zI p.k,zG p.nm,zI p.n,.slice a l c] t fr)) (b:Nat):dR w S (.un k p) (some ⟨g,0,none⟩) 1 b:=by
 refine dR.node (.un k p) g b (λ_=>a) (λ_=>l) (λ_=>c) d (by simp [Pt.kids]) (λj hj=>?_) (λj hj=>?_)
 ·obtain rfl:j=0:=vO;exact Xa
 ·obtain rfl:j=0:=vO;exact h
def dR.bin {w:zW} {S:Nat->Prop} {p d:Pt} {a m:Option zD} {l c i f g:Nat} {t:TypeId} {fr:Nat × Nat} (k:Nat) (h:dR w S p a l c) (n:dR w S d m i f) (o:S g) (hb:w.heap[g]?=some (.cells #[zI p.k,zG p.nm,zI p.n,.slice a l c,zI d.k,zG d.nm,zI d.n,.slice m i f] t fr)) (e:Nat):dR w S (.bin k p d) (some ⟨g,0,none⟩) 2 e:=by
 refine dR.node (.bin k p d) g e (λj=>if j=0 then a else m) (λj=>if j=0 then l else i) (λj=>if j=0 then c else f) o (by simp [Pt.kids]) (λj hj=>?_) (λj hj=>?_)
 ·have b:j=0\/j=1:=vO;rcases b with rfl|rfl
  ·exact Xa
  ·exact ⟨(bq w g 4 _ _ _ hb).t rfl,(bq w g 5 _ _ _ hb).t rfl,(bq w g 6 _ _ _ hb).t rfl,(bq w g 7 _ _ _ hb).t rfl⟩
 ·have b:j=0\/j=1:=vO;rcases b with rfl|rfl
  ·exact h
  ·exact n
end
end
def Env.adE {w:zW} (h:Env w) (k:Nat) (b:k<20):w.cell? ⟨4,k*3,none⟩=some (.string ⟨(iP k).toArray⟩)/\w.cell? ⟨4,k*3+1,none⟩=some (.string ⟨(lL k).toArray⟩)/\w.cell? ⟨4,k*3+2,none⟩=some (.string ⟨(jO k).toArray⟩):=by
 obtain ⟨t,fr,a⟩:=h.spell;rw [bq w 4 _ _ _ _ a,bq w 4 _ _ _ _ a,bq w 4 _ _ _ _ a];rcases (show k=0\/k=1\/k=2\/k=3\/k=4\/k=5\/k=6\/k=7\/k=8\/k=9\/k=10\/k=11\/k=12\/k=13\/k=14\/k=15\/k=16\/k=17\/k=18\/k=19 from ae) with rfl|rfl|rfl|rfl|rfl|rfl|rfl|rfl|rfl|rfl|rfl|rfl|rfl|rfl|rfl|rfl|rfl|rfl|rfl|rfl<;>exact ⟨rfl,rfl,rfl⟩
def Good:Pt->Prop
 | .atom k _ n=>k<20/\n<=gP
 | .un k a=>k<20/\Good a
 | .bin k a b=>k<20/\Good a/\Good b
 | .ifs a b c=>Good a/\Good b/\Good c
def Good.get {p:Pt} (h:Good p):p.k<20/\p.n<=gP/\∀ j (hj:j<G p.kids),Good p.kids[j]:=by
 cases p with
 | atom k x n=>exact ⟨h.1,h.2,λj hj=>by simp [Pt.kids] at hj⟩
 | un k a=>
  refine ⟨h.1,bE _,λj hj=>?_⟩;obtain rfl:j=0:=vO;exact h.2
 | bin k a b=>
  refine ⟨h.1,bE _,λj hj=>?_⟩;rcases (show j=0\/j=1 from vO) with rfl|rfl
  ·exact h.2.1
  ·exact h.2.2
 | ifs a b c=>
  refine ⟨by show 3<20;omega,bE _,λj hj=>?_⟩;rcases (show j=0\/j=1\/j=2 from vO) with rfl|rfl|rfl
  ·exact h.1
  ·exact h.2.1
  ·exact h.2.2
def ij.lt {t:By} {k:Nat} (h:ij t k):k<20:=by
 rcases h with ⟨_,rfl⟩|⟨_,_,rfl⟩|⟨_,rfl⟩|hm
 ·omega
 ·omega
 ·omega
 ·exact Zi
def agk (t:By) (h:di t=true):fw t<=gP:=by
 unfold fw;by_cases a:headD t=true
 ·rw [a];simp only [jq];unfold di at h;rw [a] at h;simp only [jq,qA,pG] at h;exact h.2
 ·rw [aA a];exact bE _
def bh.good {ts:List (By × Nat)} (d:fV ts) {n i j:Nat} {p:Pt} (h:bh ts n i j p):Good p:=by
 induction h with
 | atom i k g f _=>exact ⟨f.lt,agk _ (d.get g).1⟩
 | jV _ _ _ _ _ b=>exact ⟨ai,b⟩
 | neg _ _ _ _ _ b=>exact ⟨ai,b⟩
 | br _ _ _ _ _ _ b=>exact ⟨ai,b⟩
 | ifs _ _ _ _ _ _ _ _ _ _ _ _ _ _ _ a c e=>exact ⟨a,c,e⟩
 | up _ _ _ _ _ _ _ b=>exact b
 | more _ _ _ _ _ _ _ _ _ _ _ f _ a c=>exact ⟨f.lt,a,c⟩
def Bu (b:Nat) (a:By) (w:zW):Prop:=Lib.IsBuilderF 170 5 b b (Lib.byteCells a) w/\b<w.heap.size
structure qs (b:Nat) (w w':zW):Prop where
 bS:Below b w w'
 oth:Lib.OthersKept 5 (some b) w w'
def qs.t {b:Nat} {w w' a:zW} (h:qs b w w') (g:qs b w' a):qs b w a:=⟨h.bS.t g.bS,h.oth.t g.oth⟩
def qs.refl (b:Nat) (w:zW):qs b w w:=⟨aM _ _,Lib.OthersKept.refl _ _ _⟩
def qs.next {b:Nat} {w w' a:zW} (h:qs b w w') (g:zB w' a) (e:b<=w'.heap.size):qs b w a:=⟨h.bS.t (g.m e),λk o i d f=>by
 have c:=h.oth k o i d f;rw [g.block k (cz.1 c).1];exact c⟩
def DW {T e:TypeId} {B b:Nat} {p:zV} {c:List zV} {w w':zW} (h:Lib.BuilderAtF T e B b p c w) (g:zB w w'):Lib.BuilderAtF T e B b p c w':=by
 have a:=h.lt;obtain ⟨d,v,f,l,i⟩:=h;refine ⟨d,v,(g.block b a).t f,l.kept (row:=none) ⟨g.os,g.tape,g.output,g.size,λk j _=>g.block k j⟩ ?_,i⟩;cases v.ownBlock with
 | none=>exact Or.inl rfl
 | some x=>exact Or.inr aq
def Bu.next {b:Nat} {a:By} {w w':zW} (h:Bu b a w) (g:zB w w'):Bu b a w':=⟨h.1.elim (λx=>Or.inl (DW x g)) (λx=>Or.inr (DW x g)),bG h.2 g.size⟩
def qs.blk {b q:Nat} {w w':zW} {cs:Array zV} {t:TypeId} {fr:Nat × Nat} (h:qs b w w') (d:w.heap[q]?=some (.cells cs t fr)) (hn:q≠b) (a:t≠5):w'.heap[q]?=some (.cells cs t fr):=
 h.oth q _ d Oo (λc f e=>by simp only [Obj.cells.injEq] at e;exact a e.2.1)
def ag6 (b:Nat) (a s:By) (w:zW) (h:Bu b a w) (g:(G a)+G s<=1000000) :
  zC prog 131 #[zJ b,zG s] w λe w'=>e=.returned (.tuple #[zI (G s),.nilIface])/\Bu b (a++s) w'/\qs b w w':=by
 refine (Builder_WriteString_k b b _ ⟨s.toArray⟩ w h.1 (by show (a.map _).length+G s<=_;rw [fy];omega) (by have:=h.2;omega)).m ?_;rintro e w' ⟨rfl,d,c,f⟩;refine ⟨rfl,⟨?_,bG h.2 c.size⟩,c,f⟩;have e1:Lib.byteCells (a++s)=Lib.byteCells a++Lib.strCells ⟨s.toArray⟩:=by
  show (a++s).map _=a.map _++s.map _;rw [fK]
 rw [e1];exact Or.inr d
def EA (a:By) (l:List By) (j:Nat) (h:j<G l):jn a (l.take (j+1))=jn a (l.take j)++(if j=0 then [] else a)++l[j]:=by
 rw [vJ h,ac5];congr 2;by_cases b:j=0
 ·subst b;simp
 ·rw [aA b,aA];intro e;have c:=eL List.length e;rw [sF,nZ] at c;omega
def L3 (a:By) (l:List By) (j:Nat):(jn a (l.take j)).length<=(jn a l).length:=by
 induction l generalizing j with
 | nil=>simp
 | cons x l _=>
  cases j with
  | zero=>simp [jn]
  | succ j=>
   simp only [yn,jn,b6];have:((l.take j).flatMap λy=>a++y).length<=(l.flatMap λy=>a++y).length:=by
    conv=>rhs;rw [<- wa j l,yo,b6]
    omega
   omega
def L4 (p:Pt):By:=iP p.k++p.nm++gu p.k p.n
def jN (p:Pt) (j:Nat):By:=L4 p++jn (lL p.k) ((p.kids.map txt).take j)
def ad1 (p:Pt):txt p=jN p (G p.kids)++jO p.k:=by
 rw [Sq];unfold jN L4;rw [qy aq]
def BL (p:Pt) (j:Nat) (h:j<G p.kids):jN p (j+1)=jN p j++(if j=0 then [] else lL p.k)++txt p.kids[j]:=by
 unfold jN;rw [EA _ _ j jP,kJ];simp
def BM (p:Pt) (j:Nat):(jN p j).length+(jO p.k).length<=(txt p).length:=by
 rw [Sq];unfold jN L4;have:=L3 (lL p.k) (p.kids.map txt) j;simp only [b6] at *;omega
def Bo (len:Nat) (ts:List (By × Nat)) (w:zW) (e:Ending) (w':zW):Prop:=
 zB w w' /\
 ((∃ (p:Pt) (a:Option zD) (l c b:Nat),e=.returned (.tuple #[.agg #[zI p.k,zG p.nm,zI p.n,.slice a l c],zI 0,zI 0])/\dR w' (λq=>w.heap.size<=q/\q<w'.heap.size) p a l c/\bh ts 1 0 (G ts) p/\txt p=bV ts (G ts)/\¬ 100<(bV ts (G ts)).length/\b<=1000000/\cF len b [aH 82 0] ts=some (0,0)) \/
  (∃ b,e=.returned (.tuple #[.agg #[zI 0,zG [],zI 0,zN],zI 7,zI 0])/\100<(bV ts (G ts)).length/\b<=1000000/\cF len b [aH 82 0] ts=some (0,0)) \/
  (∃ er p b,e=.returned (.tuple #[.agg #[zI 0,zG [],zI 0,zN],zI er,zI ((p:Nat):Int)])/\er≠0/\b<=1000000/\cF len b [aH 82 0] ts=some (er,p)))
def Iy {w w':zW} (h:zB w w') (g:Nat) (a:w.heap.size<=g) (v0 v1 v2 v3:zV):zB w ((((w'.setCell ⟨g,0,none⟩ v0).setCell ⟨g,1,none⟩ v1).setCell ⟨g,2,none⟩ v2).setCell ⟨g,3,none⟩ v3):=
 (((h.setCell (p:=⟨g,0,none⟩) a _).setCell (p:=⟨g,1,none⟩) a _).setCell (p:=⟨g,2,none⟩) a _).setCell (p:=⟨g,3,none⟩) a _
def aco (f:Nat) (rest:By) (k:Nat):bW (f+1) (32::rest) k=bW f rest (k+1):=by
 conv=>lhs;unfold bW
 rw [aB rfl]
def UH (f k:Nat):bW f [] k=([],none):=by cases f<;>rfl
def acp (f:Nat) (c:UInt8) (r rest:By) (k:Nat) (e:c≠32) (a:rowLen (c::r++rest)=(c::r).length) (b:di (c::r)=true) :
  bW (f+1) (c::r++rest) k=((c::r,k)::(bW f rest (k+(c::r).length)).1,(bW f rest (k+(c::r).length)).2):=by
 have e1:(c::r++rest).take (rowLen (c::r++rest))=c::r:=by rw [a,List.take_left'];rfl
 have d:(c::r++rest).drop (rowLen (c::r++rest))=rest:=by rw [a,List.drop_left'];rfl
 conv=>lhs;unfold bW
 simp only [gT] at e1 d a ⊢;rw [aA e,e1,aB b,d,a]
def bh.ups {ts:List (By × Nat)} {i j:Nat} {p:Pt} (m n:Nat) (h:bh ts (n+m) i j p) (b:1<=n) (c:n+m<=6):bh ts n i j p:=by
 induction m with
 | zero=>exact h
 | succ m a=>exact a (.up _ _ _ _ ae ae h) ae
end Go.Proofs.YtihgojcfpnhelaaGreatDoor
