import Derived.Test.YtihgojcfpnhelaaGreatDoorM
import Derived.Test.YtihgojcfpnhelaaGreatDoorR
set_option maxRecDepth 100000
set_option maxHeartbeats 4000000
set_option linter.all false
namespace Go.Proofs.YtihgojcfpnhelaaGreatDoor
open Value renaming slice->B,agg->zd,tuple->zp,bool->zF
open Obj renaming cells->zM
open Ending renaming returned->zP
open Option renaming some->A
open Or renaming inl->zR,inr->zZ
open Go renaming World->zW,Value->zV,Calls->zC,Addr->zD
open Go.RowKit Go.Proofs.Tryz
open List renaming length→G
section
section
def aw (K:List (By × Nat)) (i:Nat):By:=match K[i]? with|some x=>x.1|none=>[]
def eF (len:Nat) (K:List (By × Nat)) (i:Nat):Nat:=match K[i]? with|some x=>x.2|none=>len
def eY (K:List (By × Nat)) (i:Nat) (h:i<G K):aw K i=K[i].1:=by simp [aw,h]
def kV (K:List (By × Nat)) (i:Nat) (h:G K<=i):aw K i=[]:=by simp [aw,h]
def l7 (len:Nat) (K:List (By × Nat)) (i:Nat):(K.drop i=[]/\aw K i=[]/\eF len K i=len)\/∃ r,K.drop i=(aw K i,eF len K i)::r:=by
 by_cases h:i<G K
 .right;refine ⟨K.drop (i+1),?_⟩;have b:eF len K i=K[i].2:=by simp [eF,h]
  rw [eY K i h,b];exact jL h
 .left;have a:G K<=i:=(by omega);exact ⟨nY a,by simp [aw,a],by simp [eF,a]⟩
def Tk (x:By):Prop:=∃ c r,x=c::r/\c≠63/\c::r≠cE
section
variable (len:Nat) (K:List (By × Nat))
def ow (k:UInt8) (o i q:Nat) (C:List By) (a:o<=7):cF len (q+1) (aH k o::C) (K.drop i)=cF len q (ku k o (aw K i)++C) (K.drop i):=by
 rw [cP len q _ C _ (aw K i) (eF len K i) (l7 len K i),aA (by simp [aH,fj]),qq k o _ a]
def mU (x:By) (i q:Nat) (C:List By) (a:Tk x) (h:aw K i=x):cF len (q+1) (x::C) (K.drop i)=cF len q C (K.drop (i+1)):=by
 obtain ⟨c,r,rfl,D,b⟩:=a;rw [cP len q _ C _ (aw K i) (eF len K i) (l7 len K i),aA (by simp [fj];intro h;exact absurd h D),jl c r _ D];simp only [aA b,h];simp [List.tail_drop]
def xO (x:By) (i q:Nat) (C:List By) (b:Tk x) (h:aw K i≠x):cF len (q+1) (x::C) (K.drop i)=A (3,eF len K i):=by
 obtain ⟨c,r,rfl,D,d⟩:=b;rw [cP len q _ C _ (aw K i) (eF len K i) (l7 len K i),aA (by simp [fj];intro h;exact absurd h D),jl c r _ D];simp only [aA d];rw [aA (by simp;intro _ a;exact h a.symm)]
def DI (i q:Nat) (C:List By):cF len (q+1) (fj::C) (K.drop i)=A (4,eF len K i):=by
 rw [cP len q _ C _ (aw K i) (eF len K i) (l7 len K i),aB rfl]
def kH (S:List By) (i j m:Nat):Prop:=∀ C q,cF len (m+q) (S++C) (K.drop i)=cF len q C (K.drop j)
def ic (S:List By) (i:Nat) (er:Int) (p m:Nat):Prop:=∀ C q,cF len (m+q) (S++C) (K.drop i)=A (er,p)
end
section
variable {len:Nat} {K:List (By × Nat)}
def kH.nil (i:Nat):kH len K [] i i 0:=λC q=>by rw [cS];rfl
def kH.t {S T:List By} {i j k m n:Nat} (h:kH len K S i j m) (g:kH len K T j k n):kH len K (S++T) i k (m+n):=λC q=>by rw [kI,oJ,h (T++C) (n+q),g C q]
def kH.no {S T:List By} {i j m n p:Nat} {er:Int} (h:kH len K S i j m) (g:ic len K T j er p n):ic len K (S++T) i er p (m+n):=λC q=>by rw [kI,oJ,h (T++C) (n+q),g C q]
def kH.sym {S:List By} {k:UInt8} {o i j m:Nat} (D:o<=7) (h:kH len K (ku k o (aw K i)++S) i j m):kH len K (aH k o::S) i j (m+1):=λC q=>by rw [show m+1+q=m+q+1 by omega,gT,ow len K k o i (m+q) (S++C) D,<- kI,h C q]
def ic.sym {S:List By} {k:UInt8} {o i m p:Nat} {er:Int} (D:o<=7) (h:ic len K (ku k o (aw K i)++S) i er p m):ic len K (aH k o::S) i er p (m+1):=λC q=>by rw [show m+1+q=m+q+1 by omega,gT,ow len K k o i (m+q) (S++C) D,<- kI,h C q]
def kH.tok {S:List By} {x:By} {i j m:Nat} (E:Tk x) (D:aw K i=x) (h:kH len K S (i+1) j m):kH len K (x::S) i j (m+1):=λC q=>by rw [show m+1+q=m+q+1 by omega,gT,mU len K x i (m+q) (S++C) E D,h C q]
def ic.tok {S:List By} {x:By} {i m p:Nat} {er:Int} (E:Tk x) (D:aw K i=x) (h:ic len K S (i+1) er p m):ic len K (x::S) i er p (m+1):=λC q=>by rw [show m+1+q=m+q+1 by omega,gT,mU len K x i (m+q) (S++C) E D,h C q]
def ic.bad {S:List By} {x:By} {i:Nat} (a:Tk x) (b:aw K i≠x):ic len K (x::S) i 3 (eF len K i) 1:=λC q=>by
 rw [mP 1 q,gT,xO len K x i q (S++C) a b]
def ic.deep {S:List By} {i:Nat}:ic len K (fj::S) i 4 (eF len K i) 1:=λC q=>by
 rw [mP 1 q,gT,DI len K i q (S++C)]
def ic.opens {S:List By} {i:Nat} (a:aw K i=[40]):ic len K (jX::S) i 4 (eF len K i) 2:=λC q=>by
 rw [show 2+q=q+1+1 by omega,gT,cP len (q+1) _ _ _ (aw K i) (eF len K i) (l7 len K i),aA (by decide),a];show cF len (q+1) (fj::(S++C)) (K.drop i)=_;exact DI len K i q (S++C)
def Ss:Tk iF:=⟨78,_,rfl,by decide,by decide⟩
def ic.Vm {S:List By} {i:Nat} (a:aw K i≠[40]) (b:aw K i≠iF):ic len K (jX::S) i 3 (eF len K i) 2:=λC q=>by
 rw [show 2+q=q+1+1 by omega,gT,cP len (q+1) _ _ _ (aw K i) (eF len K i) (l7 len K i),aA (by decide)];rw [show dT jX (aw K i)=A (if aw K i=[40] then [fj] else [iF]) from rfl,aA a];exact xO len K iF i q (S++C) Ss b
end
def eb:List (By × Nat):=
 [([105,102],3),([97,110,100],4),([111,114],5),([110,111,116],6),([116,114,117,101],7),([102,97,108,115,101],8),
  ([40],9),([41],10),([44],11),([43],12),([45],13),([42],15),([47],16),([37],17),([61],18),([60],19)]
def ij (t:By) (k:Nat):Prop:=(ae t=true/\k=1)\/(ae t=false/\bm t=true/\k=2)\/(t=[]/\k=0)\/(t,k)∈eb
def x9 (f:Nat) (l:By) (k:Nat) (t:By) (p:Nat) (h:(t,p)∈(bW f l k).1):di t=true:=by
 induction f generalizing l k with
 | zero=>simp [bW] at h
 | succ f b=>
  match l with
  | []=>simp [bW] at h
  | c::r=>
   unfold bW at h;split at h
   .exact b _ _ h
   .split at h
    .rename_i a;simp only [bQ,mI] at h;rcases h with ⟨rfl,rfl⟩|h
     .exact a
     .exact b _ _ h
    .simp at h
def Az (l:List (By × Int)) (t:By) (k:Int) (h:iA l t=A k):(t,k)∈l:=by
 induction l with
 | nil=>simp [iA] at h
 | cons x l a=>
  obtain ⟨y,z⟩:=x;unfold iA at h;split at h
  .rename_i b;simp at h;subst b h;simp
  .exact ki _ (a h)
def Kc (t:By) (h:di t=true) (i:t≠[]):∃ k:Nat,ij t k/\fU t=(k:Int):=by
 by_cases C:ae t=true
 .exact ⟨1,zR ⟨C,rfl⟩,by simp [fU,C]⟩
 .have b:ae t=false:=(by simpa using C);cases e:fH t with
  | some k=>
   have d:=Az dX t k e;have a:fU t=k:=by simp [fU,b,e]
   simp only [dX,bQ,jA,iK,mI] at d;rcases d with ⟨rfl,rfl⟩|⟨rfl,rfl⟩|⟨rfl,rfl⟩|⟨rfl,rfl⟩|⟨rfl,rfl⟩|⟨rfl,rfl⟩|⟨rfl,rfl⟩|⟨rfl,rfl⟩|⟨rfl,rfl⟩|⟨rfl,rfl⟩|⟨rfl,rfl⟩|⟨rfl,rfl⟩|⟨rfl,rfl⟩|⟨rfl,rfl⟩|⟨rfl,rfl⟩|⟨rfl,rfl⟩
   .exact ⟨3,zZ (zZ (zZ (by decide))),a⟩
   .exact ⟨4,zZ (zZ (zZ (by decide))),a⟩
   .exact ⟨5,zZ (zZ (zZ (by decide))),a⟩
   .exact ⟨6,zZ (zZ (zZ (by decide))),a⟩
   .exact ⟨7,zZ (zZ (zZ (by decide))),a⟩
   .exact ⟨8,zZ (zZ (zZ (by decide))),a⟩
   .exact ⟨9,zZ (zZ (zZ (by decide))),a⟩
   .exact ⟨10,zZ (zZ (zZ (by decide))),a⟩
   .exact ⟨11,zZ (zZ (zZ (by decide))),a⟩
   .exact ⟨12,zZ (zZ (zZ (by decide))),a⟩
   .exact ⟨13,zZ (zZ (zZ (by decide))),a⟩
   .exact ⟨15,zZ (zZ (zZ (by decide))),a⟩
   .exact ⟨16,zZ (zZ (zZ (by decide))),a⟩
   .exact ⟨17,zZ (zZ (zZ (by decide))),a⟩
   .exact ⟨18,zZ (zZ (zZ (by decide))),a⟩
   .exact ⟨19,zZ (zZ (zZ (by decide))),a⟩
  | none=>
   refine ⟨2,zZ (zR ⟨b,?_,rfl⟩),by simp [fU,b,e]⟩
   match t,i,b,e,h with
   | c::r,_,b,e,h=>
    have g:fF c=true:=by
     cases g:fF c with
     | true=>rfl
     | false=>
      have:=pj c r g;rw [e] at this;unfold di at h;rw [b,show j6 (c::r)=fF c from rfl,g,<- this] at h;simp at h
    unfold bm;rw [show j6 (c::r)=fF c from rfl,g];simp only [Bool.true_and,Bool.not_eq_true'];rw [Bool.eq_false_iff];intro f;simp only [b5,JM,pF,bQ,jA,iK] at f;rcases f with h|h|h|h|h|h<;>rw [h] at e<;>simp [fH,iA,dX] at e
def dc (n:Nat):List By:=match n with|1=>[[111,114]]|2=>[[97,110,100]]|3=>[[61],[60]]|4=>[[43],[45]]|5=>[[42],[47],[37]]|_=>[]
def lv (n:Nat):UInt8:=match n with|1=>82|2=>80|3=>84|4=>83|5=>77|_=>65
def tl (n:Nat):UInt8:=match n with|1=>114|2=>112|3=>99|4=>115|_=>109
def gG (t x:By) (b:ae t=true) (a:ae x=false):t≠x:=by
 rintro rfl;rw [b] at a;cases a
def fD (t x:By) (b:bm t=true) (a:bm x=false):t≠x:=by
 rintro rfl;rw [b] at a;cases a
def uF (P:By->Nat->Prop) (t:By) (k:Nat) (h:ij t k) (b:∀ t,ae t=true->P t 1) (d:∀ t,ae t=false->bm t=true->P t 2) (c:P [] 0) (e:∀ x,x∈eb->P x.1 x.2):P t k:=by
 rcases h with ⟨a,rfl⟩|⟨a,f,rfl⟩|⟨rfl,rfl⟩|h
 .exact b t a
 .exact d t a f
 .exact c
 .exact e (t,k) h
def ni (t:By) (l:List By) (h:∀ x,x∈l->t≠x):b5 t l=false:=by
 rw [Bool.eq_false_iff];intro a;simp only [b5,pF] at a;exact h t a rfl
def Vn (t:By) (k:Nat) (h:ij t k) (n:Nat) (d:1<=n) (e:n<=5):(uv.getD k 0=(n:Int))↔b5 t (dc n)=true:=by
 have C:n=1\/n=2\/n=3\/n=4\/n=5:=(by omega);refine uF (λt k=>(uv.getD k 0=(n:Int))↔b5 t (dc n)=true) t k h (λt c=>?_) (λt _ b=>?_) ?_ ?_
 .rw [ni t (dc n) (λx a=>gG t x c (by rcases C with rfl|rfl|rfl|rfl|rfl<;>revert x<;>decide))];rcases C with rfl|rfl|rfl|rfl|rfl<;>decide
 .rw [ni t (dc n) (λx a=>fD t x b (by rcases C with rfl|rfl|rfl|rfl|rfl<;>revert x<;>decide))];rcases C with rfl|rfl|rfl|rfl|rfl<;>decide
 .rcases C with rfl|rfl|rfl|rfl|rfl<;>decide
 .rcases C with rfl|rfl|rfl|rfl|rfl<;>decide
def xw (t:By) (k:Nat) (h:ij t k) (n:Nat) (c:1<=n) (d:n<=6):(kY.getD k 0=(n:Int))↔((n=3/\t=[110,111,116])\/(n=6/\t=[45])):=by
 have C:n=1\/n=2\/n=3\/n=4\/n=5\/n=6:=(by omega);refine uF (λt k=>(kY.getD k 0=(n:Int))↔((n=3/\t=[110,111,116])\/(n=6/\t=[45]))) t k h (λt a=>?_) (λt _ b=>?_) ?_ ?_
 .have e1:=gG t [110,111,116] a (by decide);have D:=gG t [45] a (by decide);simp only [e1,D];rcases C with rfl|rfl|rfl|rfl|rfl|rfl<;>decide
 .have e1:=fD t [110,111,116] b (by decide);have D:=fD t [45] b (by decide);simp only [e1,D];rcases C with rfl|rfl|rfl|rfl|rfl|rfl<;>decide
 .rcases C with rfl|rfl|rfl|rfl|rfl|rfl<;>decide
 .rcases C with rfl|rfl|rfl|rfl|rfl|rfl<;>decide
def Gj (n:Nat) (c:1<=n) (b:n<=5) (o:Nat) (t:By) (h:n=3->t≠[110,111,116]):ku (lv n) o t=[aH (lv (n+1)) o,aH (tl n) o]:=by
 have a:n=1\/n=2\/n=3\/n=4\/n=5:=(by omega);rcases a with rfl|rfl|rfl|rfl|rfl
 .rfl
 .rfl
 .show (if t=[110,111,116] then eT t 84 o else [aH 83 o,aH 99 o])=_;rw [aA (h rfl)];rfl
 .rfl
 .rfl
def IX (n:Nat) (a:1<=n) (b:n<=5) (o:Nat) (t:By) (h:b5 t (dc n)=false):ku (tl n) o t=[]:=by
 have D:n=1\/n=2\/n=3\/n=4\/n=5:=(by omega);have C:∀ p g,gz t (dc n) p g o=[]:=λp g=>by unfold gz;rw [h];rfl
 rcases D with rfl|rfl|rfl|rfl|rfl
 .exact C 80 (A 114)
 .exact C 84 (A 112)
 .exact C 83 none
 .exact C 77 (A 115)
 .exact C 65 (A 109)
def QH (n:Nat) (a:1<=n) (b:n<=5) (o:Nat) (t:By) (h:b5 t (dc n)=true):ku (tl n) o t=t::aH (lv (n+1)) o::(if n=3 then [] else [aH (tl n) o]):=by
 have D:n=1\/n=2\/n=3\/n=4\/n=5:=(by omega);have C:∀ p g,gz t (dc n) p g o=(match g with|none=>[t,aH p o]|some g=>[t,aH p o,aH g o]):=λp g=>by unfold gz;rw [h];rfl
 rcases D with rfl|rfl|rfl|rfl|rfl
 .exact C 80 (A 114)
 .exact C 84 (A 112)
 .exact C 83 none
 .exact C 77 (A 115)
 .exact C 65 (A 109)
def fu (k:Int):By:=p7.getD k.toNat []
def LA (t:By) (h:ae t=true):eh t=dy t:=by simp [eh,h]
def yc (q:Option By) (t:By) (k:Nat) (h:ij t k) (o:k≠0) (f:b5 t kq=false):cM q t=fu (k:Int)++eh t:=by
 have e:cM q t=if t=[44]||t=[110,111,116] then t++[32] else dy t:=by
  unfold cM;rw [f];rfl
 rw [e];refine uF (λt k=>k≠0->b5 t kq=false->(if t=[44]||t=[110,111,116] then t++[32] else dy t)=fu (k:Int)++eh t) t k h (λt b _ _=>?_) (λt b a _ _=>?_) (λh=>absurd rfl h) (by decide) o f
 .rw [aA (by simp [gG t [44] b (by decide),gG t [110,111,116] b (by decide)]),LA t b];rfl
 .rw [aA (by simp [fD t [44] a (by decide),fD t [110,111,116] a (by decide)])];have i:fH t=none:=se dX t λj m g=>by
   have:=fD t (dX[j]).1 a ((show ∀ x,x∈dX->bm x.1=false by decide) _ (bt m));exact this g.symm
  have l:eh t=t:=by simp [eh,b,i]
  rw [l]
  match t,a with
  | [],a=>simp [bm,j6] at a
  | [c],_=>rfl
  | c::d::r,a=>
   have n:c≠48:=by
    rintro rfl;have:j6 (48::d::r)=false:=by show fF 48=false;decide
    simp [bm,this] at a
   simp [dy,n,fu,p7]
def Vk (q:Option By) (t:By) (k:Nat) (h:ij t k) (a:b5 t kq=true) (b:tK q=true):cM q t=fu (k:Int)++eh t:=by
 have e:cM q t=[32]++t++[32]:=by
  unfold cM;rw [a,b];rfl
 rw [e];refine uF (λt k=>b5 t kq=true->[32]++t++[32]=fu (k:Int)++eh t) t k h (λt d a=>?_) (λt _ f a=>?_) (by decide) (by decide) a
 .rw [ni t kq (λx c=>gG t x d (by revert x;decide))] at a;cases a
 .rw [ni t kq (λx c=>fD t x f (by revert x;decide))] at a;cases a
def QF (q:Option By) (a:tK q=false):cM q [45]=fu 14:=by
 unfold cM;rw [a];decide
end
end
inductive Pt where
 | atom (k:Nat) (nm:By) (n:Nat)
 | un (k:Nat) (a:Pt)
 | bin (k:Nat) (a b:Pt)
 | ifs (a b c:Pt)
def Pt.k:Pt->Nat|.atom k _ _=>k|.un k _=>k|.bin k _ _=>k|.ifs _ _ _=>3
def Pt.nm:Pt->By|.atom _ x _=>x|_=>[]
def Pt.n:Pt->Nat|.atom _ _ n=>n|_=>0
def Pt.kids:Pt->List Pt|.atom _ _ _=>[]|.un _ a=>[a]|.bin _ a b=>[a,b]|.ifs a b c=>[a,b,c]
def jn (a:By):List By->By|[]=>[]|x::l=>x++l.flatMap λy=>a++y
def gu (k n:Nat):By:=if k=1 then Lib.decDigits n else []
def ai:Pt->By
 | .atom k x n=>iP k++x++gu k n++jn (lL k) []++jO k
 | .un k a=>iP k++[]++gu k 0++jn (lL k) [ai a]++jO k
 | .bin k a b=>iP k++[]++gu k 0++jn (lL k) [ai a,ai b]++jO k
 | .ifs a b c=>iP 3++[]++gu 3 0++jn (lL 3) [ai a,ai b,ai c]++jO 3
def Sq (p:Pt):ai p=iP p.k++p.nm++gu p.k p.n++jn (lL p.k) (p.kids.map ai)++jO p.k:=by
 cases p<;>rfl
def Gk (a:By) (l:List By) (x:By):jn a (l++[x])=jn a l++(if l=[] then [] else a)++x:=by
 cases l with
 | nil=>simp [jn]
 | cons y l=>simp [jn]
inductive dR (w:zW) (S:Nat->Prop):Pt->Option zD->Nat->Nat->Prop
 | leaf (p:Pt):p.kids=[]->dR w S p none 0 0
 | node (p:Pt) (g cap:Nat) (Q0:Nat->Option zD) (L C:Nat->Nat):S g->p.kids≠[] ->
   (∀ j (h:j<G p.kids),w.cell? (X g (j*4))=A (J ((p.kids[j]).k:Int))/\w.cell? (X g (j*4+1))=A (Q ((p.kids[j]).nm))/\w.cell? (X g (j*4+2))=A (J ((p.kids[j]).n:Int))/\w.cell? (X g (j*4+3))=A (B (Q0 j) (L j) (C j))) ->
   (∀ j (h:j<G p.kids),dR w S p.kids[j] (Q0 j) (L j) (C j)) ->
   dR w S p (A (yh g)) (G p.kids) cap
def aS {w w':zW} {g:Nat} (h:w'.heap[g]?=w.heap[g]?) (o:Nat):w'.cell? (X g o)=w.cell? (X g o):=by
 simp only [World.cell?,h]
def dR.next {w w':zW} {S:Nat->Prop} {p:Pt} {a:Option zD} {l c:Nat} (h:dR w S p a l c) (d:∀ q,S q->w'.heap[q]?=w.heap[q]?):dR w' S p a l c:=by
 induction h with
 | leaf p f=>exact .leaf p f
 | node p g e D L C b n m _ i=>
  refine .node p g e D L C b n (λj k=>?_) i;rw [aS (d g b),aS (d g b),aS (d g b),aS (d g b)];exact m j k
def dR.wide {w:zW} {S S':Nat->Prop} {p:Pt} {a:Option zD} {l c:Nat} (h:dR w S p a l c) (j:∀ q,S q->S' q):dR w S' p a l c:=by
 induction h with
 | leaf p d=>exact .leaf p d
 | node p g b D L C f k i _ e=>exact .node p g b D L C (j g f) k i e
inductive bh (K:List (By × Nat)):Nat->Nat->Nat->Pt->Prop
 | atom (i k:Nat):i<G K->ij (aw K i) k->(k=1\/k=2\/k=7\/k=8)->bh K 6 i (i+1) (.atom k (ej (aw K i)) (fw (aw K i)))
 | jV (i j:Nat) (a:Pt):aw K i=[110,111,116]->bh K 3 (i+1) j a->bh K 3 i j (.un 6 a)
 | neg (i j:Nat) (a:Pt):aw K i=[45]->bh K 6 (i+1) j a->bh K 6 i j (.un 14 a)
 | br (i j:Nat) (a:Pt):aw K i=[40]->bh K 1 (i+1) j a->aw K j=[41]->bh K 6 i (j+1) (.un 9 a)
 | ifs (i j1 j2 j3:Nat) (a b c:Pt):aw K i=[105,102]->aw K (i+1)=[40]->bh K 1 (i+1+1) j1 a->aw K j1=[44]->bh K 1 (j1+1) j2 b->aw K j2=[44]->bh K 1 (j2+1) j3 c->aw K j3=[41]->bh K 6 i (j3+1) (.ifs a b c)
 | up (n i j:Nat) (a:Pt):1<=n->n<=5->bh K (n+1) i j a->bh K n i j a
 | more (n i j j' k:Nat) (a b:Pt):1<=n->n<=5->bh K (if n=3 then 4 else n) i j a->b5 (aw K j) (dc n)=true->ij (aw K j) k->bh K (n+1) (j+1) j' b->bh K n i j' (.bin k a b)
def bh.lt {K:List (By × Nat)} {n i j:Nat} {p:Pt} (h:bh K n i j p):i<j:=by
 induction h with
 | atom=>omega
 | jV=>omega
 | neg=>omega
 | br=>omega
 | ifs=>omega
 | up=>omega
 | more=>omega
abbrev Vl:=Int × Int
def bD (b:Bool):Vl:=(2,if b then 1 else 0)
def cL (n:Int):Vl:=(3,n)
def iW (v:Vl):Vl:=if v.1=3 then v else (1,wrap64 (-v.2))
def nH (v:Vl):Vl:=if v.1=3 then v else bD (v.2 == 0)
def aP (k:Int) (v:Vl):Vl:=if v.1≠k/\v.1≠3 then cL 2 else v
def dH (d a b:Vl):Vl:=if aP 2 a=d\/(aP 2 a).1=3 then aP 2 a else aP 2 b
def fQ (a b c:Vl):Vl:=if aP 2 a=(2,1) then b else if aP 2 a=(2,0) then c else aP 2 a
def iX (k:Nat) (a b:Int):Vl:=
 if k=12 then (1,wrap64 (a+b)) else if k=13 then (1,wrap64 (a - b)) else if k=15 then (1,wrap64 (a*b))
 else if k=18 then bD (a == b) else if k=19 then bD (decide (a<b)) else if b=0 then cL 1
 else if k=16 then (1,wrap64 (a.tdiv b)) else (1,a.tmod b)
def fR (k:Nat) (a b:Vl):Vl:=
 if a.1=3 then a else if b.1=3 then b else if a.1=1/\b.1=1 then iX k a.2 b.2 else if a.1=b.1/\k=18 then bD (a.2 == b.2) else cL 2
def cD (C:By->Vl):Pt->Vl
 | .atom k D n=>if k=1 then (1,(n:Int)) else if k=7 then bD true else if k=8 then bD false else C D
 | .un k a=>if k=9 then cD C a else if k=14 then iW (aP 1 (cD C a)) else nH (aP 2 (cD C a))
 | .bin k a b=>if k=4 then dH (2,0) (cD C a) (cD C b) else if k=5 then dH (2,1) (cD C a) (cD C b) else fR k (cD C a) (cD C b)
 | .ifs a b c=>fQ (cD C a) (cD C b) (cD C c)
def xh (n:Int) (w:zW):zC prog 240 #[J n] w λe C=>e=zP (zd #[J 1,J n])/\zB w C:=by
 go_in;go_wp2;refine aK (v:=zd #[J 1,J n]) (by simp [results,results240,go_sem]) rfl ?_;exact ⟨rfl,(aM _ _).alloc (aG _) _⟩
def uq (n:Int) (w:zW):zC prog 258 #[J n] w λe C=>e=zP (zd #[J 3,J n])/\zB w C:=by
 go_in;go_wp2;refine aK (v:=zd #[J 3,J n]) (by simp [results,results258,go_sem]) rfl ?_;exact ⟨rfl,(aM _ _).alloc (aG _) _⟩
def lK (b:Bool) (w:zW):zC prog 241 #[zF b] w λe C=>e=zP (zd #[J (bD b).1,J (bD b).2])/\zB w C:=by
 cases b
 .go_in;go_wp2;refine aK (v:=zd #[J 2,J 0]) (by simp [results,results241,go_sem]) rfl ?_;exact ⟨rfl,(aM _ _).alloc (aG _) _⟩
 .go_in;go_wp2;refine aK (v:=zd #[J 2,J 1]) (by simp [results,results241,go_sem]) rfl ?_;exact ⟨rfl,(aM _ _).alloc (aG _) _⟩
def cq {w:zW} {q:Nat} {v0 v1:zV} {t:TypeId} (h:w.heap[q]?=A (zM #[v0,v1] t (0,0))) :
  (w.cell? (yh q)=A v0/\w.cell? (X q 1)=A v1)/\(w.frozen? (yh q)=false/\w.frozen? (X q 1)=false)/\q<w.heap.size:=
 ⟨⟨(bq w q 0 _ _ _ h).t rfl,(bq w q 1 _ _ _ h).t rfl⟩,⟨bF h 0,bF h 1⟩,(cz.1 h).1⟩
def dJ {w w':zW} (h:zB w w') (g:Nat) (a:w.heap.size<=g) (v0 v1:zV):zB w ((w'.setCell (yh g) v0).setCell (X g 1) v1):=
 (h.setCell (p:=yh g) a _).setCell (p:=X g 1) a _
def dx (v:Vl) (w:zW) (e:Ending) (w':zW):Prop:=e=zP (zd #[J v.1,J v.2])/\zB w w'
def bc (w:zW) (o:Obj) (cs:Array zV) (t:TypeId):((w.alloc o).alloc (zM cs t)).heap[w.heap.size+1]?=A (zM cs t (0,0)):=by have:=bL (w.alloc o) (zM cs t);rw [show (w.alloc o).heap.size=w.heap.size+1 by simp] at this;exact this
def fZ (w:zW) (o a:Obj) (cs:Array zV) (t:TypeId):(((w.alloc o).alloc a).alloc (zM cs t)).heap[w.heap.size+1+1]?=A (zM cs t (0,0)):=by
 have:=bL ((w.alloc o).alloc a) (zM cs t);rw [show ((w.alloc o).alloc a).heap.size=w.heap.size+1+1 by simp] at this;exact this
def og (w:zW) (a b c:Obj):zB w (((w.alloc a).alloc b).alloc c):=(aY w a b).alloc (by simp;omega) _
def zm (v:Vl) (w:zW):zC prog 242 #[zd #[J v.1,J v.2]] w (dx (iW v) w):=by
 obtain ⟨k,n⟩:=v;by_cases b:k=3
 .subst b;go_in;go_wp2;refine aK (v:=zd #[J 3,J n]) (by simp [results,results242,go_sem]) rfl ?_;exact ⟨rfl,aY _ _ _⟩
 .have i:(k == 3)=false:=bo.2 b;have h:=I (show iW (k,n)=(1,wrap64 (-n)) by unfold iW;rw [aA b]);clear b;go_in;go_wp2_with (go_at_call 240;refine mo (xh _ _) ?_;rintro e C ⟨rfl,a⟩);obtain ⟨⟨c,d⟩,⟨f0,f1⟩,g⟩:=cq ((a.block (w.heap.size+1) (by simp)).t (bc w _ _ _));have f:=I a;clear a;apply I;go_wp2;refine aK (v:=zd #[J 1,J (wrap64 (-n))]) (by simp [results,results242,go_sem,c,d]) rfl ?_;rw [h.o];exact ⟨rfl,dJ ((aY w _ _).t (f.o.m (by simp;omega))) _ (by omega) _ _⟩
def rZ (v:Vl) (w:zW):zC prog 244 #[zd #[J v.1,J v.2]] w (dx (nH v) w):=by
 obtain ⟨k,n⟩:=v;by_cases b:k=3
 .subst b;go_in;go_wp2;refine aK (v:=zd #[J 3,J n]) (by simp [results,results244,go_sem]) rfl ?_;exact ⟨rfl,aY _ _ _⟩
 .have j:(k == 3)=false:=bo.2 b;have i:=I (show nH (k,n)=bD (n == 0) by unfold nH;rw [aA b]);clear b;go_in;go_wp2_with (go_at_call 241;refine mo (lK _ _) ?_;rintro e C ⟨rfl,a⟩);obtain ⟨⟨d,f⟩,⟨f0,f1⟩,h⟩:=cq ((a.block (w.heap.size+1) (by simp)).t (bc w _ _ _));have g:=I a;clear a;generalize bD (n == 0)=c at *;apply I;go_wp2;refine aK (v:=zd #[J c.1,J c.2]) (by simp [results,results244,go_sem,d,f]) rfl ?_;rw [i.o];exact ⟨rfl,dJ ((aY w _ _).t (g.o.m (by simp;omega))) _ (by omega) _ _⟩
abbrev bH (r:zV):zV:=.func (.func 198) #[r] #[]
def Gm (r:zV) (k m n:Int) (p:By) (a:Option zD) (l c:Nat) (v:Vl) (w:zW)
  (j:∀ W,zB w W->zC prog 220 #[zd #[bH r],zd #[J m,Q p,J n,B a l c]] W (dx v W)) :
  zC prog 243 #[zd #[bH r],J k,zd #[J m,Q p,J n,B a l c]] w (dx (aP k v) w):=by
 have x:=I j;clear j;go_in;go_wp2_with (go_at_call 220;refine mo (x.o _ (og _ _ _ _)) ?_;rintro e O ⟨rfl,b⟩);have i:=(b.block (w.heap.size+1+1) (by simp)).t (fZ w _ _ _ _);obtain ⟨⟨M,N⟩,⟨f0,f1⟩,L⟩:=cq i;have q:=I i;have K:=I (show zB w O from (og w _ _ _).t (b.m (by simp;omega)));clear b i;obtain ⟨C,E⟩:=v;apply I;by_cases D:C=k
 .have s:(C != k)=false:=(by simp [D]);have H:=I (show aP k (C,E)=(C,E) by unfold aP;rw [aA (λh=>h.1 D)]);clear D;go_wp2;refine aK (v:=zd #[J C,J E]) (by simp [results,results243,go_sem,M,N,L]) rfl ?_;rw [H.o];exact ⟨rfl,(dJ K.o _ (by omega) _ _).alloc (by simp;omega) _⟩
 .have s:(C != k)=true:=(by simp [D]);by_cases F:C=3
  .have g:(C != 3)=false:=(by simp [F]);have H:=I (show aP k (C,E)=(C,E) by unfold aP;rw [aA (λh=>h.2 F)]);clear D F;go_wp2;refine aK (v:=zd #[J C,J E]) (by simp [results,results243,go_sem,M,N,L]) rfl ?_;rw [H.o];exact ⟨rfl,(dJ K.o _ (by omega) _ _).alloc (by simp;omega) _⟩
  .have g:(C != 3)=true:=(by simp [F]);have H:=I (show aP k (C,E)=(3,2) by unfold aP;rw [aB ⟨D,F⟩];rfl);clear D F;go_wp2_with (go_at_call 258;refine mo (uq _ _) ?_;rintro e P ⟨rfl,d⟩);obtain ⟨⟨u,t⟩,⟨y,z⟩,o⟩:=cq ((d.block (w.heap.size+1+1) (by simp;omega)).t ((cj _ _ _ L).t q.o));have f:=I (show zB w P from (K.o.alloc (by omega) _).t (d.m (by simp;omega)));clear d M N f0 f1;apply I;go_wp2;refine aK (v:=zd #[J 3,J 2]) (by simp [results,results243,go_sem,u,t]) rfl ?_;rw [H.o];exact ⟨rfl,dJ f.o _ (by omega) _ _⟩
def P6 (k:Nat) (x y:Int) (w:zW):zC prog 259 #[J k,J x,J y] w (dx (iX k x y) w):=by
 have q:=I (λn w=>xh n w);have u:=I (λb w=>lK b w);have N:=I (λn w=>uq n w);have d:=I (show ∀ (v:Vl) (K:zW),Below (w.alloc (zM #[J 0,J 0] 177)).heap.size (w.alloc (zM #[J 0,J 0] 177)) K->(K.cell? (yh w.heap.size)=A (J 0)/\K.cell? (X w.heap.size 1)=A (J 0))/\(K.frozen? (yh w.heap.size)=false/\K.frozen? (X w.heap.size 1)=false)/\w.heap.size<K.heap.size/\dx v w (zP (zd #[J v.1,J v.2])) ((K.setCell (yh w.heap.size) (J v.1)).setCell (X w.heap.size 1) (J v.2)) from λv K t=>by
  obtain ⟨D,E,H⟩:=cq ((t.block w.heap.size (by simp)).t (bL w _));exact ⟨D,E,H,rfl,dJ ((bZ _).t (t.m (by simp))) _ (aG _) _ _⟩)
 by_cases j:k=12
 .subst j;have m:=I (show iX 12 x y=(1,wrap64 (x+y)) from rfl);go_in;go_wp2_with (go_at_call 240;refine mo (q.o _ _) ?_;rintro e K ⟨rfl,c⟩);obtain ⟨⟨L,M⟩,⟨f0,f1⟩,f,a⟩:=d.o ((1,wrap64 (x+y))) _ c;have l:=I a;clear a c;apply I;go_wp2;refine aK (v:=zd #[J ((1,wrap64 (x+y)):Vl).1,J ((1,wrap64 (x+y)):Vl).2]) (by simp [results,results259,go_sem,L,M]) rfl ?_;rw [m.o];exact l.o
 .have C:((k:Int) == 12)=false:=bo.2 (by omega);by_cases i:k=13
  .subst i;have m:=I (show iX 13 x y=(1,wrap64 (x - y)) from rfl);go_in;go_wp2_with (go_at_call 240;refine mo (q.o _ _) ?_;rintro e K ⟨rfl,c⟩);obtain ⟨⟨L,M⟩,⟨f0,f1⟩,f,a⟩:=d.o ((1,wrap64 (x - y))) _ c;have l:=I a;clear a c;apply I;go_wp2;refine aK (v:=zd #[J ((1,wrap64 (x - y)):Vl).1,J ((1,wrap64 (x - y)):Vl).2]) (by simp [results,results259,go_sem,L,M]) rfl ?_;rw [m.o];exact l.o
  .have F:((k:Int) == 13)=false:=bo.2 (by omega);by_cases h:k=15
   .subst h;have m:=I (show iX 15 x y=(1,wrap64 (x*y)) from rfl);go_in;go_wp2_with (go_at_call 240;refine mo (q.o _ _) ?_;rintro e K ⟨rfl,c⟩);obtain ⟨⟨L,M⟩,⟨f0,f1⟩,f,a⟩:=d.o ((1,wrap64 (x*y))) _ c;have l:=I a;clear a c;apply I;go_wp2;refine aK (v:=zd #[J ((1,wrap64 (x*y)):Vl).1,J ((1,wrap64 (x*y)):Vl).2]) (by simp [results,results259,go_sem,L,M]) rfl ?_;rw [m.o];exact l.o
   .have G:((k:Int) == 15)=false:=bo.2 (by omega);by_cases o:k=18
    .subst o;have m:=I (show iX 18 x y=bD (x == y) from rfl);go_in;go_wp2_with (go_at_call 241;refine mo (u.o _ _) ?_;rintro e K ⟨rfl,c⟩);obtain ⟨⟨L,M⟩,⟨f0,f1⟩,f,a⟩:=d.o (bD (x == y)) _ c;have l:=I a;clear a c;apply I;go_wp2;refine aK (v:=zd #[J (bD (x == y):Vl).1,J (bD (x == y):Vl).2]) (by simp [results,results259,go_sem,L,M]) rfl ?_;rw [m.o];exact l.o
    .have P:((k:Int) == 18)=false:=bo.2 (by omega);by_cases g:k=19
     .subst g;have m:=I (show iX 19 x y=bD (decide (x<y)) from rfl);go_in;go_wp2_with (go_at_call 241;refine mo (u.o _ _) ?_;rintro e K ⟨rfl,c⟩);obtain ⟨⟨L,M⟩,⟨f0,f1⟩,f,a⟩:=d.o (bD (decide (x<y))) _ c;have l:=I a;clear a c;apply I;go_wp2;refine aK (v:=zd #[J (bD (decide (x<y)):Vl).1,J (bD (decide (x<y)):Vl).2]) (by simp [results,results259,go_sem,L,M]) rfl ?_;rw [m.o];exact l.o
     .have z:((k:Int) == 19)=false:=bo.2 (by omega);by_cases r:y=0
      .subst r;have m:=I (show iX k x 0=(3,1) by unfold iX;rw [aA j,aA i,aA h,aA o,aA g,aB rfl];rfl);clear j i h o g;go_in;go_wp2_with (go_at_call 258;refine mo (N.o _ _) ?_;rintro e K ⟨rfl,c⟩);obtain ⟨⟨L,M⟩,⟨f0,f1⟩,f,a⟩:=d.o (3,1) _ c;have l:=I a;clear a c;apply I;go_wp2;refine aK (v:=zd #[J ((3,1):Vl).1,J ((3,1):Vl).2]) (by simp [results,results259,go_sem,L,M]) rfl ?_;rw [m.o];exact l.o
      .have O:(y == 0)=false:=bo.2 r;by_cases p:k=16
       .have s:((k:Int) == 16)=true:=by simp [p]
        have m:=I (show iX k x y=(1,wrap64 (x.tdiv y)) by unfold iX;rw [aA j,aA i,aA h,aA o,aA g,aA r,aB p]);clear j i h o g p;go_in;go_wp2_with (go_at_call 240;refine mo (q.o _ _) ?_;rintro e K ⟨rfl,c⟩);obtain ⟨⟨L,M⟩,⟨f0,f1⟩,f,a⟩:=d.o ((1,wrap64 (x.tdiv y))) _ c;have l:=I a;clear a c;apply I;go_wp2;refine aK (v:=zd #[J ((1,wrap64 (x.tdiv y)):Vl).1,J ((1,wrap64 (x.tdiv y)):Vl).2]) (by simp [results,results259,go_sem,L,M]) rfl ?_;rw [m.o];exact l.o
       .have s:((k:Int) == 16)=false:=bo.2 (by omega);have m:=I (show iX k x y=(1,x.tmod y) by unfold iX;rw [aA j,aA i,aA h,aA o,aA g,aA r,aA p]);clear j i h o g p;go_in;go_wp2_with (go_at_call 240;refine mo (q.o _ _) ?_;rintro e K ⟨rfl,c⟩);obtain ⟨⟨L,M⟩,⟨f0,f1⟩,f,a⟩:=d.o ((1,x.tmod y)) _ c;have l:=I a;clear a c;apply I;go_wp2;refine aK (v:=zd #[J ((1,x.tmod y):Vl).1,J ((1,x.tmod y):Vl).2]) (by simp [results,results259,go_sem,L,M]) rfl ?_;rw [m.o];exact l.o
def aC (x:By):Pt->Bool
 | .atom k C _=>(k == 2&&C == x)||[].any id
 | .un k a=>(k == 2&&([]:By) == x)||[aC x a].any id
 | .bin k a b=>(k == 2&&([]:By) == x)||[aC x a,aC x b].any id
 | .ifs a b c=>((3:Nat) == 2&&([]:By) == x)||[aC x a,aC x b,aC x c].any id
def Fq (x:By) (p:Pt):aC x p=((p.k == 2&&p.nm == x)||(p.kids.map (aC x)).any id):=by
 cases p<;>rfl
def ib (w:zW) (a:Option zD) (n:Nat) (q:Nat->Pt) (Q0:Nat->Option zD) (L C:Nat->Nat):Prop:=
 ∀ j,j<n->∃ g,a=A (yh g)/\g<w.heap.size/\w.cell? (X g (j*4))=A (J ((q j).k:Int))/\w.cell? (X g (j*4+1))=A (Q ((q j).nm))/\w.cell? (X g (j*4+2))=A (J ((q j).n:Int))/\w.cell? (X g (j*4+3))=A (B (Q0 j) (L j) (C j))
def ib.next {w w':zW} {a:Option zD} {n:Nat} {q:Nat->Pt} {Q0:Nat->Option zD} {L C:Nat->Nat} (h:ib w a n q Q0 L C) (c:zB w w'):ib w' a n q Q0 L C:=λj e=>by
 obtain ⟨g,d,b,c0,c1,c2,c3⟩:=h j e;exact ⟨g,d,bG b c.size,(c.cell (p:=X g (j*4)) b).t c0,(c.cell (p:=X g (j*4+1)) b).t c1,(c.cell (p:=X g (j*4+2)) b).t c2,(c.cell (p:=X g (j*4+3)) b).t c3⟩
def yC {w:zW} {g:Nat} {u0 u1:zV} {a:TypeId} (h:w.heap[g]?=A (zM #[u0,u1] a (0,0))) (v0 v1:zV):((w.setCell (yh g) v0).setCell (X g 1) v1).heap[g]?=A (zM #[v0,v1] a (0,0)):=by
 rw [aj (aj h 0 v0) 1 v1];rfl
def kG (r:zV) (w:zW) (n:Nat) (q:Nat->Pt) (Q0:Nat->Option zD) (L C:Nat->Nat) (v:Nat->Vl):Prop:=
 ∀ j,j<n->∀ W,zB w W->zC prog 220 #[zd #[bH r],zd #[J ((q j).k:Int),Q ((q j).nm),J ((q j).n:Int),B (Q0 j) (L j) (C j)]] W (dx (v j) W)
def kG.next {r:zV} {w w':zW} {n:Nat} {q:Nat->Pt} {Q0:Nat->Option zD} {L C:Nat->Nat} {v:Nat->Vl} (h:kG r w n q Q0 L C v) (a:zB w w'):kG r w' n q Q0 L C v:=
 λj b W c=>h j b W (a.t (c.m a.size))
def kG.only {r:zV} {w:zW} {n:Nat} {q:Nat->Pt} {Q0:Nat->Option zD} {L C:Nat->Nat} {v:Nat->Vl} (h:kG r w n q Q0 L C v) (j:Nat) (a:j<n) (k:Int) :
  zC prog 243 #[zd #[bH r],J k,zd #[J ((q j).k:Int),Q ((q j).nm),J ((q j).n:Int),B (Q0 j) (L j) (C j)]] w (dx (aP k (v j)) w):=
 Gm r k _ _ _ _ _ _ _ w (λW b=>h j a W b)
def Dl (r:zV) (d:Vl) (p:Pt) (a:Option zD) (n c:Nat) (w:zW) (q:Nat->Pt) (Q0:Nat->Option zD) (L C:Nat->Nat) (v:Nat->Vl) (hn:2<=n) (ao:n<=3) (G:ib w a n q Q0 L C) (T:kG r w n q Q0 L C v) :
  zC prog 245 #[zd #[bH r],zd #[J d.1,J d.2],zd #[J p.k,Q p.nm,J p.n,B a n c]] w (dx (dH d (v 0) (v 1)) w):=by
 obtain ⟨g,rfl,s,c0,c1,c2,c3⟩:=G 0 (by omega);obtain ⟨g',GU,_,d0,d1,d2,d3⟩:=G 1 (by omega);obtain rfl:g=g':=(by simpa using GU);rw [jC] at c0 c1 c2 c3;rw [mQ] at d0 d1 d2 d3;have H:=I T;have wR:(0:Int)<(n:Int):=(by omega);have an:(1:Int)<(n:Int):=(by omega);obtain ⟨i,l⟩:=d;clear G T GU;obtain ⟨D,R⟩:∃ D,D=((((w.alloc (zM #[bH r] 306)).alloc (zM #[J i,J l] 177)).alloc (zM #[J p.k,Q p.nm,J p.n,zS g n c] 87)).alloc (zM #[J 0,J 0] 177)):=⟨_,rfl⟩;have Q4:D.heap.size=w.heap.size+1+1+1+1:=(by rw [R];simp);have f:zB w D:=by rw [R];exact (og w _ _ _).alloc (by simp;omega) _
 have QV:D.heap[w.heap.size]?=A (zM #[bH r] 306 (0,0)):=by
  rw [R,cj _ _ _ (by simp;omega),cj _ _ _ (by simp;omega),cj _ _ _ (by simp)];exact bL w _
 have W4:D.heap[w.heap.size+1]?=A (zM #[J i,J l] 177 (0,0)):=by
  rw [R,cj _ _ _ (by simp),cj _ _ _ (by simp)];exact bc w _ _ _
 have M:D.heap[w.heap.size+1+1]?=A (zM #[J p.k,Q p.nm,J p.n,zS g n c] 87 (0,0)):=by
  rw [R,cj _ _ _ (by simp)];exact fZ w _ _ _ _
 have w2:D.heap[w.heap.size+1+1+1]?=A (zM #[J 0,J 0] 177 (0,0)):=by
  have:=bL (((w.alloc (zM #[bH r] 306)).alloc (zM #[J i,J l] 177)).alloc (zM #[J p.k,Q p.nm,J p.n,zS g n c] 87)) (zM #[J 0,J 0] 177);rw [R];simpa using this
 have C0:=(f.cell (p:=yh g) s).t c0;have hk:=(f.cell (p:=X g (0+1)) s).t c1;have w1:=(f.cell (p:=X g (0+2)) s).t c2;have C3:=(f.cell (p:=X g (0+3)) s).t c3;rw [cS] at hk w1 C3;obtain ⟨i0,_,_⟩:=Aq QV;obtain ⟨⟨i1,ad⟩,_,_⟩:=cq W4;obtain ⟨⟨_,_,_,i2⟩,_,_⟩:=aX M;have k:=I f;have HR:=I (And.intro QV (And.intro W4 (And.intro M w2)));have k0:=I R;have o:g<D.heap.size:=(by omega);have Q5:w.heap.size<D.heap.size:=(by omega);have aa:w.heap.size+1<D.heap.size:=(by omega);have B3:w.heap.size+1+1<D.heap.size:=(by omega);have B1:w.heap.size+1+1+1<D.heap.size:=(by omega);have Jt:=I (show zC prog 243 #[zd #[bH r],J 2,zd #[J ((q 0).k:Int),Q ((q 0).nm),J ((q 0).n:Int),B (Q0 0) (L 0) (C 0)]] D.drew λe S=>e=zP (zd #[J (aP 2 (v 0)).1,J (aP 2 (v 0)).2])/\zB D S from
  ((H.o.next (w':=D.drew) f.drew).only 0 (by omega) 2).m λe S h=>⟨h.1,(aM _ _).drew.t h.2⟩)
 have fn:=I (show zC prog 243 #[zd #[bH r],J 2,zd #[J ((q 0).k:Int),Q ((q 0).nm),J ((q 0).n:Int),B (Q0 0) (L 0) (C 0)]] (D.alloc (zM #[J 0,J 0] 177)).drew λe S=>e=zP (zd #[J (aP 2 (v 0)).1,J (aP 2 (v 0)).2])/\zB D S/\S.heap[D.heap.size]?=A (zM #[J 0,J 0] 177 (0,0)) from
  ((H.o.next (w':=(D.alloc (zM #[J 0,J 0] 177)).drew) (f.alloc f.size _).drew).only 0 (by omega) 2).m λe S h=>⟨h.1,(bZ _).drew.t (h.2.m (by show D.heap.size<=(D.alloc _).heap.size;simp)),(h.2.block D.heap.size (by show D.heap.size<(D.alloc _).heap.size;simp)).t (bL D _)⟩)
 go_in
 go_upto_region 1 with fail
 rw [<- k0.o];have ak:=I Q4;clear R k0 QV W4 M w2 Q4 f
 go_cut [7] (λs7 wc=>∃ Z,s7=zJ Z/\D.heap.size<=Z/\Hid (zB D wc)/\wc.heap[Z]?=A (zM #[J (aP 2 (v 0)).1,J (aP 2 (v 0)).2] 177 (0,0)))
 case first=>
  go_region_with (first|(go_at_call 243;refine Jt.o.m ?_;rintro e S ⟨rfl,t⟩;have Y:=I t;clear t)|(go_at_call 243;refine fn.o.m ?_;rintro e S ⟨rfl,t,hF⟩;obtain ⟨⟨y0,y1⟩,⟨z0,z1⟩,af⟩:=cq hF;have Y:=I t;have B2:=I hF;clear t hF))
  all_goals (go_wp2_with fail;go_meet;first|exact ⟨_,rfl,Y.o.size,Y.o.alloc Y.o.size _,bL _ _⟩|exact ⟨_,rfl,aG _,(Y.o.setCell (p:=yh D.heap.size) (aG _) _).setCell (p:=X D.heap.size 1) (aG _) _,yC B2.o _ _⟩)
 case rest=>
 obtain ⟨Z,rfl,am,b,hF⟩:=hcut;obtain ⟨Q6,lX,R2,O⟩:=HR.o;have al:=b.o.size;obtain ⟨⟨x0,x1⟩,_,af⟩:=cq hF;obtain ⟨ar,_,_⟩:=Aq ((b.o.block _ Q5).t Q6);obtain ⟨⟨j0,j1⟩,_,_⟩:=cq ((b.o.block _ aa).t lX);obtain ⟨⟨_,_,_,j2⟩,_,_⟩:=aX ((b.o.block _ B3).t R2);obtain ⟨⟨u,x⟩,⟨f0,f1⟩,k1⟩:=cq ((b.o.block _ B1).t O);have ac:=I ((b.o.block _ B1).t O);have U:=I (k.o.t (b.o.m k.o.size));have e0:=(b.o.cell (p:=X g 4) o).t ((k.o.cell (p:=X g 4) s).t d0);have e1:=(b.o.cell (p:=X g (4+1)) o).t ((k.o.cell (p:=X g (4+1)) s).t d1);have e2:=(b.o.cell (p:=X g (4+2)) o).t ((k.o.cell (p:=X g (4+2)) s).t d2);have e3:=(b.o.cell (p:=X g (4+3)) o).t ((k.o.cell (p:=X g (4+3)) s).t d3);have SU:=I (λW (hb:zB wc W)=>(H.o.next (U.o.t (hb.m U.o.size))).only 1 (by omega) 2);clear hF Q6 lX R2 O i0 i1 ad i2 C0 hk w1 C3 c0 c1 c2 c3 d0 d1 d2 d3 Jt fn;generalize fk:aP 2 (v 0)=vf at *;obtain ⟨E,F⟩:=vf;have HU:=I fk;clear fk;have Rv:Z≠w.heap.size+1+1+1:=(by omega);by_cases j:(E,F)=(i,l)\/E=3
 .have V:=I (show dH (i,l) (v 0) (v 1)=(E,F) by unfold dH;rw [HU.o,aB j]);rcases j with j|j
  .obtain ⟨rfl,rfl⟩:=Prod.mk.inj j;have z:(E == E)=true:=(by simp);have QT:(F == F)=true:=(by simp);clear j;go_wp2;refine aK (v:=zd #[J E,J F]) (by simp [results,results245,go_sem,u,x]) rfl ?_;rw [V.o];exact ⟨rfl,dJ U.o _ (by omega) _ _⟩
  .have q3:(E == 3)=true:=by simp [j]
   by_cases K:E=i
   .by_cases m:F=l
    .have z:(E == i)=true:=(by simp [K]);have QT:(F == l)=true:=by simp [m]
     clear j K m;go_wp2;refine aK (v:=zd #[J E,J F]) (by simp [results,results245,go_sem,u,x]) rfl ?_;rw [V.o];exact ⟨rfl,dJ U.o _ (by omega) _ _⟩
    .have z:(E == i)=true:=(by simp [K]);have QT:(F == l)=false:=bo.2 m;clear j K m;go_wp2;refine aK (v:=zd #[J E,J F]) (by simp [results,results245,go_sem,u,x]) rfl ?_;rw [V.o];exact ⟨rfl,dJ U.o _ (by omega) _ _⟩
   .have z:(E == i)=false:=bo.2 K;clear j K;go_wp2;refine aK (v:=zd #[J E,J F]) (by simp [results,results245,go_sem,u,x]) rfl ?_;rw [V.o];exact ⟨rfl,dJ U.o _ (by omega) _ _⟩
 .have V:=I (show dH (i,l) (v 0) (v 1)=aP 2 (v 1) by unfold dH;rw [HU.o,aA j]);have q3:(E == 3)=false:=bo.2 (λh=>j (zZ h));have q0:E=i->F≠l:=λh1 h2=>j (zR (by rw [h1,h2]));clear j;have iL:=I (show ∀ P,zB wc P->dx (dH (i,l) (v 0) (v 1)) w (zP (zd #[J (aP 2 (v 1)).1,J (aP 2 (v 1)).2])) ((P.setCell (yh (w.heap.size+1+1+1)) (J (aP 2 (v 1)).1)).setCell (X (w.heap.size+1+1+1) 1) (J (aP 2 (v 1)).2)) from λP N=>by
   rw [V.o];exact ⟨rfl,dJ (U.o.t (N.m U.o.size)) _ (by omega) _ _⟩)
  have wO:=I (show ∀ P,zB wc P->_ from λP (N:zB wc P)=>cq ((N.block _ k1).t ac.o));by_cases K:E=i
  .have z:(E == i)=true:=(by simp [K]);have QT:(F == l)=false:=bo.2 (q0 K);clear K q0;go_wp2_with fail
   go_region_with (first|(go_at_call 243;refine (SU.o _ ((aM _ _).drew)).m ?_;rintro e P ⟨rfl,N⟩;obtain ⟨⟨m0,m1⟩,⟨n0,n1⟩,ag⟩:=wO.o _ ((aM _ _).drew.t N);have y:=I ((aM wc.heap.size wc).drew.t N);clear N))
   all_goals go_wp2
   all_goals refine aK (v:=zd #[J (aP 2 (v 1)).1,J (aP 2 (v 1)).2]) (by simp [results,results245,go_sem,m0,m1]) rfl ?_
   all_goals exact iL.o _ y.o
  .have z:(E == i)=false:=bo.2 K;clear K q0;go_wp2_with fail
   go_region_with (first|(go_at_call 243;refine (SU.o _ ((aM _ _).drew)).m ?_;rintro e P ⟨rfl,N⟩;obtain ⟨⟨m0,m1⟩,⟨n0,n1⟩,ag⟩:=wO.o _ ((aM _ _).drew.t N);have y:=I ((aM wc.heap.size wc).drew.t N);clear N))
   all_goals go_wp2
   all_goals refine aK (v:=zd #[J (aP 2 (v 1)).1,J (aP 2 (v 1)).2]) (by simp [results,results245,go_sem,m0,m1]) rfl ?_
   all_goals exact iL.o _ y.o
section
section
def fV (K:List (By × Nat)):Prop:=∀ t p,(t,p)∈K->(di t=true/\∃ c r,t=c::r/\c≠63/\c≠78)/\(ae t=true->kv t)
def xj (f:Nat) (l:By) (k:Nat) (t:By) (p:Nat) (h:(t,p)∈(bW f l k).1):ae t=true->kv t:=by
 induction f generalizing l k with
 | zero=>simp [bW] at h
 | succ f a=>
  match l with
  | []=>simp [bW] at h
  | c::r=>
   unfold bW at h;split at h
   .exact a _ _ h
   .split at h
    .simp only [bQ,mI] at h;rcases h with ⟨rfl,rfl⟩|h
     .rw [vp];intro b;exact FC c r b
     .exact a _ _ h
    .simp at h
def cQ (x:By) (n:Nat) (c:(x,n)∈eb) (t:By) (k:Nat) (h:ij t k):k=n↔t=x:=by
 have l:∀ y,y∈eb->ae y.1=false/\bm y.1=false/\y.1≠[]/\y.2≠1/\y.2≠2/\y.2≠0:=(by decide);obtain ⟨i,d,j,g,f,b⟩:=l _ c;simp only at i d j g f b;have a:∀ y,y∈eb->∀ z,z∈eb->(y.2=z.2↔y.1=z.1):=(by decide);rcases h with ⟨h,rfl⟩|⟨_,h,rfl⟩|⟨rfl,rfl⟩|h
 .exact ⟨λe=>absurd e.symm g,λe=>by rw [e,i] at h;cases h⟩
 .exact ⟨λe=>absurd e.symm f,λe=>by rw [e,d] at h;cases h⟩
 .exact ⟨λe=>absurd e.symm b,λe=>absurd e.symm j⟩
 .exact a _ h _ c
def QE (t:By) (k:Nat) (h:ij t k) (d:k=1\/k=2\/k=7\/k=8):b5 t kq=false/\zT t=true:=by
 rcases h with ⟨b,_⟩|⟨_,a,_⟩|⟨_,h⟩|h
 .exact ⟨ni t kq (λx c=>gG t x b (by revert x;decide)),by simp [zT,b]⟩
 .exact ⟨ni t kq (λx c=>fD t x a (by revert x;decide)),by simp [zT,a]⟩
 .omega
 .simp only [eb,bQ,jA,iK,mI] at h;rcases h with ⟨rfl,rfl⟩|⟨rfl,rfl⟩|⟨rfl,rfl⟩|⟨rfl,rfl⟩|⟨rfl,rfl⟩|⟨rfl,rfl⟩|⟨rfl,rfl⟩|⟨rfl,rfl⟩|⟨rfl,rfl⟩|⟨rfl,rfl⟩|⟨rfl,rfl⟩|⟨rfl,rfl⟩|⟨rfl,rfl⟩|⟨rfl,rfl⟩|⟨rfl,rfl⟩|⟨rfl,rfl⟩<;>first|decide|omega
def Lz (n:Nat) (c:1<=n) (b:n<=5) (t:By) (h:b5 t (dc n)=true):b5 t kq=true/\zT t=false/\t≠[]:=by
 have a:n=1\/n=2\/n=3\/n=4\/n=5:=(by omega);simp only [b5,pF] at h;rcases a with rfl|rfl|rfl|rfl|rfl<;>simp only [dc,bQ,jA,iK] at h
 .subst h;decide
 .subst h;decide
 .rcases h with rfl|rfl<;>decide
 .rcases h with rfl|rfl<;>decide
 .rcases h with rfl|rfl|rfl<;>decide
def Vi (n:Nat) (g:1<=n) (i:n<=5) (t:By) (k:Nat) (h:b5 t (dc n)=true) (c:ij t k):fu (k:Int)++eh t=lL k/\iP k=[]/\jO k=[]/\k≠1:=by
 have e:n=1\/n=2\/n=3\/n=4\/n=5:=(by omega);have a:∀ x m,(x,m)∈eb->t=x->(fu (m:Int)++eh x=lL m/\iP m=[]/\jO m=[]/\m≠1)->fu (k:Int)++eh t=lL k/\iP k=[]/\jO k=[]/\k≠1:=by
  intro x m f b h;have d:=(cQ x m f t k c).2 b;subst d b;exact h
 simp only [b5,pF] at h;rcases e with rfl|rfl|rfl|rfl|rfl<;>simp only [dc,bQ,jA,iK] at h
 .exact a _ 5 (by decide) h (by decide)
 .exact a _ 4 (by decide) h (by decide)
 .rcases h with h|h
  .exact a _ 18 (by decide) h (by decide)
  .exact a _ 19 (by decide) h (by decide)
 .rcases h with h|h
  .exact a _ 12 (by decide) h (by decide)
  .exact a _ 13 (by decide) h (by decide)
 .rcases h with h|h|h
  .exact a _ 15 (by decide) h (by decide)
  .exact a _ 16 (by decide) h (by decide)
  .exact a _ 17 (by decide) h (by decide)
section
variable {K:List (By × Nat)}
def fV.get (b:fV K) {i:Nat} (a:i<G K):di (aw K i)=true/\∃ c r,aw K i=c::r/\c≠63/\c≠78:=by
 rw [eY K i a];exact (b K[i].1 K[i].2 (bt a)).1
def fV.dig (b:fV K) {i:Nat} (a:i<G K):ae (aw K i)=true->kv (aw K i):=by
 rw [eY K i a];exact (b K[i].1 K[i].2 (bt a)).2
def uE {i:Nat} {x:By} (b:x≠[]) (h:aw K i=x):i<G K:=by
 rcases cC i (G K) with a|a
 .exact a
 .rw [kV K i a] at h;exact absurd h.symm b
def sk {i:Nat} (a:i<G K):pq K (i+1)=A (aw K i):=by
 rw [Ap K i (by omega),eY K i a]
def sr {i:Nat} (a:i<G K):bV K (i+1)=bV K i++cM (pq K i) (aw K i):=by
 rw [x8 K i a,eY K i a]
def kf {i:Nat} (x:By) (k:Nat) (e:(x,k)∈eb) (b:b5 x kq=false) (d:x≠[]) (c:k≠0) (h:aw K i=x):bV K (i+1)=bV K i++(fu (k:Int)++eh x)/\pq K (i+1)=A x/\i<G K:=by
 have a:=uE d h;refine ⟨?_,by rw [sk a,h],a⟩;rw [sr a,h,yc _ x k (zZ (zZ (zZ e))) c b]
def Vj (t:By) (k:Nat) (b:ij t k) (d:k=1\/k=2\/k=7\/k=8) (c:ae t=true->kv t) (a:t≠[]):fu (k:Int)++eh t=ai (.atom k (ej t) (fw t)):=by
 show _=iP k++ej t++gu k (fw t)++[]++jO k;rcases b with ⟨h,rfl⟩|⟨h,e,rfl⟩|⟨_,h⟩|h
 .rw [LA t h];unfold ej fw gu;rw [h];simp only [jq];rw [Ql t a (c h)];simp [fu,p7,iP,tD,jO,tE]
 .unfold ej gu;rw [h];simp [fu,p7,iP,tD,jO,tE]
 .omega
 .simp only [eb,bQ,jA,iK,mI] at h;rcases h with ⟨rfl,rfl⟩|⟨rfl,rfl⟩|⟨rfl,rfl⟩|⟨rfl,rfl⟩|⟨rfl,rfl⟩|⟨rfl,rfl⟩|⟨rfl,rfl⟩|⟨rfl,rfl⟩|⟨rfl,rfl⟩|⟨rfl,rfl⟩|⟨rfl,rfl⟩|⟨rfl,rfl⟩|⟨rfl,rfl⟩|⟨rfl,rfl⟩|⟨rfl,rfl⟩|⟨rfl,rfl⟩<;>first|rfl|omega
def bh.told (u:fV K) {n i j:Nat} {p:Pt} (h:bh K n i j p):tK (pq K i)=false->j<=G K/\tK (pq K j)=true/\bV K j=bV K i++ai p:=by
 induction h with
 | atom i k o s W=>
  intro _;obtain ⟨QT,F⟩:=QE _ k s W;obtain ⟨_,c,Q5,QV,_⟩:=u.get o;refine ⟨by omega,by rw [sk o];exact F,?_⟩;rw [sr o,yc _ _ k s (by omega) QT,Vj _ k s W (u.dig o) (by rw [QV];simp)]
 | jV i j a e _ g=>
  intro _;obtain ⟨e1,q,_⟩:=kf (K:=K) [110,111,116] 6 (by decide) (by decide) (by decide) (by decide) e;obtain ⟨d,t,m⟩:=g (by rw [q];decide);refine ⟨d,t,?_⟩;rw [m,e1];simp [ai,jn,fu,p7,eh,ae,cT,dm,fH,iA,dX,iP,tD,jO,tE,gu]
 | neg i j a e _ g=>
  intro C;have o:=uE (by decide) e;obtain ⟨d,t,m⟩:=g (by rw [sk o,e];decide);refine ⟨d,t,?_⟩;rw [m,sr o,e,QF _ C];simp [ai,jn,fu,p7,iP,tD,jO,tE,gu]
 | br i j a e _ v g=>
  intro _;obtain ⟨e1,q,_⟩:=kf (K:=K) [40] 9 (by decide) (by decide) (by decide) (by decide) e;obtain ⟨f1,f2,f3⟩:=kf (K:=K) [41] 10 (by decide) (by decide) (by decide) (by decide) v;obtain ⟨d,t,m⟩:=g (by rw [q];decide);refine ⟨by omega,by rw [f2];decide,?_⟩;rw [f1,m,e1];simp [ai,jn,fu,p7,eh,ae,cT,dm,fH,iA,dX,iP,tD,jO,tE,gu]
 | ifs i hs Q0 Q6 a b c e v _ d _ t _ m f l x=>
  intro _;obtain ⟨e1,q,_⟩:=kf (K:=K) [105,102] 3 (by decide) (by decide) (by decide) (by decide) e;obtain ⟨f1,f2,_⟩:=kf (K:=K) [40] 9 (by decide) (by decide) (by decide) (by decide) v;obtain ⟨T,N,_⟩:=kf (K:=K) [44] 11 (by decide) (by decide) (by decide) (by decide) d;obtain ⟨L,M,_⟩:=kf (K:=K) [44] 11 (by decide) (by decide) (by decide) (by decide) t;obtain ⟨R,y,Q4⟩:=kf (K:=K) [41] 10 (by decide) (by decide) (by decide) (by decide) m;obtain ⟨_,_,D⟩:=f (by rw [f2];decide);obtain ⟨_,_,z⟩:=l (by rw [N];decide);obtain ⟨_,_,c3⟩:=x (by rw [M];decide);refine ⟨by omega,by rw [y];decide,?_⟩;rw [R,c3,L,z,T,D,f1,e1];simp [ai,jn,fu,p7,eh,ae,cT,dm,fH,iA,dX,iP,tD,jO,tE,gu,lL,EF]
 | up n i j a _ _ _ g=>exact g
 | more n i j j' k a b d Y _ Z s _ f l=>
  intro C;obtain ⟨w,r,E⟩:=Lz n d Y _ Z;obtain ⟨e1,q,V,S⟩:=Vi n d Y _ k Z s;have H:j<G K:=by
   rcases cC j (G K) with h|h
   .exact h
   .exact absurd (kV K j h) E
  obtain ⟨_,U,D⟩:=f C;obtain ⟨O,P,z⟩:=l (by rw [sk H];exact r);refine ⟨O,P,?_⟩;rw [z,sr H,Vk _ _ k s w U,e1,D];simp [ai,jn,q,V,S,gu]
end
end
end
section
section
def aL (len:Nat) (K:List (By × Nat)):List PT:=K.map (λx=>(fU x.1,x.2,ej x.1,fw x.1))++[(0,len,[],0)]
section
variable {len:Nat} {K:List (By × Nat)}
def kP:(aL len K).length=G K+1:=by simp [aL]
def qY {i:Nat} (h:i<(aL len K).length) (a:i<G K):(aL len K)[i]=(fU (aw K i),eF len K i,ej (aw K i),fw (aw K i)):=by
 have b:eF len K i=K[i].2:=by simp [eF,a]
 rw [eY K i a,b];simp [aL,a]
def r7 {i:Nat} (h:i<(aL len K).length) (a:¬ i<G K):(aL len K)[i]=(0,len,[],0):=by
 simp [aL,yq,a]
def Fx {i:Nat} (h:i<(aL len K).length):((aL len K)[i]).2.1=eF len K i:=by
 by_cases a:i<G K
 .rw [qY h a]
 .rw [r7 h a];simp [eF,show (G K)<=i by omega]
def fV.tk (e:fV K) {i:Nat} (f:i<G K):Tk (aw K i):=by
 obtain ⟨_,c,r,h,d,a⟩:=e.get f;rw [h];exact ⟨c,r,rfl,d,λb=>a (by unfold cE at b;simp at b;exact b.1)⟩
def fV.LC (e:fV K) (i:Nat):aw K i≠iF:=by
 by_cases f:i<G K
 .obtain ⟨_,c,r,h,d,a⟩:=e.get f;rw [h];intro b;apply a;unfold iF at b;simp at b;exact b.1
 .rw [kV K i (by omega)];decide
def fV.cls (g:fV K) {i:Nat} (h:i<(aL len K).length):∃ k:Nat,ij (aw K i) k/\((aL len K)[i]).1=(k:Int)/\k<20/\(k=0↔¬ i<G K):=by
 by_cases d:i<G K
 .obtain ⟨j,c,r,f,_⟩:=g.get d;obtain ⟨k,a,e⟩:=Kc (aw K i) j (by rw [f];simp);refine ⟨k,a,by rw [qY h d];exact e,?_,?_⟩
  .rcases a with ⟨_,rfl⟩|⟨_,_,rfl⟩|⟨_,rfl⟩|C
   .omega
   .omega
   .omega
   .exact (show ∀ x,x∈eb->x.2<20 by decide) _ C
  .constructor
   .rintro rfl;rcases a with ⟨_,b⟩|⟨_,_,b⟩|⟨b,_⟩|C
    .omega
    .omega
    .rw [f] at b;cases b
    .exact absurd ((show ∀ x,x∈eb->x.2≠0 by decide) _ C rfl) id
   .intro b;exact absurd d b
 .refine ⟨0,zZ (zZ (zR ⟨kV K i (by omega),rfl⟩)),by rw [r7 h d];rfl,by omega,by simp [d]⟩
def fV.word (a:fV K) {i:Nat} (h:i<(aL len K).length) (x:By) (n:Nat) (d:(x,n)∈eb):((aL len K)[i]).1=(n:Int)↔aw K i=x:=by
 obtain ⟨k,b,c,_,_⟩:=a.cls h;rw [c];have:=cQ x n d _ k b;constructor
 .intro h;exact this.1 (by omega)
 .intro h;have:=this.2 h;omega
end
structure St (len:Nat) (K:List (By × Nat)) (w:zW) (b bl cp i:Nat) (d:Nat) (e:Int):Prop where
 rd:cX w b bl cp (aL len K) i (d:Int) e
 env:Env w
 low:11<=bl
def St.le {len:Nat} {K:List (By × Nat)} {w:zW} {b bl cp i d:Nat} {e:Int} (h:St len K w b bl cp i d e):i<=G K:=by
 have:=h.rd.lt;rw [kP] at this;omega
def dQ (len:Nat) (K:List (By × Nat)) (S:List By) (D:Nat->Pt->Prop) (c1:Nat) (b bl cp i d:Nat) (e:Int) (w:zW) (r:Ending) (w':zW):Prop:=
 (∃ (f m:Nat) (p:Pt) (a:Option zD) (l c:Nat),r=zP (zp #[zd #[J p.k,Q p.nm,J p.n,B a l c],zF true])/\dR w' (λq=>w.heap.size<=q/\q<w'.heap.size) p a l c/\D f p/\St len K w' b bl cp f d e/\i<f/\Kp b w w'/\m+c1<=20*(f - i)/\kH len K S i f m) \/
 (∃ (f m:Nat) (E C k n:Int) (s:By) (a:Option zD) (l c:Nat),r=zP (zp #[zd #[J k,Q s,J n,B a l c],zF false])/\cX w' b bl cp (aL len K) f E C/\C≠0/\Kp b w w'/\m+c1<=20*(G K - i)+20/\ic len K S i C (eF len K f) m)
def zv (len:Nat) (K:List (By × Nat)) (b bl cp F:Nat):Prop:=
 ∀ (n i d:Nat) (e:Int) (w:zW),1<=n->n<=6->d<=6->10*(G K - i)+(7 - n)<F->St len K w b bl cp i d e ->
  zC prog 93 #[zJ b,J n] w (dQ len K [aH (lv n) d] (λa p=>bh K n i a p) (2*n) b bl cp i d e w)
def St.Ay {len:Nat} {K:List (By × Nat)} {w:zW} {b bl cp i d:Nat} {e:Int} (h:St len K w b bl cp i d e) (d':Nat) :
  St len K (w.setCell (X b 1) (J d')) b bl cp i d' e/\Kp b w (w.setCell (X b 1) (J d')):=by
 obtain ⟨c,a⟩:=h.rd.Ay (d':Int);exact ⟨⟨c,h.env.below a.bS (by have:=h.low;have:=h.rd.blk;omega),h.low⟩,a⟩
def St.down {len:Nat} {K:List (By × Nat)} {w w':zW} {b bl cp i a d d':Nat} {e c:Int} (h:St len K w b bl cp i d e) (g:cX w' b bl cp (aL len K) a (d':Int) c) (f:Below b w w'):St len K w' b bl cp a d' c:=
 ⟨g,h.env.below f (by have:=h.low;have:=h.rd.blk;omega),h.low⟩
def St.next {len:Nat} {K:List (By × Nat)} {w w':zW} {b bl cp i d:Nat} {e:Int} (h:St len K w b bl cp i d e) (a:zB w w'):St len K w' b bl cp i d e:=
 ⟨h.rd.next a,h.env.next a,h.low⟩
def St.store {len:Nat} {K:List (By × Nat)} {w:zW} {b bl cp i d:Nat} {e:Int} (h:St len K w b bl cp i d e) {g j:Nat} {u:zV} (a:b<g):St len K (w.setCell (X g j) u) b bl cp i d e:=
 ⟨h.rd.store (by omega) (by have:=h.rd.blk;omega),h.env.below ((aM b w).setCell (p:=X g j) (by show b<=g;omega) _) (by have:=h.low;have:=h.rd.blk;omega),h.low⟩
def St.ep {len:Nat} {K:List (By × Nat)} {w:zW} {b bl cp i d:Nat} {e:Int} (h:St len K w b bl cp i d e) (g:Nat) (v0 v1 v2 v3:zV) (a:b<g):St len K ((((w.setCell (yh g) v0).setCell (X g 1) v1).setCell (X g 2) v2).setCell (X g 3) v3) b bl cp i d e:=
 (((h.store a).store a).store a).store a
def zw (n:Nat) (t:By):Prop:=(n=3/\t=[110,111,116])\/(n=6/\t=[45])
def vZ (n:Nat) (t:By) (d:Nat) (h:zw n t) (b:d<6):ku (lv n) d t=[t,aH (lv n) (d+1)]:=by
 have a:∀ k,eT t k d=[t,aH k (d+1)]:=λk=>by unfold eT;rw [aA (by omega)]
 rcases h with ⟨rfl,rfl⟩|⟨rfl,rfl⟩
 .exact a 84
 .exact a 65
def Eu (n:Nat) (t:By) (h:zw n t):ku (lv n) 6 t=[fj]:=by
 rcases h with ⟨rfl,rfl⟩|⟨rfl,rfl⟩<;>decide
def LD (n:Nat) (t:By) (k:Nat) (h:zw n t) (a:ij t k):(n=3/\k=6)\/(n=6/\k=13):=by
 rcases h with ⟨rfl,rfl⟩|⟨rfl,rfl⟩
 .exact zR ⟨rfl,(cQ [110,111,116] 6 (by decide) _ k a).2 rfl⟩
 .exact zZ ⟨rfl,(cQ [45] 13 (by decide) _ k a).2 rfl⟩
def dR.un {w:zW} {S:Nat->Prop} {p:Pt} {a:Option zD} {l c g:Nat} {t:TypeId} {fr:Nat × Nat} (k:Nat) (h:dR w S p a l c) (d:S g) (C:w.heap[g]?=A (zM #[J p.k,Q p.nm,J p.n,B a l c] t fr)) (b:Nat):dR w S (.un k p) (A (yh g)) 1 b:=by
 refine dR.node (.un k p) g b (λ_=>a) (λ_=>l) (λ_=>c) d (by simp [Pt.kids]) (λj D=>?_) (λj D=>?_)
 .obtain rfl:j=0:=(by simp [Pt.kids] at D;omega);exact ⟨(bq w g 0 _ _ _ C).t rfl,(bq w g 1 _ _ _ C).t rfl,(bq w g 2 _ _ _ C).t rfl,(bq w g 3 _ _ _ C).t rfl⟩
 .obtain rfl:j=0:=(by simp [Pt.kids] at D;omega);exact h
def dR.bin {w:zW} {S:Nat->Prop} {p d:Pt} {a m:Option zD} {l c i f g:Nat} {t:TypeId} {fr:Nat × Nat} (k:Nat) (h:dR w S p a l c) (n:dR w S d m i f) (o:S g) (C:w.heap[g]?=A (zM #[J p.k,Q p.nm,J p.n,B a l c,J d.k,Q d.nm,J d.n,B m i f] t fr)) (e:Nat):dR w S (.bin k p d) (A (yh g)) 2 e:=by
 refine dR.node (.bin k p d) g e (λj=>if j=0 then a else m) (λj=>if j=0 then l else i) (λj=>if j=0 then c else f) o (by simp [Pt.kids]) (λj D=>?_) (λj D=>?_)
 .have b:j=0\/j=1:=(by simp [Pt.kids] at D;omega);rcases b with rfl|rfl
  .exact ⟨(bq w g 0 _ _ _ C).t rfl,(bq w g 1 _ _ _ C).t rfl,(bq w g 2 _ _ _ C).t rfl,(bq w g 3 _ _ _ C).t rfl⟩
  .exact ⟨(bq w g 4 _ _ _ C).t rfl,(bq w g 5 _ _ _ C).t rfl,(bq w g 6 _ _ _ C).t rfl,(bq w g 7 _ _ _ C).t rfl⟩
 .have b:j=0\/j=1:=(by simp [Pt.kids] at D;omega);rcases b with rfl|rfl
  .exact h
  .exact n
end
end
def Env.adE {w:zW} (h:Env w) (k:Nat) (b:k<20):w.cell? (X 4 (k*3))=A (Q (iP k))/\w.cell? (X 4 (k*3+1))=A (Q (lL k))/\w.cell? (X 4 (k*3+2))=A (Q (jO k)):=by
 obtain ⟨t,C,a⟩:=h.spell;rw [bq w 4 _ _ _ _ a,bq w 4 _ _ _ _ a,bq w 4 _ _ _ _ a];rcases (show k=0\/k=1\/k=2\/k=3\/k=4\/k=5\/k=6\/k=7\/k=8\/k=9\/k=10\/k=11\/k=12\/k=13\/k=14\/k=15\/k=16\/k=17\/k=18\/k=19 by omega) with rfl|rfl|rfl|rfl|rfl|rfl|rfl|rfl|rfl|rfl|rfl|rfl|rfl|rfl|rfl|rfl|rfl|rfl|rfl|rfl<;>exact ⟨rfl,rfl,rfl⟩
def Good:Pt->Prop
 | .atom k _ n=>k<20/\n<=gP
 | .un k a=>k<20/\Good a
 | .bin k a b=>k<20/\Good a/\Good b
 | .ifs a b c=>Good a/\Good b/\Good c
def Good.get {p:Pt} (h:Good p):p.k<20/\p.n<=gP/\∀ j (C:j<G p.kids),Good p.kids[j]:=by
 cases p with
 | atom k x n=>exact ⟨h.1,h.2,λj C=>by simp [Pt.kids] at C⟩
 | un k a=>
  refine ⟨h.1,bE _,λj C=>?_⟩;obtain rfl:j=0:=(by simp [Pt.kids] at C;omega);exact h.2
 | bin k a b=>
  refine ⟨h.1,bE _,λj C=>?_⟩;rcases (show j=0\/j=1 by simp [Pt.kids] at C;omega) with rfl|rfl
  .exact h.2.1
  .exact h.2.2
 | ifs a b c=>
  refine ⟨by show 3<20;omega,bE _,λj C=>?_⟩;rcases (show j=0\/j=1\/j=2 by simp [Pt.kids] at C;omega) with rfl|rfl|rfl
  .exact h.1
  .exact h.2.1
  .exact h.2.2
def ij.lt {t:By} {k:Nat} (h:ij t k):k<20:=by
 rcases h with ⟨_,rfl⟩|⟨_,_,rfl⟩|⟨_,rfl⟩|C
 .omega
 .omega
 .omega
 .exact (show ∀ x,x∈eb->x.2<20 by decide) _ C
def Gp (t:By) (h:di t=true):fw t<=gP:=by
 unfold fw;by_cases a:ae t=true
 .rw [a];simp only [jq];unfold di at h;rw [a] at h;simp only [jq,qA,pG] at h;exact h.2
 .rw [aA a];exact bE _
def bh.good {K:List (By × Nat)} (d:fV K) {n i j:Nat} {p:Pt} (h:bh K n i j p):Good p:=by
 induction h with
 | atom i k g f _=>exact ⟨f.lt,Gp _ (d.get g).1⟩
 | jV _ _ _ _ _ b=>exact ⟨by decide,b⟩
 | neg _ _ _ _ _ b=>exact ⟨by decide,b⟩
 | br _ _ _ _ _ _ b=>exact ⟨by decide,b⟩
 | ifs _ _ _ _ _ _ _ _ _ _ _ _ _ _ _ a c e=>exact ⟨a,c,e⟩
 | up _ _ _ _ _ _ _ b=>exact b
 | more _ _ _ _ _ _ _ _ _ _ _ f _ a c=>exact ⟨f.lt,a,c⟩
def Bu (b:Nat) (a:By) (w:zW):Prop:=Lib.IsBuilderF 170 5 b b (Lib.byteCells a) w/\b<w.heap.size
structure qs (b:Nat) (w w':zW):Prop where
 bS:Below b w w'
 oth:Lib.OthersKept 5 (A b) w w'
def qs.t {b:Nat} {w w' a:zW} (h:qs b w w') (g:qs b w' a):qs b w a:=⟨h.bS.t g.bS,h.oth.t g.oth⟩
def qs.refl (b:Nat) (w:zW):qs b w w:=⟨aM _ _,Lib.OthersKept.refl _ _ _⟩
def qs.next {b:Nat} {w w' a:zW} (h:qs b w w') (g:zB w' a) (e:b<=w'.heap.size):qs b w a:=⟨h.bS.t (g.m e),λk o i d f=>by
 have c:=h.oth k o i d f;rw [g.block k (cz.1 c).1];exact c⟩
def DW {T e:TypeId} {Q4 b:Nat} {p:zV} {c:List zV} {w w':zW} (h:Lib.BuilderAtF T e Q4 b p c w) (g:zB w w'):Lib.BuilderAtF T e Q4 b p c w':=by
 have a:=h.lt;obtain ⟨d,v,f,l,i⟩:=h;refine ⟨d,v,(g.block b a).t f,l.kept (row:=none) ⟨g.os,g.tape,g.output,g.size,λk j _=>g.block k j⟩ ?_,i⟩;cases v.ownBlock with
 | none=>exact zR rfl
 | some x=>exact zZ (by simp)
def Bu.next {b:Nat} {a:By} {w w':zW} (h:Bu b a w) (g:zB w w'):Bu b a w':=⟨h.1.elim (λx=>zR (DW x g)) (λx=>zZ (DW x g)),bG h.2 g.size⟩
def qs.blk {b q:Nat} {w w':zW} {cs:Array zV} {t:TypeId} {fr:Nat × Nat} (h:qs b w w') (d:w.heap[q]?=A (zM cs t fr)) (C:q≠b) (a:t≠5):w'.heap[q]?=A (zM cs t fr):=
 h.oth q _ d (by simpa using C) (λc f e=>by simp only [Obj.cells.injEq] at e;exact a e.2.1)
def ix (b:Nat) (a s:By) (w:zW) (h:Bu b a w) (g:G a+G s<=1000000) :
  zC prog 131 #[zJ b,Q s] w λe C=>e=zP (zp #[J (G s),.nilIface])/\Bu b (a++s) C/\qs b w C:=by
 refine (Builder_WriteString_k b b _ ⟨s.toArray⟩ w h.1 (by show (a.map _).length+G s<=_;rw [fy];omega) (by have:=h.2;omega)).m ?_;rintro e C ⟨rfl,d,c,f⟩;refine ⟨rfl,⟨?_,bG h.2 c.size⟩,c,f⟩;have e1:Lib.byteCells (a++s)=Lib.byteCells a++Lib.strCells ⟨s.toArray⟩:=by
  show (a++s).map _=a.map _++s.map _;rw [fK]
 rw [e1];exact zZ d
def EA (a:By) (l:List By) (j:Nat) (h:j<G l):jn a (l.take (j+1))=jn a (l.take j)++(if j=0 then [] else a)++l[j]:=by
 rw [vJ h,Gk];congr 2;by_cases b:j=0
 .subst b;simp
 .rw [aA b,aA];intro e;have c:=eL List.length e;rw [sF,nZ] at c;omega
def L3 (a:By) (l:List By) (j:Nat):(jn a (l.take j)).length<=(jn a l).length:=by
 induction l generalizing j with
 | nil=>simp
 | cons x l _=>
  cases j with
  | zero=>simp [jn]
  | succ j=>
   simp only [yn,jn,b6];have:((l.take j).flatMap λy=>a++y).length<=(l.flatMap λy=>a++y).length:=by
    conv=>rhs;rw [<- wa j l,yo,b6]
    omega
   omega
def L4 (p:Pt):By:=iP p.k++p.nm++gu p.k p.n
def jN (p:Pt) (j:Nat):By:=L4 p++jn (lL p.k) ((p.kids.map ai).take j)
def Gq (p:Pt):ai p=jN p (G p.kids)++jO p.k:=by
 rw [Sq];unfold jN L4;rw [qy (by simp)]
def BL (p:Pt) (j:Nat) (h:j<G p.kids):jN p (j+1)=jN p j++(if j=0 then [] else lL p.k)++ai p.kids[j]:=by
 unfold jN;rw [EA _ _ j (by simpa using h),kJ];simp
def BM (p:Pt) (j:Nat):(jN p j).length+(jO p.k).length<=(ai p).length:=by
 rw [Sq];unfold jN L4;have:=L3 (lL p.k) (p.kids.map ai) j;simp only [b6] at *;omega
def Bo (len:Nat) (K:List (By × Nat)) (w:zW) (e:Ending) (w':zW):Prop:=
 zB w w' /\
 ((∃ (p:Pt) (a:Option zD) (l c b:Nat),e=zP (zp #[zd #[J p.k,Q p.nm,J p.n,B a l c],J 0,J 0])/\dR w' (λq=>w.heap.size<=q/\q<w'.heap.size) p a l c/\bh K 1 0 (G K) p/\ai p=bV K (G K)/\¬ 100<(bV K (G K)).length/\b<=1000000/\cF len b [aH 82 0] K=A (0,0)) \/
  (∃ b,e=zP (zp #[zd #[J 0,Q [],J 0,zN],J 7,J 0])/\100<(bV K (G K)).length/\b<=1000000/\cF len b [aH 82 0] K=A (0,0)) \/
  (∃ C p b,e=zP (zp #[zd #[J 0,Q [],J 0,zN],J C,J ((p:Nat):Int)])/\C≠0/\b<=1000000/\cF len b [aH 82 0] K=A (C,p)))
def Iy {w w':zW} (h:zB w w') (g:Nat) (a:w.heap.size<=g) (v0 v1 v2 v3:zV):zB w ((((w'.setCell (yh g) v0).setCell (X g 1) v1).setCell (X g 2) v2).setCell (X g 3) v3):=
 (((h.setCell (p:=yh g) a _).setCell (p:=X g 1) a _).setCell (p:=X g 2) a _).setCell (p:=X g 3) a _
def Gr (f:Nat) (rest:By) (k:Nat):bW (f+1) (32::rest) k=bW f rest (k+1):=by
 conv=>lhs;unfold bW
 rw [aB rfl]
def UH (f k:Nat):bW f [] k=([],none):=by cases f<;>rfl
def Gs (f:Nat) (c:UInt8) (r rest:By) (k:Nat) (e:c≠32) (a:rowLen (c::r++rest)=(c::r).length) (b:di (c::r)=true) :
  bW (f+1) (c::r++rest) k=((c::r,k)::(bW f rest (k+(c::r).length)).1,(bW f rest (k+(c::r).length)).2):=by
 have e1:(c::r++rest).take (rowLen (c::r++rest))=c::r:=by rw [a,List.take_left'];rfl
 have d:(c::r++rest).drop (rowLen (c::r++rest))=rest:=by rw [a,List.drop_left'];rfl
 conv=>lhs;unfold bW
 simp only [gT] at e1 d a ⊢;rw [aA e,e1,aB b,d,a]
def bh.ups {K:List (By × Nat)} {i j:Nat} {p:Pt} (m n:Nat) (h:bh K (n+m) i j p) (b:1<=n) (c:n+m<=6):bh K n i j p:=by
 induction m with
 | zero=>exact h
 | succ m a=>exact a (.up _ _ _ _ (by omega) (by omega) h) (by omega)
end Go.Proofs.YtihgojcfpnhelaaGreatDoor
