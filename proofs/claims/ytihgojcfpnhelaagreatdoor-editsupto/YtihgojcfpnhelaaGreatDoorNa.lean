import Derived.Test.YtihgojcfpnhelaaGreatDoorAa
set_option maxRecDepth 100000
set_option maxHeartbeats 4000000
set_option linter.all false
namespace Go.Proofs.YtihgojcfpnhelaaGreatDoor
open Value renaming slice->B,agg->zd,bool->zF,pointer->zK
open Obj renaming cells->zM
open Ending renaming returned->zP
open Option renaming some->A
open Go renaming World->zW,Value->zV,Calls->zC,Addr->zD
open Go.RowKit Go.Proofs.Tryz
open List renaming length→G
def U8 (q o:Nat) (a:Option zD) (l c:Nat) (f:Option zD) (d b:Nat) (w:zW) (g:w.cell? (X q o)=A (B a l c)) (i:w.frozen? (X q o)=false) (h:q<w.heap.size) :
  zC prog 163 #[zK (A (X q o)),B f d b] w λe C=>e=zP (.func (.func 192) #[] #[zJ w.heap.size,zK (A (yh (w.heap.size+1)))])/\C=((w.setCell (X q o) (B f d b)).alloc (zM #[zK (A (X q o))] 253)).alloc (zM #[B a l c] 101):=by
 go_in;go_wp2;go_ret;exact ⟨rfl,rfl⟩
def Tg (q:Nat) (k n b a:Int) (w:zW) (h:w.cell? (X q 5)=A (J k)) (c:w.cell? (X q 6)=A (J n)) (j:w.frozen? (X q 5)=false) (f:w.frozen? (X q 6)=false) (i:q<w.heap.size) :
  zC prog 196 #[zK (A (X q 5)),zd #[J b,J a]] w λe C=>e=zP (.func (.func 219) #[] #[zJ w.heap.size,zK (A (yh (w.heap.size+1+1)))])/\C=((((w.setCell (X q 5) (J b)).setCell (X q 6) (J a)).alloc (zM #[zK (A (X q 5))] 287)).alloc (zM #[J b,J a] 177)).alloc (zM #[J k,J n] 177):=by
 have g:q<w.heap.size+1:=(by omega);have d:q<w.heap.size+1+1:=(by omega);go_in;go_wp2;go_ret;exact ⟨rfl,rfl⟩
def Ru (a:Option zD) (l c:Nat) (w:zW) :
  zC prog 72 #[B a l c] w λe C=>e=zP (.func (.func 106) #[] #[zJ w.heap.size])/\C=w.alloc (zM #[B a l c] 104):=by
 go_in;go_wp2;go_ret;exact ⟨rfl,rfl⟩
section
open Go.RowKit Go.Shelf
attribute [local go_sem] Oper.semAt_some
def tN (n:Nat):(k:Nat)->k<=n->List { i:Nat // i<n }
 | 0,_=>[]
 | k+1,h=>tN n k (by omega)++[⟨n - (k+1),by omega⟩]
def tO (n:Nat):∀ k h,(tN n k h).length=k
 | 0,_=>rfl
 | k+1,h=>by simp [tN,tO n k]
def Gt (n k a:Nat) (h:k<=n) (b:a<=n) (e:k=a):tN n k h=tN n a b:=by subst e;rfl
def Th (n k:Nat) (h:k<=n) (e:k=0):tN n k h=[]:=by subst e;rfl
def Ti (n j:Nat) (h:j<n):tN n (n - j) (by omega)=tN n (n - (j+1)) (by omega)++[⟨j,h⟩]:=by
 rw [Gt n (n - j) (n - (j+1)+1) (by omega) (by omega) (by omega)];simp only [tN];congr 2;exact Subtype.ext (by simp only;omega)
def OC (T:Nat->Prop) (W a:zW):Prop:=W.heap.size<=a.heap.size/\∀ q,T q->a.heap[q]?=W.heap[q]?
def OD (m:Nat) (Z:1<=m) (l k b f n c:Nat) (y:Nat->zV) (T:Nat->Prop) (U:n<=maxLen) (w:T k) (t:T b) (QV Q0:List { i:Nat // i<n }->zW->Prop)
  (H:∀ d (x:{ i:Nat // i<n }) W,QV d W->G d<n->YieldAt Fence.wide (m - 1) prog l #[J (x.1:Int),y x.1] W λe h=>
   (e=zP (zF true)/\QV (d++[x]) h/\OC T W h)\/(e=zP (zF false)/\Q0 (d++[x]) h))
  (W:zW) (s:W.cell? (yh k)=A (B (A (X b f)) n c)) (F:∀ j,j<n->W.cell? (X b (f+j))=A (y j)) (O:QV [] W) :
  CallsIn Fence.wide m prog 143 #[.func (.yield l) #[] #[],zJ k] W λe h=>(∃ v,e=zP v) /\
   ((∃ K,K=tN n n (aG _)/\QV K h)\/(∃ d,True/\Q0 d h)):=by
 refine callsIn_of_wp func143 rfl trivial ?_ rfl;simp only [ntmps143,wq,gS,nZ,Nat.reduceAdd,Nat.reduceSub,wb,wh,wu,wm,ko,gT]
 gi_wp2
 gi_loopw [3] (λi wr=>∃ (j:Nat),j<=n/\i=J ((j:Int) - 1)/\QV (tN n (n - j) (by omega)) wr/\OC T W wr) (λi _=>(intOf i+1).toNat)
 case atStart=>
  refine ⟨n,aG _,by rw [show wrap64 ((n:Int) - 1)=(n:Int) - 1 by unfold maxLen at U;unfold wrap64;omega],?_,aG _,λ_ _=>rfl⟩;have:tN n (n - n) (by omega)=[]:=by simp [Th]
  rw [this];exact O
 case round=>
  obtain ⟨j,R,rfl,S,r,g⟩:=hrel;cases j with
  | succ j=>
   obtain ⟨P,Q4,assign,body,L,D⟩:=H _ ⟨j,by omega⟩ wr S (by rw [tO];omega);dsimp only at L;have N:wr.cell? (X b (f+j))=A (y j):=(nu (a:=X b (f+j)) (g b t)).t (F _ (by omega));have E:wr.cell? (yh k)=A (B (A (X b f)) n c):=(nu (a:=yh k) (g k w)).t s;have V:(((j+1:Nat):Int) - 1)=(j:Int):=(by omega);have M:(j:Int)<(n:Int):=(by omega);have u:j<n:=(by omega);have p:wrap64 ((j:Int) - 1)=(j:Int) - 1:=(by unfold maxLen at U;unfold wrap64;omega);rw [V]
   gi_wp2
   refine D.m ?_;rintro e W3 (⟨rfl,z,o⟩|⟨rfl,Y⟩)
   .gi_wp2
    go_roundw
    case rel=>
     refine ⟨j,by omega,by simp [p],?_,bf r o.1,λq C=>(o.2 q C).t (g q C)⟩;rw [Ti n j u];exact z
    case measure=>simp [intOf,p]
   .gi_wp2
    refine aK (results_none rfl _ _ _) rfl ?_;exact ⟨⟨_,rfl⟩,.inr ⟨_,trivial,Y⟩⟩
  | zero=>
   gi_wp2
   go_end0
   exact ⟨⟨_,rfl⟩,.inl ⟨_,rfl,S⟩⟩
def OE (m:Nat) (l b c:Nat) (a:Option zD) (QV:List { i:Nat // i<0 }->zW->Prop) (W:zW) (d:W.cell? (yh b)=A (B a 0 c)) (f:QV [] W) :
  CallsIn Fence.wide m prog 143 #[.func (.yield l) #[] #[],zJ b] W λe g=>(∃ v,e=zP v)/\QV [] g:=by
 refine callsIn_of_wp func143 rfl trivial ?_ rfl;simp only [ntmps143,wq,gS,nZ,Nat.reduceAdd,Nat.reduceSub,wb,wh,wu,wm,ko,gT]
 gi_wp2
 gi_loopw [3] (λi wr=>i=J (-1)/\QV [] wr) (λ_ _=>0)
 case atStart=>exact ⟨rfl,f⟩
 case round=>
  obtain ⟨rfl,C⟩:=hrel
  gi_wp2
  go_end0
  exact ⟨⟨_,rfl⟩,C⟩
def bp (m:Nat) (a:Option zD) (n c:Nat) (w:zW) :
  CallsIn Fence.wide m prog 107 #[B a n c] w λe C=>e=zP (.func (.func 143) #[] #[zJ w.heap.size])/\C=w.alloc (zM #[B a n c] 104):=by
 refine callsIn_of_wp func107 rfl trivial ?_ rfl;simp only [ntmps107,wq,gS,nZ,Nat.reduceAdd,Nat.reduceSub,wb,wh,wu,wm,ko,gT]
 gi_wp2
 go_ret;exact ⟨rfl,rfl⟩
def AL (m:Nat) (Q0:1<=m) (d n c:Nat) (a:Option zD) (r:Nat->zV) (T:Nat->Prop) (y:n<=maxLen) (f:T d) (w:zW) (t:∀ q,T q->q<w.heap.size) (g:w.cell? (yh d)=A (B a n c)) (E:n=0\/∃ h o,a=A (X h o)/\T h) (D:∀ j,j<n->∀ h o,a=A (X h o)->w.cell? (X h (o+j))=A (r j)) :
  SeqStopsK Fence.wide m prog 143 #[zJ d] (λx:{ i:Nat // i<n }=>#[Value.int .i64 (x.1:Int),r x.1]) (OC T) (λH=>H=tN n n (aG _)) (λ_=>True) n w:=λl F z W s _ _ C u=>by
 have b:=(s.cell (p:=yh d) (t _ f)).t g;rcases E with rfl|⟨h,o,rfl,v⟩
 .exact (OE m l d c a F W b u).m λe W' ⟨he,k⟩=>⟨he,.inl ⟨_,rfl,k⟩⟩
 .exact OD m Q0 l d h o n c r T y f v F z C W b (λj k=>(s.cell (p:=X h (o+j)) (t _ v)).t (D j k h o rfl)) u
def IE (n:Nat):(k:Nat)->k<=n->List { i:Nat // i<n }
 | 0,_=>[]
 | k+1,h=>IE n k (by omega)++[⟨k,by omega⟩]
def uw (n:Nat):∀ k h,(IE n k h).length=k
 | 0,_=>rfl
 | k+1,h=>by simp [IE,uw n k]
def Lf (n j:Nat) (a:n<=maxLen) (b:j<n):wrap64 ((j:Int)+1)=((j+1:Nat):Int):=by
 unfold maxLen at a;unfold wrap64;omega
def Gu (n j:Nat) (a:j<n):((n:Int) - ((j+1:Nat):Int)).toNat<((n:Int) - (j:Int)).toNat:=by omega
def Gv (m:Nat) (Y:1<=m) (l t b g n c:Nat) (u:Nat->zV) (T:Nat->Prop) (M:n<=maxLen) (H:T t) (s:T b) (QV y:List { i:Nat // i<n }->zW->Prop)
  (F:∀ d (x:{ i:Nat // i<n }) W,QV d W->G d<n->YieldAt Fence.wide (m - 1) prog l #[u x.1] W λe h=>
   (e=zP (zF true)/\QV (d++[x]) h/\OC T W h)\/(e=zP (zF false)/\y (d++[x]) h))
  (W:zW) (D:W.cell? (yh t)=A (B (A (X b g)) n c)) (E:∀ j,j<n->W.cell? (X b (g+j))=A (u j)) (O:QV [] W) :
  CallsIn Fence.wide m prog 171 #[.func (.yield l) #[] #[],zJ t] W λe h=>(∃ v,e=zP v) /\
   ((∃ K,K=IE n n (aG _)/\QV K h)\/(∃ d,True/\y d h)):=by
 refine callsIn_of_wp func171 rfl trivial ?_ rfl;simp only [ntmps171,wq,gS,nZ,Nat.reduceAdd,Nat.reduceSub,wb,wh,wu,wm,ko,gT]
 gi_wp2
 gi_loopw [7] (λi wr=>∃ (j:Nat) (z:j<=n),i=J j/\QV (IE n j z) wr/\OC T W wr) (λi _=>((n:Int) - intOf i).toNat)
 case atStart=>exact ⟨0,by omega,rfl,O,aG _,λ_ _=>rfl⟩
 case round=>
  obtain ⟨j,z,rfl,S,r,k⟩:=hrel;by_cases f:j<n
  .obtain ⟨P,Z,assign,body,U,C⟩:=F _ ⟨j,f⟩ wr S (by rw [uw];omega);dsimp only at U;have N:wr.cell? (X b (g+j))=A (u j):=(nu (a:=X b (g+j)) (k b s)).t (E _ (by omega));have L:(j:Int)<(n:Int):=(by omega);have p:wrap64 ((j:Int)+1)=((j+1:Nat):Int):=Lf n j M f
   gi_wp2
   refine C.m ?_;rintro e W3 (⟨rfl,w,o⟩|⟨rfl,V⟩)
   .gi_wp2
    go_roundw
    case rel=>
     exact ⟨j+1,f,by rw [p],w,bf r o.1,λq R=>(o.2 q R).t (k q R)⟩
    case measure=>
     rw [p];exact Gu n j f
   .gi_wp2
    refine aK (results_none rfl _ _ _) rfl ?_;exact ⟨⟨_,rfl⟩,.inr ⟨_,trivial,V⟩⟩
  .obtain rfl:j=n:=(by omega);gi_wp2
   go_end0
   exact ⟨⟨_,rfl⟩,.inl ⟨_,rfl,S⟩⟩
def Gw (m:Nat) (l b c:Nat) (a:Option zD) (QV:List { i:Nat // i<0 }->zW->Prop) (W:zW) (d:W.cell? (yh b)=A (B a 0 c)) (f:QV [] W) :
  CallsIn Fence.wide m prog 171 #[.func (.yield l) #[] #[],zJ b] W λe g=>(∃ v,e=zP v)/\QV [] g:=by
 refine callsIn_of_wp func171 rfl trivial ?_ rfl;simp only [ntmps171,wq,gS,nZ,Nat.reduceAdd,Nat.reduceSub,wb,wh,wu,wm,ko,gT]
 gi_wp2
 gi_loopw [7] (λi wr=>i=J 0/\QV [] wr) (λ_ _=>0)
 case atStart=>exact ⟨rfl,f⟩
 case round=>
  obtain ⟨rfl,C⟩:=hrel
  gi_wp2
  go_end0
  exact ⟨⟨_,rfl⟩,C⟩
def Gy (a:Option zD) (n c:Nat) (w:zW) :
  zC prog 139 #[B a n c] w λe C=>e=zP (.func (.func 171) #[] #[zJ w.heap.size])/\C=w.alloc (zM #[B a n c] 101):=by
 go_in;go_wp2;go_ret;exact ⟨rfl,rfl⟩
def Ep (m:Nat) (Q0:1<=m) (d n c:Nat) (a:Option zD) (r:Nat->zV) (T:Nat->Prop) (y:n<=maxLen) (f:T d) (w:zW) (t:∀ q,T q->q<w.heap.size) (g:w.cell? (yh d)=A (B a n c)) (E:n=0\/∃ h o,a=A (X h o)/\T h) (D:∀ j,j<n->∀ h o,a=A (X h o)->w.cell? (X h (o+j))=A (r j)) :
  SeqStopsK Fence.wide m prog 171 #[zJ d] (λx:{ i:Nat // i<n }=>#[r x.1]) (OC T) (λH=>H=IE n n (aG _)) (λ_=>True) n w:=λl F z W s _ _ C u=>by
 have b:=(s.cell (p:=yh d) (t _ f)).t g;rcases E with rfl|⟨h,o,rfl,v⟩
 .exact (Gw m l d c a F W b u).m λe W' ⟨he,k⟩=>⟨he,.inl ⟨_,rfl,k⟩⟩
 .exact Gv m Q0 l d h o n c r T y f v F z C W b (λj k=>(s.cell (p:=X h (o+j)) (t _ v)).t (D j k h o rfl)) u
end
end Go.Proofs.YtihgojcfpnhelaaGreatDoor
