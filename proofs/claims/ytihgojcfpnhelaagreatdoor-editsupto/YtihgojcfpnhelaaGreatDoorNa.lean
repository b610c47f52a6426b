import Derived.Test.YtihgojcfpnhelaaGreatDoorAa
set_option maxRecDepth 100000
set_option maxHeartbeats 4000000
set_option linter.all false
namespace Go.Proofs.YtihgojcfpnhelaaGreatDoor
open Go renaming World->zW,Value->zV,Calls->zC,Addr->zD
open Go.RowKit Go.Proofs.Tryz
open List renaming length→G
def U8 (q o:Nat) (a:Option zD) (l c:Nat) (f:Option zD) (d b:Nat) (w:zW) (g:w.cell? ⟨q,o,none⟩=some (.slice a l c)) (i:w.frozen? ⟨q,o,none⟩=false) (h:q<w.heap.size) :
  zC prog 163 #[.pointer (some ⟨q,o,none⟩),.slice f d b] w λe w'=>e=.returned (.func (.func 192) #[] #[zJ w.heap.size,.pointer (some ⟨w.heap.size+1,0,none⟩)])/\w'=((w.setCell ⟨q,o,none⟩ (.slice f d b)).alloc (.cells #[.pointer (some ⟨q,o,none⟩)] 253)).alloc (.cells #[.slice a l c] 101):=by
 go_in;go_wp2;go_ret;exact ⟨rfl,rfl⟩
def Tg (q:Nat) (k n b a:Int) (w:zW) (h:w.cell? ⟨q,5,none⟩=some (zI k)) (c:w.cell? ⟨q,6,none⟩=some (zI n)) (j:w.frozen? ⟨q,5,none⟩=false) (f:w.frozen? ⟨q,6,none⟩=false) (i:q<w.heap.size) :
  zC prog 196 #[.pointer (some ⟨q,5,none⟩),.agg #[zI b,zI a]] w λe w'=>e=.returned (.func (.func 219) #[] #[zJ w.heap.size,.pointer (some ⟨w.heap.size+1+1,0,none⟩)])/\w'=((((w.setCell ⟨q,5,none⟩ (zI b)).setCell ⟨q,6,none⟩ (zI a)).alloc (.cells #[.pointer (some ⟨q,5,none⟩)] 287)).alloc (.cells #[zI b,zI a] 177)).alloc (.cells #[zI k,zI n] 177):=by
 have g:q<w.heap.size+1:=ae;have d:q<w.heap.size+1+1:=ae;go_in;go_wp2;go_ret;exact ⟨rfl,rfl⟩
def Ru (a:Option zD) (l c:Nat) (w:zW) :
  zC prog 72 #[.slice a l c] w λe w'=>e=.returned (.func (.func 106) #[] #[zJ w.heap.size])/\w'=w.alloc (.cells #[.slice a l c] 104):=by
 go_in;go_wp2;go_ret;exact ⟨rfl,rfl⟩
section
open Go.RowKit Go.Shelf
attribute [local go_sem] Oper.semAt_some
def tN (n:Nat):(k:Nat)->k<=n->List { i:Nat // i<n }
 | 0,_=>[]
 | k+1,h=>tN n k ae++[⟨n - (k+1),ae⟩]
def tO (n:Nat):∀ k h,(tN n k h).length=k
 | 0,_=>rfl
 | k+1,h=>by simp [tN,tO n k]
def ad6 (n k a:Nat) (h:k<=n) (b:a<=n) (e:k=a):tN n k h=tN n a b:=by subst e;rfl
def Th (n k:Nat) (h:k<=n) (e:k=0):tN n k h=[]:=by subst e;rfl
def Ti (n j:Nat) (h:j<n):tN n (n - j) ae=tN n (n - (j+1)) ae++[⟨j,h⟩]:=by
 rw [ad6 n (n - j) (n - (j+1)+1) ae ae ae];simp only [tN];congr 2;exact Subtype.ext Cp
def OC (T:Nat->Prop) (W a:zW):Prop:=W.heap.size<=a.heap.size/\∀ q,T q->a.heap[q]?=W.heap[q]?
def OD (m:Nat) (Q:1<=m) (l k b f n c:Nat) (y:Nat->zV) (T:Nat->Prop) (hn:n<=maxLen) (w:T k) (t:T b) (J A:List { i:Nat // i<n }->zW->Prop)
  (H:∀ d (x:{ i:Nat // i<n }) W,J d W->G d<n->YieldAt Fence.wide (m - 1) prog l #[zI (x.1:Int),y x.1] W λe h=>
   (e=.returned (.bool true)/\J (d++[x]) h/\OC T W h)\/(e=.returned (.bool false)/\A (d++[x]) h))
  (W:zW) (s:W.cell? ⟨k,0,none⟩=some (.slice (some ⟨b,f,none⟩) n c)) (F:∀ j,j<n->W.cell? ⟨b,f+j,none⟩=some (y j)) (O:J [] W) :
  CallsIn Fence.wide m prog 143 #[.func (.yield l) #[] #[],zJ k] W λe h=>(∃ v,e=.returned v) /\
   ((∃ B,B=tN n n (aG _)/\J B h)\/(∃ d,True/\A d h)):=by
 refine callsIn_of_wp func143 rfl trivial ?_ rfl;simp only [ntmps143,wq,gS,nZ,Nat.reduceAdd,Nat.reduceSub,wb,wh,wu,wm,ko,gT]
 gi_wp2
 gi_loopw [3] (λi wr=>∃ (j:Nat),j<=n/\i=zI ((j:Int) - 1)/\J (tN n (n - j) ae) wr/\OC T W wr) (λi _=>(intOf i+1).toNat)
 case atStart=>
  refine ⟨n,aG _,by rw [show wrap64 ((n:Int) - 1)=(n:Int) - 1 from aab],?_,aG _,λ_ _=>rfl⟩;have:tN n (n - n) ae=[]:=by simp [Th]
  rw [this];exact O
 case round=>
  obtain ⟨j,R,rfl,hJs,r,g⟩:=hrel;cases j with
  | succ j=>
   obtain ⟨P,tmps,assign,body,L,D⟩:=H _ ⟨j,ae⟩ wr hJs (by rw [tO];omega);dsimp only at L;have N:wr.cell? ⟨b,f+j,none⟩=some (y j):=(nu (a:=⟨b,f+j,none⟩) (g b t)).t (F _ ae);have E:wr.cell? ⟨k,0,none⟩=some (.slice (some ⟨b,f,none⟩) n c):=(nu (a:=⟨k,0,none⟩) (g k w)).t s;have K:(((j+1:Nat):Int) - 1)=(j:Int):=ae;have M:(j:Int)<(n:Int):=ae;have u:j<n:=ae;have p:wrap64 ((j:Int) - 1)=(j:Int) - 1:=aab;rw [K]
   gi_wp2
   refine D.m ?_;rintro e W3 (⟨rfl,z,o⟩|⟨rfl,agw⟩)
   ·gi_wp2
    go_roundw
    case rel=>
     refine ⟨j,ae,by simp [p],?_,bf r o.1,λq C=>(o.2 q C).t (g q C)⟩;rw [Ti n j u];exact z
    case measure=>simp [intOf,p]
   ·exact XJ
  | zero=>
   exact YU
def OE (m:Nat) (l b c:Nat) (a:Option zD) (J:List { i:Nat // i<0 }->zW->Prop) (W:zW) (d:W.cell? ⟨b,0,none⟩=some (.slice a 0 c)) (f:J [] W) :
  CallsIn Fence.wide m prog 143 #[.func (.yield l) #[] #[],zJ b] W λe g=>(∃ v,e=.returned v)/\J [] g:=by
 refine callsIn_of_wp func143 rfl trivial ?_ rfl;simp only [ntmps143,wq,gS,nZ,Nat.reduceAdd,Nat.reduceSub,wb,wh,wu,wm,ko,gT]
 gi_wp2
 gi_loopw [3] (λi wr=>i=zI (-1)/\J [] wr) (λ_ _=>0)
 case atStart=>exact ⟨rfl,f⟩
 case round=>
  exact Yx
def backward (m:Nat) (a:Option zD) (n c:Nat) (w:zW) :
  CallsIn Fence.wide m prog 107 #[.slice a n c] w λe w'=>e=.returned (.func (.func 143) #[] #[zJ w.heap.size])/\w'=w.alloc (.cells #[.slice a n c] 104):=by
 refine callsIn_of_wp func107 rfl trivial ?_ rfl;simp only [ntmps107,wq,gS,nZ,Nat.reduceAdd,Nat.reduceSub,wb,wh,wu,wm,ko,gT]
 gi_wp2
 go_ret;exact ⟨rfl,rfl⟩
def AL (m:Nat) (A:1<=m) (d n c:Nat) (a:Option zD) (r:Nat->zV) (T:Nat->Prop) (y:n<=maxLen) (f:T d) (w:zW) (t:∀ q,T q->q<w.heap.size) (g:w.cell? ⟨d,0,none⟩=some (.slice a n c)) (E:n=0\/∃ h o,a=some ⟨h,o,none⟩/\T h) (D:∀ j,j<n->∀ h o,a=some ⟨h,o,none⟩->w.cell? ⟨h,o+j,none⟩=some (r j)) :
  SeqStopsK Fence.wide m prog 143 #[zJ d] (λx:{ i:Nat // i<n }=>#[Value.int .i64 (x.1:Int),r x.1]) (OC T) (λB=>B=tN n n (aG _)) (λ_=>True) n w:=λl J z W s _ _ C u=>by
 have b:=(s.cell (p:=⟨d,0,none⟩) (t _ f)).t g;rcases E with rfl|⟨h,o,rfl,v⟩
 ·exact (OE m l d c a J W b u).m λe W' ⟨he,k⟩=>⟨he,.inl ⟨_,rfl,k⟩⟩
 ·exact OD m A l d h o n c r T y f v J z C W b (λj k=>(s.cell (p:=⟨h,o+j,none⟩) (t _ v)).t (D j k h o rfl)) u
def IE (n:Nat):(k:Nat)->k<=n->List { i:Nat // i<n }
 | 0,_=>[]
 | k+1,h=>IE n k ae++[⟨k,ae⟩]
def uw (n:Nat):∀ k h,(IE n k h).length=k
 | 0,_=>rfl
 | k+1,h=>by simp [IE,uw n k]
def Lf (n j:Nat) (a:n<=maxLen) (b:j<n):wrap64 ((j:Int)+1)=((j+1:Nat):Int):=by
 unfold maxLen at a;unfold wrap64;omega
def acJ (n j:Nat) (a:j<n):((n:Int) - ((j+1:Nat):Int)).toNat<((n:Int) - (j:Int)).toNat:=ae
def acK (m:Nat) (Q:1<=m) (l t b g n c:Nat) (u:Nat->zV) (T:Nat->Prop) (M:n<=maxLen) (H:T t) (s:T b) (J y:List { i:Nat // i<n }->zW->Prop)
  (F:∀ d (x:{ i:Nat // i<n }) W,J d W->G d<n->YieldAt Fence.wide (m - 1) prog l #[u x.1] W λe h=>
   (e=.returned (.bool true)/\J (d++[x]) h/\OC T W h)\/(e=.returned (.bool false)/\y (d++[x]) h))
  (W:zW) (D:W.cell? ⟨t,0,none⟩=some (.slice (some ⟨b,g,none⟩) n c)) (E:∀ j,j<n->W.cell? ⟨b,g+j,none⟩=some (u j)) (O:J [] W) :
  CallsIn Fence.wide m prog 171 #[.func (.yield l) #[] #[],zJ t] W λe h=>(∃ v,e=.returned v) /\
   ((∃ A,A=IE n n (aG _)/\J A h)\/(∃ d,True/\y d h)):=by
 refine callsIn_of_wp func171 rfl trivial ?_ rfl;simp only [ntmps171,wq,gS,nZ,Nat.reduceAdd,Nat.reduceSub,wb,wh,wu,wm,ko,gT]
 gi_wp2
 gi_loopw [7] (λi wr=>∃ (j:Nat) (z:j<=n),i=zI j/\J (IE n j z) wr/\OC T W wr) (λi _=>((n:Int) - intOf i).toNat)
 case atStart=>exact ⟨0,ae,rfl,O,aG _,λ_ _=>rfl⟩
 case round=>
  obtain ⟨j,z,rfl,hJs,r,k⟩:=hrel;by_cases f:j<n
  ·obtain ⟨P,tmps,assign,body,K,C⟩:=F _ ⟨j,f⟩ wr hJs (by rw [uw];omega);dsimp only at K;have N:wr.cell? ⟨b,g+j,none⟩=some (u j):=(nu (a:=⟨b,g+j,none⟩) (k b s)).t (E _ ae);have L:(j:Int)<(n:Int):=ae;have p:wrap64 ((j:Int)+1)=((j+1:Nat):Int):=Lf n j M f
   gi_wp2
   refine C.m ?_;rintro e W3 (⟨rfl,w,o⟩|⟨rfl,agw⟩)
   ·gi_wp2
    go_roundw
    case rel=>
     exact ⟨j+1,f,by rw [p],w,bf r o.1,λq B=>(o.2 q B).t (k q B)⟩
    case measure=>
     rw [p];exact acJ n j f
   ·exact XJ
  ·obtain rfl:j=n:=ae;exact YU
def acL (m:Nat) (l b c:Nat) (a:Option zD) (J:List { i:Nat // i<0 }->zW->Prop) (W:zW) (d:W.cell? ⟨b,0,none⟩=some (.slice a 0 c)) (f:J [] W) :
  CallsIn Fence.wide m prog 171 #[.func (.yield l) #[] #[],zJ b] W λe g=>(∃ v,e=.returned v)/\J [] g:=by
 refine callsIn_of_wp func171 rfl trivial ?_ rfl;simp only [ntmps171,wq,gS,nZ,Nat.reduceAdd,Nat.reduceSub,wb,wh,wu,wm,ko,gT]
 gi_wp2
 gi_loopw [7] (λi wr=>i=zI 0/\J [] wr) (λ_ _=>0)
 case atStart=>exact ⟨rfl,f⟩
 case round=>
  exact Yx
def acM (a:Option zD) (n c:Nat) (w:zW) :
  zC prog 139 #[.slice a n c] w λe w'=>e=.returned (.func (.func 171) #[] #[zJ w.heap.size])/\w'=w.alloc (.cells #[.slice a n c] 101):=by
 go_in;go_wp2;go_ret;exact ⟨rfl,rfl⟩
def Ep (m:Nat) (A:1<=m) (d n c:Nat) (a:Option zD) (r:Nat->zV) (T:Nat->Prop) (y:n<=maxLen) (f:T d) (w:zW) (t:∀ q,T q->q<w.heap.size) (g:w.cell? ⟨d,0,none⟩=some (.slice a n c)) (E:n=0\/∃ h o,a=some ⟨h,o,none⟩/\T h) (D:∀ j,j<n->∀ h o,a=some ⟨h,o,none⟩->w.cell? ⟨h,o+j,none⟩=some (r j)) :
  SeqStopsK Fence.wide m prog 171 #[zJ d] (λx:{ i:Nat // i<n }=>#[r x.1]) (OC T) (λB=>B=IE n n (aG _)) (λ_=>True) n w:=λl J z W s _ _ C u=>by
 have b:=(s.cell (p:=⟨d,0,none⟩) (t _ f)).t g;rcases E with rfl|⟨h,o,rfl,v⟩
 ·exact (acL m l d c a J W b u).m λe W' ⟨he,k⟩=>⟨he,.inl ⟨_,rfl,k⟩⟩
 ·exact acK m A l d h o n c r T y f v J z C W b (λj k=>(s.cell (p:=⟨h,o+j,none⟩) (t _ v)).t (D j k h o rfl)) u
end
end Go.Proofs.YtihgojcfpnhelaaGreatDoor
