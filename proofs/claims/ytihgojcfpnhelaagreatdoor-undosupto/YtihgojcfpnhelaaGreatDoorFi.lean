import Derived.Test.YtihgojcfpnhelaaGreatDoorEx
import Derived.Test.YtihgojcfpnhelaaGreatDoorEy
set_option maxRecDepth 100000
set_option maxHeartbeats 4000000
set_option linter.all false
namespace Go.Proofs.YtihgojcfpnhelaaGreatDoor
open Value renaming slice->B,agg->zd,tuple->zp,bool->zF,pointer->zK
open Obj renaming cells->zM
open Ending renaming returned->zP
open Option renaming some->A
open Or renaming inl->zR,inr->zZ
open Go renaming World->zW,Value->zV,Calls->zC,Addr->zD
open Go.RowKit Go.Proofs.Tryz
open List renaming length→G
section
variable {F w w' W w1 w2:zW} {T k m n:Nat} {s:By} {c:Nat->Nat} {Z U O:zV} {E:List En} {Y:List Yd} {V:List Bk}
def CY (QV:Pl F T c Z U O E Y V w) (hb:G V<=n) (o:∀ i (Q4:i<G E),E[i].k<=n) (K:Env F) (D:jZ F) (f:k<G E) (N:G E<=3) (hn:n<=8000000) (s:By) :
  zC prog 56 #[zJ T,J k,Q s] w λr w'=>r=zP (zF true)/\jw F T (G E) (n+1) w'/\w'.cell? (yh T)=A Z/\∀ q,c q=7->w'.heap[q]?=w.heap[q]?:=by
 obtain ⟨l,e,h,Q0⟩:=Fe K D s;have g:Dc F T c Z U O E Y V k f s l w:=⟨QV,K,D,by have:=o k f;omega,N,⟨h,Q0⟩,e,by omega⟩;have fin:∀ (m:Nat) (u:m<G E) (C:Ab) r w',Dn c w F T Z U (E.set m ⟨E[m].e,E[m].k+1,C⟩) V r w'->r=zP (zF true)/\jw F T (G E) (n+1) w'/\w'.cell? (yh T)=A Z/\∀ q,c q=7->w'.heap[q]?=w.heap[q]?:=by
  rintro m u C r w' ⟨t,R,p,S,x,H,h3⟩;refine ⟨t,⟨R,Z,U,p,_,S,V++[x],H,tu ..,by rw [b6];simp;omega,λi Q4=>?_⟩,(bq w' T 0 _ _ _ H.pb.row).t rfl,h3⟩;rw [tj];rw [tu] at Q4;have:=o i Q4;split
  .show E[m].k+1<=n+1;have:=o m u;omega
  .omega
 have b:∀ (a:k<G Y),AD E[k].a Y[k].d/\QA E[k].a:=λa=>QV.ad k f a;cases l with
 | err P er QT=>
  cases y:rT P
  .obtain ⟨L,M,z⟩:=Ue y;exact (PH g h rfl L M z (aA (by rw [y];simp))).m (fin k f _)
  .exact (PG g h rfl (PF y) (aB y)).m (fin k f _)
 | set x QT=>exact (wX g rfl rfl (zR (by decide)) λa W v d j=>tz (b a).1 (b a).2 d h e j).m (fin k f _)
 | del x=>exact (wX g rfl rfl (zZ (zR (by decide))) λa W v d j=>tB (b a).1 (b a).2 d h e j).m (fin k f _)
 | ren x Q5=>exact (wX g rfl rfl (zZ (zZ (by decide))) λa W v d j=>tG (b a).1 (b a).2 d h e j).m (fin k f _)
 | value x=>exact (rS g rfl rfl (zR (by decide)) (λa W v d j=>T9 (b a).1 (b a).2 d e j) rfl).m (fin k f _)
 | rule x=>exact (rS g rfl rfl (zZ (zR (by decide))) (λa W v d j=>tI (b a).1 (b a).2 d e j) rfl).m (fin k f _)
 | list=>exact (rS g rfl rfl (zZ (zZ (zR (by decide)))) (λa W v d j=>tH (b a).1 (b a).2 d e j) rfl).m (fin k f _)
 | order=>exact (rS g rfl rfl (zZ (zZ (zZ (by decide)))) (λa W v d j=>T8 (b a).1 (b a).2 d e j) rfl).m (fin k f _)
 | begin=>exact (nG g (er:=((oq E[k].a).1:Int)) rfl rfl (by decide:ik 4=[98,101,103,105,110]) (zR rfl) λa W d=>Ua (b a).1 (b a).2 d).m (fin k f _)
 | kW=>exact (nG g (er:=((mh E[k].a).1:Int)) rfl rfl (by decide:ik 5=[99,111,109,109,105,116]) (zZ (zR rfl)) λa W d=>PA (b a).1 (b a).2 d).m (fin k f _)
 | cancel=>exact (nG g (er:=((mg E[k].a).1:Int)) rfl rfl (by decide:ik 6=[99,97,110,99,101,108]) (zZ (zZ (zR rfl))) λa W d=>Pz (b a).1 (b a).2 d).m (fin k f _)
 | pS=>exact (nG g (er:=((mb E[k].a).1:Int)) rfl rfl (by decide:ik 7=[117,110,100,111]) (zZ (zZ (zZ (zR rfl)))) λa W d=>tJ (b a).1 (b a).2 d).m (fin k f _)
 | pT=>exact (nG g (er:=((mf E[k].a).1:Int)) rfl rfl (by decide:ik 8=[114,101,100,111]) (zZ (zZ (zZ (zZ rfl)))) λa W d=>tL (b a).1 (b a).2 d).m (fin k f _)
def Uf (h:jw F T m n w) (g:Env F) (b:jZ F) (j:k<m) (f:m<=3) (e:n<=8000000) (s:By) :
  zC prog 56 #[zJ T,J k,Q s] w λr w'=>r=zP (zF true)/\jw F T m (n+1) w':=by
 obtain ⟨c,Z,U,O,E,Y,V,d,rfl,i,a⟩:=h;exact (CY d i a g b j f e s).m λr w' h=>⟨h.1,h.2.1⟩
def Pl.scr (h:Pl F T c Z U O E Y V w) (e:zB w w'):Pl F T (rc c (λ_=>7) w w') Z U O E Y V w':=by
 have d:=e.size;refine ⟨h.st.to (P:=λ_=>False) (Ks.of e) (λ_ h=>h.elim) (λq a=>(h.pb.lt q a).1) λq a=>Ig a,(h.pb.next e).col (λq a _=>Bj (h.pb.lt q a).2) λq a=>?_,h.len,h.ad⟩;rcases Ig a with b|b
 .exact ⟨(h.pb.lt q b).1,bG (h.pb.lt q b).2 d⟩
 .exact ⟨bf h.st.low.size b.1,b.2⟩
end
section
attribute [local go_sem] ap aq
variable {F w w' W w1 w2:zW} {T k m n:Nat} {s:By}
def Uh (c:Int) (n:Nat) (i:-9223372036854775808<=c) (g:c<=9223372036854775807) (h:0<n) (f:n<=1000) (w:zW) :
  zC prog 57 #[J c,J n] w λr w'=>r=zP (J (wY c n:Int))/\w'=w:=by
 have e:((n:Int) == 0)=false:=(by simp;omega);have d:¬ (n:Int)=0:=(by omega);by_cases b:c<0
 .obtain ⟨m,rfl⟩:∃ m:Nat,c = -(m:Int) - 1:=⟨(-(c+1)).toNat,by omega⟩;have e1:wrap64 (-(m:Int) - 1+1) = -(m:Int):=by rw [show -(m:Int) - 1+1 = -(m:Int) by omega];unfold wrap64;omega
  have a:wY (-(m:Int) - 1) n=m % n:=by
   unfold wY;rw [aB b];congr 1;omega
  rw [a];go_in;go_wp2;go_ret;exact ⟨(by simp),rfl⟩
 .obtain ⟨m,rfl⟩:∃ m:Nat,c=(m:Int):=⟨c.toNat,by omega⟩;have a:wY (m:Int) n=m % n:=by
   unfold wY;rw [aA b];simp
  rw [a];go_in;go_wp2;go_ret;exact ⟨(by simp),rfl⟩
def jw.xs (h:jw F T m n w):∃ j o,w.cell? (yh T)=A (B j m o):=by
 obtain ⟨c,k,q,p,E,Y,s,e,rfl,r,i⟩:=h;have f:w.cell? (yh T)=A k:=(bq w T 0 _ _ _ e.pb.row).t rfl;rcases e.pb.xs.2 with ⟨a,d⟩|⟨g,b,l,a,_⟩
 .rw [fy] at d;exact ⟨none,0,by rw [f,a,d]⟩
 .rw [fy] at a;exact ⟨_,b,by rw [f,a]⟩
def vP (F:zW) (T n:Nat) (r:Ending) (w':zW):Prop:=r=zP (zF true)/\∃ a,a<=3/\jw F T a (n+1) w'
def jw.le {b:Nat} (h:jw F T m n w) (d:n<=b):jw F T m b w:=by
 obtain ⟨c,j,g,f,E,Y,o,l,e,k,a⟩:=h;exact ⟨c,j,g,f,E,Y,o,l,e,bf k d,λi p=>bf (a i p) d⟩
def jw.aiQ (h:jw F T m n w) (v:Env F) (g:jZ F) (x:k<m) (o:m<=3) (l:n<=8000000) (s:By):∃ a,w.cell? (yh T)=A a/\∀ W,zB w W ->
  zC prog 56 #[zJ T,J k,Q s] W λr w'=>r=zP (zF true)/\jw F T m (n+1) w'/\w'.cell? (yh T)=A a/\∀ q,w.heap.size<=q->q<W.heap.size->w'.heap[q]?=W.heap[q]?:=by
 obtain ⟨c,a,C,z,E,Y,D,e,rfl,p,b⟩:=h;refine ⟨a,(bq w T 0 _ _ _ e.pb.row).t rfl,λW j=>?_⟩;refine (CY (e.scr j) p b v g x o l s).m ?_;rintro r w' ⟨f,i,y,t⟩;exact ⟨f,i,y,λq u d=>t q (RS u d)⟩
def Fg (h:jw F T m n w) (O:Env F) (U:jZ F) (d:zB F w) (f:m<=3) (y:n<=8000000) (kd a:Int) (D:-9223372036854775808<=a) (t:a<=9223372036854775807) (s:By) :
  zC prog 38 #[zJ T,zd #[J kd,J a,Q s]] w (vP F T n):=by
 have g:=bI w (zM #[J kd,J a,Q s] 75);have j:=I (h.next g);have v:=I (As s (w.alloc (zM #[J kd,J a,Q s] 75)) (O.next (d.t (g.m d.size))));have u:=I (ze j.o f a);have Q4:=I (λk (Y:k<m)=>h.aiQ O U Y f y s);obtain ⟨G,H,M⟩:=j.o.xs;have Q5:(m:Int)<=3:=(by omega);have hs:=I (λW (b:0<m)=>Uh a m D t b (by omega) W);clear h;by_cases o:kd=1
 .subst o;go_in;go_wp2_with (go_at_call 55;refine v.o.m ?_;rintro r w1 ⟨rfl,l⟩;have z:=I l;clear l);go_ret;exact ⟨rfl,m,f,(j.o.next z.o).le (Nat.le_succ _)⟩
 by_cases S:kd=2
 .subst S;go_in;go_wp2_with (go_at_call 35;refine u.o.m ?_;rintro r w1 ⟨rfl,l⟩;have z:=I l;clear l);go_ret;obtain ⟨R,HQ,V⟩:=z.o;exact ⟨rfl,R,HQ,V.le (Nat.le_succ _)⟩
 have b1:(kd == 1)=false:=bo.2 o;have b2:(kd == 2)=false:=bo.2 S;by_cases K:kd=3
 .subst K;rcases Nat.eq_zero_or_pos m with b|b
  .subst b;go_in;go_wp2_with fail;go_ret;exact ⟨rfl,0,f,j.o.le (Nat.le_succ _)⟩
  .have Q6:(0:Int)<(m:Int):=(by omega);obtain ⟨xv,q,p⟩:=Q4.o (wY a m) (Ui a m b);obtain rfl:xv=B G m H:=by
    have o:=eE (zM #[J 3,J a,Q s] 75) q;rw [M] at o;exact (dp o).symm
   have E:=I p;have QV:=I (λW=>hs.o W b);have c:(w.alloc (zM #[J 3,J a,Q s] 75)).heap[w.heap.size]?=A (zM #[J 3,J a,Q s] 75 (0,0)):=(by simp only [World.alloc,yi]);have P:(w.alloc (zM #[J 3,J a,Q s] 75)).cell? (X w.heap.size 1)=A (J a):=(bq _ _ 1 _ _ _ c).t rfl;have L:(w.alloc (zM #[J 3,J a,Q s] 75)).cell? (X w.heap.size 2)=A (Q s):=(bq _ _ 2 _ _ _ c).t rfl;have Q0:Hid (zB w (w.alloc (zM #[J 3,J a,Q s] 75)).drew):=I ((bI _ _).drew);have C:Hid (w.heap.size<(w.alloc (zM #[J 3,J a,Q s] 75)).drew.heap.size):=I (by show w.heap.size<(w.alloc _).heap.size;simp);clear c q p;go_in;go_wp2_with fail
   go_region_held3 (λw'=>w'.cell? (X w.heap.size 1)=A (J a)/\w'.cell? (X w.heap.size 2)=A (Q s)/\w'.cell? (yh T)=A (B G m H)) (first|(with_reducible exact ⟨P,L,M⟩)|(with_reducible exact ⟨QT,x,p0⟩)|go_keep) (first|(go_at_call 57;(with_reducible refine (QV.o _).m ?_);rintro r w7 ⟨rfl,rfl⟩)|(go_at_call 56;(with_reducible refine (E.o _ Q0.o).m ?_);rintro r w8 ⟨rfl,N,p0,Z⟩;have e:=Z w.heap.size (aG _) C.o;have QT:=(aS e 1).t P;have x:=(aS e 2).t L;have i:=I N;clear N Z e))
   go_wp2_with fail;go_ret;exact ⟨rfl,m,f,i.o⟩
 .have b3:(kd == 3)=false:=bo.2 K;go_in;go_wp2_with fail;go_ret;exact ⟨rfl,m,f,j.o.le (Nat.le_succ _)⟩
def jw.look (h:jw F T m n w) (z:k<m):∃ j s y v q H,w.cell? (X T 1)=A (zS j m s)/\w.cell? (X j k)=A (zJ y)/\w.cell? (yh y)=A (B v q H)/\q<=10/\∀ i,i<q->∃ g o x,v=A (X g o)/\w.cell? (X g (o+i*4))=A (Q (x:By))/\G x<=6:=by
 obtain ⟨Q0,QV,P,S,E,Y,R,d,rfl,c,Z⟩:=h;have r:k<G Y:=by rw [d.len];exact z
 obtain ⟨j,s,e1,U,K⟩:=d.pb.Fc r;obtain ⟨W,D,N⟩:=(d.pb.y9 k r).AQ;obtain ⟨u,e⟩:=d.ad k z r;have V:Y[k].d.fs.length=E[k].a.fs.length:=u.fs.len e.fs.gf.nn;have C:=u.fs.rfb e.fs;have O:=e.fs.len;obtain ⟨QT,a,L,rfl,b⟩:=N;refine ⟨j,s,Y[k].y,a,_,L,by rw [U,e1,d.len],K,D,by omega,λi l=>?_⟩;rcases b with M|⟨g,o,rfl,_,b⟩
 .rw [M] at l;cases l
 .have:=(b i Y[k].d.fs[i] (cU l)).1;refine ⟨g,o,Y[k].d.fs[i].nm,rfl,this,?_⟩;obtain ⟨f,p,t⟩:=u.fs.of l;rw [t];exact (e.fs.rg f p).2.2
def vW {n a k:Nat} (h:n<=7000000) (c:a<=n+100*k) (b:k<=3):a<=8000000:=by omega
def v6 {n a k:Nat} (h:n<=7000000) (c:a<=n+100*k) (b:k<=3):a+1<=8000000:=by omega
def hJ {n b k a i:Nat} (h:n<=7000000) (c:b<=n+100*k) (e:k<=3) (f:a<=b+2+i) (d:i<=10):a<=8000000/\a<=n+100*(k+1)/\a+1<=b+2+(i+1):=by omega
def Fh (h:jw F T m n w) (g:Env F) (o:jZ F) (D:m<=3) (Q0:n<=7000000):zC prog 40 #[zJ T] w λr w'=>r=zP (zF true)/\∃ d,jw F T m d w':=by
 have t:=I (λn W (Q0:n<=8000000) (Y:jw F T m n W) k (u:k<m) s=>Uf Y g o u D Q0 s);have R:=I h;have hL:(m:Int)<=3:=(by omega);clear h;go_in;go_wp2_with fail;go_loopg [3] m (λgk i wr=>∃ k d:Nat,k<=m/\m<=k+gk/\i=J k/\Hid (d<=n+100*k/\jw F T m d wr))
 case atStart=>exact ⟨0,n,bE _,jD (cS _).symm,rfl,I ⟨aG _,R.o⟩⟩
 case round=>
  obtain ⟨k,d,u,V,rfl,l⟩:=hrel;obtain ⟨xa,xc,y⟩:=l.o.2.xs;rcases cC k m with a|a
  .have hE:=eu a;have p:=I (eJ a V);have H:=I (t.o d wr (vW Q0 l.o.1 (bf u D)) l.o.2 k a [108,105,115,116]);go_wp2_with (go_at_call 56;refine mo H.o ?_;rintro r w1 ⟨rfl,j⟩;have N:=I j;clear j);have K:=I (t.o (d+1) w1 (v6 Q0 l.o.1 (bf u D)) N.o k a [111,114,100,101,114]);clear H;apply I;go_wp2_with (go_at_call 56;refine mo K.o ?_;rintro r w2 ⟨rfl,j⟩;have M:=I j;clear j);clear K;apply I;go_wp2_with fail;clear y;go_loopg [6] 10 (λgk v Z=>∃ i z:Nat,i<=10/\10<=i+gk/\v=J i/\Hid (z<=d+2+i/\jw F T m z Z))
   case atStart=>exact ⟨0,d+1+1,bE _,aG _,rfl,I ⟨aG _,M.o⟩⟩
   case round=>
    obtain ⟨i,z,U,L,rfl,b⟩:=hrel;obtain ⟨gy,cy,aa,fa,P,fc,c1,c2,c3,e,E⟩:=b.o.2.look a;rcases cC i P with c|c
    .have Q5:=eu c;obtain ⟨QV,x0,x,rfl,cx,O⟩:=E i c;have Ty:=I e;have q:=I (eJ (bG c e) L);have f:=I (hJ Q0 l.o.1 (bf u D) b.o.1 U);have Q6:(P:Int)<=10:=a6.2 e;have JL:(G x:Int)<=6:=a6.2 O;have C:=I (t.o z _ f.o.1 b.o.2 k a (118::97::108::117::101::32::x));clear E e O;go_wp2_with (go_at_call 56;refine mo C.o ?_;rintro r w3 ⟨rfl,j⟩;have S:=I j;clear j);clear C;apply I;go_wp2_with fail;go_roundg (10 - (i+1))
     case measure=>exact q.o.2.1
     case rel=>exact ⟨i+1,z+1,q.o.2.2,q.o.1,(by simp),I ⟨f.o.2.2,S.o⟩⟩
    .have Q4:=eH c;have f:=I (hJ Q0 l.o.1 (bf u D) b.o.1 U);go_wp2_with fail;go_roundg (m - (k+1))
     case measure=>exact p.o.2.1
     case rel=>exact ⟨k+1,z,p.o.2.2,p.o.1,(by simp),I ⟨f.o.2.1,b.o.2⟩⟩
  .have QT:=eH a;obtain rfl:k=m:=lT u a;go_wp2_with fail;go_ret;exact ⟨rfl,d,l.o.2⟩
def jw.low (h:jw F T m n w):zB F w:=by
 obtain ⟨c,e,d,b,E,Y,f,a,_⟩:=h;exact a.st.low
def jw.looks (h:jw F T m n w) (j:n<=8000000):zC prog 39 #[zK (A (X T 2))] w λr w'=>r=zP (zF true)/\zB w w':=by
 obtain ⟨c,f,e,d,E,Y,i,a,rfl,g,b⟩:=h;exact T2 ((bq w T 2 _ _ _ a.pb.row).t rfl) a.pb.K (by omega) a.pb.bk
def KF (w:zW):jw w w.heap.size 0 0 (w.alloc (zM #[zN,zN,zN] 72)):=by
 have b:=bI w (zM #[zN,zN,zN] 72);refine ⟨λq=>if q=w.heap.size then 1 else 0,_,_,_,[],[],[],⟨(jH.empty w).to (P:=λ_=>False) (Ks.of b) (λ_ h=>h.elim) (λ_ h=>h.elim) λq C=>zZ ?_,⟨by simp only [World.alloc,yi],aB rfl,eW _ _ _ _,eW _ _ _ _,eW _ _ _ _,(λq C=>by cases C),(λq C=>by cases C),(λq C=>by cases C),(λx c=>by cases c),(λi a=>by cases a),(λi a=>by cases a),λq C=>?_⟩,rfl,λi a=>by cases a⟩,rfl,aG _,λi a=>by cases a⟩
 .by_cases h:q=w.heap.size
  .subst h;exact ⟨aG _,by simp⟩
  .exact absurd (aA h) C
 .by_cases h:q=w.heap.size
  .subst h;exact ⟨aG _,by simp⟩
  .exact absurd (aA h) C
def xY (w:zW) (b:Option zD) (len:Nat) (C Q0:Nat->Int) (S:Nat->By):Prop:=∀ j,j<len->∃ a:zD,b=A a/\a.block<w.heap.size/\w.cell? (a.add (j*3))=A (J (C j))/\w.cell? ((a.add (j*3)).add 1)=A (J (Q0 j))/\w.cell? ((a.add (j*3)).add 2)=A (Q (S j)) /\ -9223372036854775808<=Q0 j/\Q0 j<=9223372036854775807
def WM {n k len:Nat} (h:n<=k) (a:k<=len) (b:len<=1048576):n<=8000000/\n<=7000000/\n+1<=8000000:=by omega
def Ji (a:zD) (n:Nat):(a.add n).block=a.block:=by unfold Addr.add;split<;>rfl
def xY.at {c:Option zD} {len:Nat} {D Q0:Nat->Int} {S:Nat->By} (h:xY w c len D Q0 S) (b:zB w w') {k:Nat} (f:k<len):∃ a:zD,c=A a/\w'.cell? (a.add (k*3))=A (J (D k))/\w'.cell? (X ((a.add (k*3)).block) ((a.add (k*3)).off+1))=A (J (Q0 k))/\w'.cell? (X ((a.add (k*3)).block) ((a.add (k*3)).off+2))=A (Q (S k)) /\ -9223372036854775808<=Q0 k/\Q0 k<=9223372036854775807:=by
 obtain ⟨a,rfl,C,c0,c1,c2,e,d⟩:=h k f;refine ⟨a,rfl,(b.cell (p:=a.add (k*3)) (by rw [Ji];exact C)).t c0,(b.cell (p:=(a.add (k*3)).add 1) (by rw [Ji,Ji];exact C)).t c1,(b.cell (p:=(a.add (k*3)).add 2) (by rw [Ji,Ji];exact C)).t c2,e,d⟩
def PJ (u:Option zD) (len o:Nat) (O Q0:Nat->Int) (S:Nat->By) (w:zW) (l:Env w) (h:jZ w) (b:len<=1048576) (v:xY w u len O Q0 S) :
  zC prog 14 #[B u len o,zN] w λr w'=>r=zP (zF true)/\zB w w':=by
 have p:=I (ze (KF w) (bE _) 3);have Q4:=I (λn m W (e:jw w w.heap.size m n W) (g:m<=3) (j:n<=8000000) kd a h0 h1 s=>Fg e l h e.low g j kd a h0 h1 s);have HP:=I (λn m W (e:jw w w.heap.size m n W) (g:m<=3) (j:n<=7000000)=>Fh e l h g j);have D7:=I v;have QT:(len:Int)<=1048576:=a6.2 b;have Z:=I b;clear v l h b;go_in;go_wp2_with (go_at_call 35;refine mo p.o ?_;rintro r w1 ⟨rfl,m1,c,d⟩;have f:=I (And.intro c d);clear c d);clear p;apply I;go_wp2_with fail;go_loopg [7] len (λgk eQ wr=>∃ k m n:Nat,k<=len/\len<=k+gk/\eQ=J k/\Hid (m<=3/\n<=k/\jw w w.heap.size m n wr))
 case atStart=>exact ⟨0,m1,0,bE _,jD (cS _).symm,rfl,I ⟨f.o.1,aG _,f.o.2⟩⟩
 case round=>
  obtain ⟨k,m,n,V,AG,rfl,C⟩:=hrel;rcases cC k len with E|E
  .have Gh:=eu E;have H:=I (eJ E AG);have P:=I (WM C.o.2.1 V Z.o);obtain ⟨a,rfl,d0,d1,d2,t,q⟩:=D7.o.at C.o.2.2.low E;have L:=I (Q4.o n m wr C.o.2.2 C.o.1 P.o.1 (O k) (Q0 k) t q (S k));clear t q;by_cases i:O k=3
   .rw [i] at d0 L;go_wp2_with (go_at_call 38;refine mo L.o ?_;rintro r w2 ⟨rfl,Y,K,N⟩;have D:=I (And.intro K N);clear K N);have R:=I (D.o.2.looks P.o.2.2);clear L d0 d1 d2;apply I;go_wp2_with (go_at_call 39;refine mo R.o ?_;rintro r x ⟨rfl,M⟩;have U:=I M;clear M);apply I;go_wp2_with fail;go_roundg (len - (k+1))
    case measure=>exact H.o.2.1
    case rel=>exact ⟨k+1,Y,n+1,H.o.2.2,H.o.1,(by simp),I ⟨D.o.1,Nat.succ_le_succ C.o.2.1,D.o.2.next U.o⟩⟩
   .have yA:(O k == 3)=false:=bo.2 i;go_wp2_with (go_at_call 38;refine mo L.o ?_;rintro r w2 ⟨rfl,Y,K,N⟩;have D:=I (And.intro K N);clear K N);have R:=I (D.o.2.looks P.o.2.2);clear L d0 d1 d2;apply I;go_wp2_with (go_at_call 39;refine mo R.o ?_;rintro r x ⟨rfl,M⟩;have U:=I M;clear M);apply I;go_wp2_with fail;go_roundg (len - (k+1))
    case measure=>exact H.o.2.1
    case rel=>exact ⟨k+1,Y,n+1,H.o.2.2,H.o.1,(by simp),I ⟨D.o.1,Nat.succ_le_succ C.o.2.1,D.o.2.next U.o⟩⟩
  .have tA:=eH E;obtain rfl:k=len:=lT V E;have z:=I (HP.o n m wr C.o.2.2 C.o.1 (WM C.o.2.1 V Z.o).2.1);go_wp2_with (go_at_call 40;refine z.o.m ?_;rintro r x ⟨rfl,n3,y⟩;have Wq:=I y;clear y);go_ret;exact ⟨rfl,Wq.o.low⟩
def Uj {l:List By} {x:By} (h:l.count x≠0):((l.count x:Int) == 0)=false/\¬ (l.count x:Int)=0:=⟨bo.2 λe=>h (Int.ofNat.inj e),λe=>h (Int.ofNat.inj e)⟩
def Ih (Q6 T D7:Nat) (H:List By) (yA:Option zD) (len Q5:Nat) (b Q0:Nat->Int) (S:Nat->By) (w:zW) (F:Env w) (E:jZ w) (c:len<=1048576) (hC:xY w yA len b Q0 S) (g:ll w (zS Q6 T D7) H) (o:G H<=1000) :
  zC prog 14 #[B yA len Q5,zS Q6 T D7] w λr w'=>r=zP (zF true)/\zB w w':=by
 have HM:=I (ze (KF w) (bE _) 3);have HS:=I (λn m W (g:jw w w.heap.size m n W) (M:m<=3) (p:n<=8000000) kd a h0 N s=>Fg g F E g.low M p kd a h0 N s);have QV:=I (λn m W (g:jw w w.heap.size m n W) (M:m<=3) (p:n<=7000000)=>Fh g F E M p);have Wq:=I hC;have am:(len:Int)<=1048576:=a6.2 c;have SV:=I c;have aa:=I (λW (hb:zB w W) x=>Bh (g.below hb) o x);have w3:=I (λs=>Fe F E s);clear hC F E c g o;go_in;go_wp2_with (go_at_call 35;refine mo HM.o ?_;rintro r w1 ⟨rfl,m1,Q4,m2⟩;have SZ:=I (And.intro Q4 m2);clear Q4 m2);clear HM;apply I;go_wp2_with fail;go_loopg [7] len (λgk ac wr=>∃ k m n:Nat,k<=len/\len<=k+gk/\ac=J k/\Hid (m<=3/\n<=k/\jw w w.heap.size m n wr))
 case atStart=>exact ⟨0,m1,0,bE _,jD (cS _).symm,rfl,I ⟨SZ.o.1,aG _,SZ.o.2⟩⟩
 case round=>
  obtain ⟨k,m,n,t,hk,rfl,C⟩:=hrel;rcases cC k len with R|R
  .have an:=eu R;have D:=I (eJ R hk);have U:=I (WM C.o.2.1 t SV.o);obtain ⟨a,rfl,d0,d1,d2,y,v⟩:=Wq.o.at C.o.2.2.low R;have j:=I (HS.o n m wr C.o.2.2 C.o.1 U.o.1 (b k) (Q0 k) y v (S k));clear y v;by_cases q:b k=3
   .rw [q] at d0;obtain ⟨l,Jr,-⟩:=w3.o (S k);have xB:∃ (f:Int) (QT:Nat) (Z:By),Hid (∀ W,zC prog 36 #[Q (S k)] W λGh w'=>∃ i,Gh=zP (zp #[i,J f,J QT,Q Z])/\zB W w'):=⟨gE l.r,gN l.r,eg l.r,I λW=>(yE Jr).m λGh w' hr=>by
     obtain ⟨i,N,h2,_⟩:=hr;exact ⟨i,N,h2⟩⟩
    obtain ⟨f,QT,Z,Jq⟩:=xB;clear Jr j;go_wp2_with (go_at_call 36;refine mo (Jq.o _) ?_;rintro r w4 ⟨i,rfl,er⟩;have z:=I er;clear er);have h:=I (C.o.2.2.next z.o);have AG:=I (aa.o w4 h.o.low Z);clear d0 d1 d2;obtain ⟨a',HP,d0,d1,d2,y,v⟩:=Wq.o.at h.o.low R;obtain rfl:a=a':=dp HP;have d:=I (HS.o n m w4 h.o C.o.1 U.o.1 (b k) (Q0 k) y v (S k));rw [q] at d0 d;clear y v Jq HP;apply I;go_wp2_with (go_at_call 37;refine mo AG.o ?_;rintro r w5 ⟨rfl,rfl⟩);clear AG;by_cases eQ:H.count Z=0
    .rw [eQ];by_cases Wz:f=0
     .subst Wz;apply I;go_wp2_with fail;go_roundg (len - (k+1))
      case measure=>exact D.o.2.1
      case rel=>exact ⟨k+1,m,n,D.o.2.2,D.o.1,(by simp),I ⟨C.o.1,Nat.le_succ_of_le C.o.2.1,C.o.2.2.next z.o⟩⟩
     .have ad:(f == 0)=false:=bo.2 Wz;cases Z with
      | nil=>
       apply I;go_wp2_with (go_at_call 38;refine mo d.o ?_;rintro r w2 ⟨rfl,e,L,P⟩;have K:=I (And.intro L P);clear L P);have V:=I (K.o.2.looks U.o.2.2);clear d d0 d1 d2;apply I;go_wp2_with (go_at_call 39;refine mo V.o ?_;rintro r u ⟨rfl,O⟩;have Y:=I O;clear O);apply I;go_wp2_with fail;go_roundg (len - (k+1))
       case measure=>exact D.o.2.1
       case rel=>exact ⟨k+1,e,n+1,D.o.2.2,D.o.1,(by simp),I ⟨K.o.1,Nat.succ_le_succ C.o.2.1,K.o.2.next Y.o⟩⟩
      | cons af r=>
       apply I;go_wp2_with fail;go_roundg (len - (k+1))
       case measure=>exact D.o.2.1
       case rel=>exact ⟨k+1,m,n,D.o.2.2,D.o.1,(by simp),I ⟨C.o.1,Nat.le_succ_of_le C.o.2.1,C.o.2.2.next z.o⟩⟩
    .obtain ⟨ak,al⟩:=Uj eQ;apply I;go_wp2_with (go_at_call 38;refine mo d.o ?_;rintro r w2 ⟨rfl,e,L,P⟩;have K:=I (And.intro L P);clear L P);have V:=I (K.o.2.looks U.o.2.2);clear d d0 d1 d2;apply I;go_wp2_with (go_at_call 39;refine mo V.o ?_;rintro r u ⟨rfl,O⟩;have Y:=I O;clear O);apply I;go_wp2_with fail;go_roundg (len - (k+1))
     case measure=>exact D.o.2.1
     case rel=>exact ⟨k+1,e,n+1,D.o.2.2,D.o.1,(by simp),I ⟨K.o.1,Nat.succ_le_succ C.o.2.1,K.o.2.next Y.o⟩⟩
   .have ag:(b k == 3)=false:=bo.2 q;go_wp2_with (go_at_call 38;refine mo j.o ?_;rintro r w2 ⟨rfl,e,L,P⟩;have K:=I (And.intro L P);clear L P);have V:=I (K.o.2.looks U.o.2.2);clear j d0 d1 d2;apply I;go_wp2_with (go_at_call 39;refine mo V.o ?_;rintro r u ⟨rfl,O⟩;have Y:=I O;clear O);apply I;go_wp2_with fail;go_roundg (len - (k+1))
    case measure=>exact D.o.2.1
    case rel=>exact ⟨k+1,e,n+1,D.o.2.2,D.o.1,(by simp),I ⟨K.o.1,Nat.succ_le_succ C.o.2.1,K.o.2.next Y.o⟩⟩
  .have tA:=eH R;obtain rfl:k=len:=lT t R;have vt:=I (QV.o n m wr C.o.2.2 C.o.1 (WM C.o.2.1 t SV.o).2.1);go_wp2_with (go_at_call 40;refine vt.o.m ?_;rintro r u ⟨rfl,n3,wJ⟩;have hK:=I wJ;clear wJ);go_ret;exact ⟨rfl,hK.o.low⟩
def xY.next {c:Option zD} {len:Nat} {D Q0:Nat->Int} {S:Nat->By} (h:xY w c len D Q0 S) (b:zB w w'):xY w' c len D Q0 S:=λj e=>by
 obtain ⟨a,rfl,C,c0,c1,c2,f,d⟩:=h j e;exact ⟨a,rfl,bG C b.size,(b.cell (p:=a.add (j*3)) (by rw [Ji];exact C)).t c0,(b.cell (p:=(a.add (j*3)).add 1) (by rw [Ji,Ji];exact C)).t c1,(b.cell (p:=(a.add (j*3)).add 2) (by rw [Ji,Ji];exact C)).t c2,f,d⟩
def Uk (w:zW) (L:List By) (b:L≠[]):ll (w.alloc (zM (ab L).toArray 9)) (zS w.heap.size (G L) (G L)) L:=by
 refine zZ ⟨b,_,_,rfl,aG _,λj a=>?_⟩;exact bC w (ab L) 9 j _ (by simp [ab,a])
def we:List By:=[[115,101,116],[100,101,108,101,116,101],[114,101,110,97,109,101],[118,97,108,117,101],[114,117,108,101],[108,105,115,116],[111,114,100,101,114]]
def wg:List By:=[[115,101,116],[100,101,108,101,116,101],[114,101,110,97,109,101],[118,97,108,117,101],[114,117,108,101],[108,105,115,116],[111,114,100,101,114],[117,110,100,111],[114,101,100,111]]
def CZ (L:List By) (f:L≠[]) (e:G L<=1000) (c:Option zD) (len a:Nat) (C Q0:Nat->Int) (S:Nat->By) (w:zW) (d:Env w) (g:jZ w) (b:len<=1048576) (i:xY w c len C Q0 S) :
  zC prog 14 #[B c len a,zS w.heap.size (G L) (G L)] (w.alloc (zM (ab L).toArray 9)) λr w'=>r=zP (zF true)/\zB w w':=
 (Ih w.heap.size _ _ L c len a C Q0 S _ (d.next (bI _ _)) (g.next d (bI _ _)) b (i.next (bI _ _)) (Uk w L f) e).m λr w' h=>⟨h.1,(bI _ _).t (h.2.m (by simp))⟩
def KG (c:Option zD) (len b:Nat) (C Q0:Nat->Int) (S:Nat->By) (w:zW) (e:Env w) (g:jZ w) (a:len<=1048576) (d:xY w c len C Q0 S) :
  zC prog 3 #[B c len b] w λr w'=>r=zP (zF true)/\zB w w':=by
 have i:=I (CZ we (by decide) (by decide) c len b C Q0 S w e g a d);clear e g d a;go_in;go_wp2_with (go_at_call 14;refine i.o.m ?_;rintro r w1 ⟨rfl,f⟩;have h:=I f;clear f);go_ret;exact ⟨rfl,h.o⟩
def KH (c:Option zD) (len b:Nat) (C Q0:Nat->Int) (S:Nat->By) (w:zW) (e:Env w) (g:jZ w) (a:len<=1048576) (d:xY w c len C Q0 S) :
  zC prog 10 #[B c len b] w λr w'=>r=zP (zF true)/\zB w w':=by
 have i:=I (CZ wg (by decide) (by decide) c len b C Q0 S w e g a d);clear e g d a;go_in;go_wp2_with (go_at_call 14;refine i.o.m ?_;rintro r w1 ⟨rfl,f⟩;have h:=I f;clear f);go_ret;exact ⟨rfl,h.o⟩
def Ul (c:Option zD) (len b:Nat) (C Q0:Nat->Int) (S:Nat->By) (w:zW) (e:Env w) (g:jZ w) (a:len<=1048576) (d:xY w c len C Q0 S) :
  zC prog 12 #[B c len b] w λr w'=>r=zP (zF true)/\zB w w':=by
 have i:=I (PJ c len b C Q0 S w e g a d);clear e g d a;go_in;go_wp2_with (go_at_call 14;refine i.o.m ?_;rintro r w1 ⟨rfl,f⟩;have h:=I f;clear f);go_ret;exact ⟨rfl,h.o⟩
end
end Go.Proofs.YtihgojcfpnhelaaGreatDoor
