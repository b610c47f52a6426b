import Derived.Test.YtihgojcfpnhelaaGreatDoorEx
import Derived.Test.YtihgojcfpnhelaaGreatDoorEy
set_option maxRecDepth 100000
set_option maxHeartbeats 4000000
set_option linter.all false
namespace Go.Proofs.YtihgojcfpnhelaaGreatDoor
open Go renaming World->zW,Value->zV,Calls->zC,Addr->zD
open Go.RowKit Go.Proofs.Tryz
open List renaming length→G
section
variable {F w w' W w1 w2:zW} {T k m n:Nat} {s:By} {c:Nat->Nat} {Z U O:zV} {E:List En} {Y:List Yd} {V:List Bk}
def CY (J:Pl F T c Z U O E Y V w) (hb:(G V)<=n) (o:∀ i (B:i<G E),E[i].k<=n) (K:Env F) (D:jZ F) (f:k<G E) (N:(G E)<=3) (hn:n<=8000000) (s:By) :
  zC prog 56 #[zJ T,zI k,zG s] w λr w'=>r=.returned (.bool true)/\jw F T (G E) (n+1) w'/\w'.cell? ⟨T,0,none⟩=some Z/\∀ q,c q=7->w'.heap[q]?=w.heap[q]?:=by
 obtain ⟨l,e,h,t⟩:=Fe K D s;have g:Dc F T c Z U O E Y V k f s l w:=⟨J,K,D,by have:=o k f;omega,N,⟨h,t⟩,e,ae⟩;have fin:∀ (m:Nat) (u:m<G E) (C:Ab) r w',Dn c w F T Z U (E.set m ⟨E[m].e,E[m].k+1,C⟩) V r w'->r=.returned (.bool true)/\jw F T (G E) (n+1) w'/\w'.cell? ⟨T,0,none⟩=some Z/\∀ q,c q=7->w'.heap[q]?=w.heap[q]?:=by
  rintro m u C r w' ⟨Q,R,A,S,x,H,h3⟩;refine ⟨Q,⟨R,Z,U,A,_,S,V++[x],H,tu ..,agt,λi B=>?_⟩,(bq w' T 0 _ _ _ H.pb.row).t rfl,h3⟩;rw [tj];rw [tu] at B;have:=o i B;split
  ·show E[m].k+1<=n+1;have:=o m u;omega
  ·omega
 have b:∀ (a:k<G Y),AD E[k].a Y[k].d/\QA E[k].a:=λa=>J.ad k f a;cases l with
 | err P er p=>
  cases y:rT P
  ·obtain ⟨L,M,X⟩:=Ue y;exact (PH g h rfl L M X (aA (by rw [y];simp))).m (fin k f _)
  ·exact (PG g h rfl (PF y) (aB y)).m (fin k f _)
 | set x p=>exact (wX g rfl rfl (Or.inl ai) λa W v d j=>aeO (b a).1 (b a).2 d h e j).m (fin k f _)
 | del x=>exact (wX g rfl rfl (Or.inr (Or.inl ai)) λa W v d j=>aeP (b a).1 (b a).2 d h e j).m (fin k f _)
 | ren x z=>exact (wX g rfl rfl (Or.inr (Or.inr ai)) λa W v d j=>aeQ (b a).1 (b a).2 d h e j).m (fin k f _)
 | value x=>exact (rS g rfl rfl (Or.inl ai) (λa W v d j=>T9 (b a).1 (b a).2 d e j) rfl).m (fin k f _)
 | rule x=>exact (rS g rfl rfl (Or.inr (Or.inl ai)) (λa W v d j=>abM (b a).1 (b a).2 d e j) rfl).m (fin k f _)
 | list=>exact (rS g rfl rfl (Or.inr (Or.inr (Or.inl ai))) (λa W v d j=>abL (b a).1 (b a).2 d e j) rfl).m (fin k f _)
 | order=>exact (rS g rfl rfl (Or.inr (Or.inr (Or.inr ai))) (λa W v d j=>T8 (b a).1 (b a).2 d e j) rfl).m (fin k f _)
 | begin=>exact (nG g (er:=((oq E[k].a).1:Int)) rfl rfl (by decide:ik 4=[98,101,103,105,110]) (Or.inl rfl) λa W d=>Ua (b a).1 (b a).2 d).m (fin k f _)
 | kW=>exact (nG g (er:=((mh E[k].a).1:Int)) rfl rfl (by decide:ik 5=[99,111,109,109,105,116]) (Or.inr (Or.inl rfl)) λa W d=>PA (b a).1 (b a).2 d).m (fin k f _)
 | cancel=>exact (nG g (er:=((mg E[k].a).1:Int)) rfl rfl (by decide:ik 6=[99,97,110,99,101,108]) (Or.inr (Or.inr (Or.inl rfl))) λa W d=>Pz (b a).1 (b a).2 d).m (fin k f _)
 | pS=>exact (nG g (er:=((mb E[k].a).1:Int)) rfl rfl (by decide:ik 7=[117,110,100,111]) (Or.inr (Or.inr (Or.inr (Or.inl rfl)))) λa W d=>abN (b a).1 (b a).2 d).m (fin k f _)
 | pT=>exact (nG g (er:=((mf E[k].a).1:Int)) rfl rfl (by decide:ik 8=[114,101,100,111]) (Or.inr (Or.inr (Or.inr (Or.inr rfl)))) λa W d=>abO (b a).1 (b a).2 d).m (fin k f _)
def Uf (h:jw F T m n w) (g:Env F) (b:jZ F) (j:k<m) (f:m<=3) (e:n<=8000000) (s:By) :
  zC prog 56 #[zJ T,zI k,zG s] w λr w'=>r=.returned (.bool true)/\jw F T m (n+1) w':=by
 obtain ⟨c,Z,U,O,E,Y,V,d,rfl,i,a⟩:=h;exact (CY d i a g b j f e s).m λr w' h=>⟨h.1,h.2.1⟩
def Pl.scr (h:Pl F T c Z U O E Y V w) (e:zB w w'):Pl F T (rc c (λ_=>7) w w') Z U O E Y V w':=by
 have d:=e.size;refine ⟨h.st.to (P:=λ_=>False) (Ks.of e) (λ_ h=>h.elim) (λq a=>(h.pb.lt q a).1) λq a=>Ig a,(h.pb.next e).col (λq a _=>Bj (h.pb.lt q a).2) λq a=>?_,h.len,h.ad⟩;rcases Ig a with b|b
 ·exact ⟨(h.pb.lt q b).1,bG (h.pb.lt q b).2 d⟩
 ·exact ⟨bf h.st.low.size b.1,b.2⟩
end
section
attribute [local go_sem] idx_eq app_eq
variable {F w w' W w1 w2:zW} {T k m n:Nat} {s:By}
def Uh (c:Int) (n:Nat) (i:-9223372036854775808<=c) (g:c<=9223372036854775807) (h:0<n) (f:n<=1000) (w:zW) :
  zC prog 57 #[zI c,zI n] w λr w'=>r=.returned (zI (wY c n:Int))/\w'=w:=by
 have e:((n:Int) == 0)=false:=aN;have d:¬ (n:Int)=0:=ae;by_cases b:c<0
 ·obtain ⟨m,rfl⟩:∃ m:Nat,c = -(m:Int) - 1:=⟨(-(c+1)).toNat,ae⟩;have e1:wrap64 (-(m:Int) - 1+1) = -(m:Int):=by rw [show -(m:Int) - 1+1 = -(m:Int) from ae];unfold wrap64;omega
  have a:wY (-(m:Int) - 1) n=m % n:=by
   unfold wY;rw [aB b];congr 1;omega
  rw [a];go_in;exact FY
 ·obtain ⟨m,rfl⟩:∃ m:Nat,c=(m:Int):=⟨c.toNat,ae⟩;have a:wY (m:Int) n=m % n:=by
   unfold wY;rw [aA b];simp
  rw [a];go_in;exact FY
def jw.xs (h:jw F T m n w):∃ j o,w.cell? ⟨T,0,none⟩=some (.slice j m o):=by
 obtain ⟨c,k,q,p,E,Y,s,e,rfl,r,i⟩:=h;have f:w.cell? ⟨T,0,none⟩=some k:=(bq w T 0 _ _ _ e.pb.row).t rfl;rcases e.pb.xs.2 with ⟨a,d⟩|⟨g,b,l,a,_⟩
 ·rw [fy] at d;exact ⟨none,0,by rw [f,a,d]⟩
 ·rw [fy] at a;exact ⟨_,b,by rw [f,a]⟩
def StQ (F:zW) (T n:Nat) (r:Ending) (w':zW):Prop:=r=.returned (.bool true)/\∃ a,a<=3/\jw F T a (n+1) w'
def jw.le {b:Nat} (h:jw F T m n w) (d:n<=b):jw F T m b w:=by
 obtain ⟨c,j,g,f,E,Y,o,l,e,k,a⟩:=h;exact ⟨c,j,g,f,E,Y,o,l,e,bf k d,λi p=>bf (a i p) d⟩
def jw.aiQ (h:jw F T m n w) (v:Env F) (g:jZ F) (x:k<m) (o:m<=3) (l:n<=8000000) (s:By):∃ a,w.cell? ⟨T,0,none⟩=some a/\∀ W,zB w W ->
  zC prog 56 #[zJ T,zI k,zG s] W λr w'=>r=.returned (.bool true)/\jw F T m (n+1) w'/\w'.cell? ⟨T,0,none⟩=some a/\∀ q,w.heap.size<=q->q<W.heap.size->w'.heap[q]?=W.heap[q]?:=by
 obtain ⟨c,a,A,z,E,Y,B,e,rfl,p,b⟩:=h;refine ⟨a,(bq w T 0 _ _ _ e.pb.row).t rfl,λW j=>?_⟩;refine (CY (e.scr j) p b v g x o l s).m ?_;rintro r w' ⟨f,i,y,t⟩;exact ⟨f,i,y,λq u d=>t q (RS u d)⟩
def Fg (h:jw F T m n w) (O:Env F) (U:jZ F) (d:zB F w) (f:m<=3) (X:n<=8000000) (kd a:Int) (D:-9223372036854775808<=a) (t:a<=9223372036854775807) (s:By) :
  zC prog 38 #[zJ T,.agg #[zI kd,zI a,zG s]] w (StQ F T n):=by
 have g:=bI w (.cells #[zI kd,zI a,zG s] 75);have j:=I (h.next g);have B:=I (ae4 s (w.alloc (.cells #[zI kd,zI a,zG s] 75)) (O.next (d.t (g.m d.size))));have A:=I (ze j.o f a);have y:=I (λk (Y:k<m)=>h.aiQ O U Y f X s);obtain ⟨G,H,M⟩:=j.o.xs;have S:(m:Int)<=3:=ae;have u:=I (λW (b:0<m)=>Uh a m D t b ae W);clear h;by_cases o:kd=1
 ·subst o;go_in;go_wp2_with (go_at_call 55;refine B.o.m ?_;rintro r w1 ⟨rfl,l⟩;have z:=I l;clear l);go_ret;exact ⟨rfl,m,f,(j.o.next z.o).le (Nat.le_succ _)⟩
 by_cases J:kd=2
 ·subst J;go_in;go_wp2_with (go_at_call 35;refine A.o.m ?_;rintro r w1 ⟨rfl,l⟩;have z:=I l;clear l);go_ret;obtain ⟨R,v,V⟩:=z.o;exact ⟨rfl,R,v,V.le (Nat.le_succ _)⟩
 have b1:(kd == 1)=false:=bo.2 o;have b2:(kd == 2)=false:=bo.2 J;by_cases K:kd=3
 ·subst K;rcases Nat.eq_zero_or_pos m with b|b
  ·subst b;go_in;go_wp2_with fail;go_ret;exact ⟨rfl,0,f,j.o.le (Nat.le_succ _)⟩
  ·have hmp:(0:Int)<(m:Int):=ae;obtain ⟨xv,q,p⟩:=y.o (wY a m) (Ui a m b);obtain rfl:xv=.slice G m H:=by
    have o:=eE (.cells #[zI 3,zI a,zG s] 75) q;rw [M] at o;exact (dp o).symm
   have E:=I p;have i:=I (λW=>u.o W b);have c:(w.alloc (.cells #[zI 3,zI a,zG s] 75)).heap[w.heap.size]?=some (.cells #[zI 3,zI a,zG s] 75 (0,0)):=Cc;have P:(w.alloc (.cells #[zI 3,zI a,zG s] 75)).cell? ⟨w.heap.size,1,none⟩=some (zI a):=(bq _ _ 1 _ _ _ c).t rfl;have L:(w.alloc (.cells #[zI 3,zI a,zG s] 75)).cell? ⟨w.heap.size,2,none⟩=some (zG s):=(bq _ _ 2 _ _ _ c).t rfl;have x:Hid (zB w (w.alloc (.cells #[zI 3,zI a,zG s] 75)).drew):=I ((bI _ _).drew);have C:Hid (w.heap.size<(w.alloc (.cells #[zI 3,zI a,zG s] 75)).drew.heap.size):=I (by show w.heap.size<(w.alloc _).heap.size;simp);clear c q p;go_in;go_wp2_with fail
   go_region_held3 (λw'=>w'.cell? ⟨w.heap.size,1,none⟩=some (zI a)/\w'.cell? ⟨w.heap.size,2,none⟩=some (zG s)/\w'.cell? ⟨T,0,none⟩=some (.slice G m H)) (first|(with_reducible exact ⟨P,L,M⟩)|(with_reducible exact ⟨Z,Q,p0⟩)|go_keep) (first|(go_at_call 57;(with_reducible refine (i.o _).m ?_);rintro r w7 ⟨rfl,rfl⟩)|(go_at_call 56;(with_reducible refine (E.o _ x.o).m ?_);rintro r w8 ⟨rfl,N,p0,hs⟩;have e:=hs w.heap.size (aG _) C.o;have Z:=(aS e 1).t P;have Q:=(aS e 2).t L;have HQ:=I N;clear N hs e))
   go_wp2_with fail;go_ret;exact ⟨rfl,m,f,HQ.o⟩
 ·have b3:(kd == 3)=false:=bo.2 K;go_in;go_wp2_with fail;go_ret;exact ⟨rfl,m,f,j.o.le (Nat.le_succ _)⟩
def jw.look (h:jw F T m n w) (z:k<m):∃ j s y v q H,w.cell? ⟨T,1,none⟩=some (zS j m s)/\w.cell? ⟨j,k,none⟩=some (zJ y)/\w.cell? ⟨y,0,none⟩=some (.slice v q H)/\q<=10/\∀ i,i<q->∃ g o x,v=some ⟨g,o,none⟩/\w.cell? ⟨g,o+i*4,none⟩=some (.string ⟨(x:By).toArray⟩)/\(G x)<=6:=by
 obtain ⟨c,V,P,S,E,Y,R,d,rfl,Q,B⟩:=h;have r:k<(G Y):=by rw [d.len];exact z
 obtain ⟨j,s,e1,J,K⟩:=d.pb.Fc r;obtain ⟨W,D,N⟩:=(d.pb.y9 k r).AQ;obtain ⟨u,e⟩:=d.ad k z r;have A:Y[k].d.fs.length=E[k].a.fs.length:=u.fs.len e.fs.gf.nn;have C:=u.fs.rfb e.fs;have O:=e.fs.len;obtain ⟨U,a,L,rfl,b⟩:=N;refine ⟨j,s,Y[k].y,a,_,L,by rw [J,e1,d.len],K,D,ae,λi l=>?_⟩;rcases b with M|⟨g,o,rfl,_,b⟩
 ·rw [M] at l;cases l
 ·have:=(b i Y[k].d.fs[i] (cU l)).1;refine ⟨g,o,Y[k].d.fs[i].nm,rfl,this,?_⟩;obtain ⟨f,p,t⟩:=u.fs.of l;rw [t];exact (e.fs.rg f p).2.2
def ama {n a k:Nat} (h:n<=7000000) (c:a<=n+100*k) (b:k<=3):a<=8000000:=ae
def amb {n a k:Nat} (h:n<=7000000) (c:a<=n+100*k) (b:k<=3):a+1<=8000000:=ae
def agV {n b k a i:Nat} (h:n<=7000000) (c:b<=n+100*k) (e:k<=3) (f:a<=b+2+i) (d:i<=10):a<=8000000/\a<=n+100*(k+1)/\a+1<=b+2+(i+1):=ae
def Fh (h:jw F T m n w) (hE:Env F) (hL:jZ F) (D:m<=3) (A:n<=7000000):zC prog 40 #[zJ T] w λr w'=>r=.returned (.bool true)/\∃ d,jw F T m d w':=by
 have t:=I (λn W (A:n<=8000000) (Y:jw F T m n W) k (u:k<m) s=>Uf Y hE hL u D A s);have X:=I h;have hm3:(m:Int)<=3:=ae;clear h;go_in;go_wp2_with fail;go_loopg [3] m (λgk i wr=>∃ k d:Nat,k<=m/\m<=k+gk/\i=zI k/\Hid (d<=n+100*k/\jw F T m d wr))
 case atStart=>exact ⟨0,n,bE _,jD (cS _).symm,rfl,I ⟨aG _,X.o⟩⟩
 case round=>
  obtain ⟨k,d,u,J,rfl,l⟩:=hrel;obtain ⟨xa,xc,x0⟩:=l.o.2.xs;rcases cC k m with a|a
  ·have hlt:=eu a;have p:=I (eJ a J);have H:=I (t.o d wr (ama A l.o.1 (bf u D)) l.o.2 k a [108,105,115,116]);go_wp2_with (go_at_call 56;refine mo H.o ?_;rintro r w1 ⟨rfl,j⟩;have N:=I j;clear j);have B:=I (t.o (d+1) w1 (amb A l.o.1 (bf u D)) N.o k a [111,114,100,101,114]);clear H;apply I;go_wp2_with (go_at_call 56;refine mo B.o ?_;rintro r w2 ⟨rfl,j⟩;have M:=I j;clear j);clear B;apply I;go_wp2_with fail;clear x0;go_loopg [6] 10 (λgk v Z=>∃ i z:Nat,i<=10/\10<=i+gk/\v=zI i/\Hid (z<=d+2+i/\jw F T m z Z))
   case atStart=>exact ⟨0,d+1+1,bE _,aG _,rfl,I ⟨aG _,M.o⟩⟩
   case round=>
    obtain ⟨i,z,U,L,rfl,b⟩:=hrel;obtain ⟨gy,cy,y,fa,P,fc,c1,c2,c3,e,E⟩:=b.o.2.look a;rcases cC i P with c|c
    ·have R:=eu c;obtain ⟨g,o,x,rfl,cx,Q⟩:=E i c;have Ty:=I e;have q:=I (eJ (bG c e) L);have f:=I (agV A l.o.1 (bf u D) b.o.1 U);have S:(P:Int)<=10:=a6.2 e;have JL:((G x):Int)<=6:=a6.2 Q;have C:=I (t.o z _ f.o.1 b.o.2 k a (118::97::108::117::101::32::x));clear E e Q;go_wp2_with (go_at_call 56;refine mo C.o ?_;rintro r w3 ⟨rfl,j⟩;have K:=I j;clear j);clear C;apply I;go_wp2_with fail;go_roundg (10 - (i+1))
     case measure=>exact q.o.2.1
     case rel=>exact ⟨i+1,z+1,q.o.2.2,q.o.1,aq,I ⟨f.o.2.2,K.o⟩⟩
    ·have O:=eH c;have f:=I (agV A l.o.1 (bf u D) b.o.1 U);go_wp2_with fail;go_roundg (m - (k+1))
     case measure=>exact p.o.2.1
     case rel=>exact ⟨k+1,z,p.o.2.2,p.o.1,aq,I ⟨f.o.2.1,b.o.2⟩⟩
  ·have V:=eH a;obtain rfl:k=m:=lT u a;go_wp2_with fail;go_ret;exact ⟨rfl,d,l.o.2⟩
def jw.low (h:jw F T m n w):zB F w:=by
 obtain ⟨c,e,d,b,E,Y,f,a,_⟩:=h;exact a.st.low
def jw.looks (h:jw F T m n w) (j:n<=8000000):zC prog 39 #[.pointer (some ⟨T,2,none⟩)] w λr w'=>r=.returned (.bool true)/\zB w w':=by
 obtain ⟨c,f,e,d,E,Y,i,a,rfl,g,b⟩:=h;exact T2 ((bq w T 2 _ _ _ a.pb.row).t rfl) a.pb.ts ae a.pb.bk
def KF (w:zW):jw w w.heap.size 0 0 (w.alloc (.cells #[zN,zN,zN] 72)):=by
 have b:=bI w (.cells #[zN,zN,zN] 72);refine ⟨λq=>if q=w.heap.size then 1 else 0,_,_,_,[],[],[],⟨(jH.empty w).to (P:=λ_=>False) (Ks.of b) (λ_ h=>h.elim) (λ_ h=>h.elim) λq hq=>Or.inr ?_,⟨Cc,aB rfl,eW _ _ _ _,eW _ _ _ _,eW _ _ _ _,(λq hq=>pI),(λq hq=>pI),(λq hq=>pI),(λx c=>by cases c),(λi a=>by cases a),(λi a=>by cases a),λq hq=>?_⟩,rfl,λi a=>by cases a⟩,rfl,aG _,λi a=>by cases a⟩
 ·exact XX
 ·exact XX
def xY (w:zW) (b:Option zD) (len:Nat) (K A:Nat->Int) (S:Nat->By):Prop:=∀ j,j<len->∃ a:zD,b=some a/\a.block<w.heap.size/\w.cell? (a.add (j*3))=some (zI (K j))/\w.cell? ((a.add (j*3)).add 1)=some (zI (A j))/\w.cell? ((a.add (j*3)).add 2)=some (.string ⟨(S j).toArray⟩) /\ -9223372036854775808<=A j/\A j<=9223372036854775807
def WM {n k len:Nat} (h:n<=k) (a:k<=len) (b:len<=1048576):n<=8000000/\n<=7000000/\n+1<=8000000:=ae
def Ji (a:zD) (n:Nat):(a.add n).block=a.block:=by unfold Addr.add;split<;>rfl
def xY.at {c:Option zD} {len:Nat} {K A:Nat->Int} {S:Nat->By} (h:xY w c len K A S) (b:zB w w') {k:Nat} (f:k<len):∃ a:zD,c=some a/\w'.cell? (a.add (k*3))=some (zI (K k))/\w'.cell? ⟨(a.add (k*3)).block,(a.add (k*3)).off+1,none⟩=some (zI (A k))/\w'.cell? ⟨(a.add (k*3)).block,(a.add (k*3)).off+2,none⟩=some (.string ⟨(S k).toArray⟩) /\ -9223372036854775808<=A k/\A k<=9223372036854775807:=by
 obtain ⟨a,rfl,hab,c0,c1,c2,e,d⟩:=h k f;refine ⟨a,rfl,(b.cell (p:=a.add (k*3)) (by rw [Ji];exact hab)).t c0,(b.cell (p:=(a.add (k*3)).add 1) GH).t c1,(b.cell (p:=(a.add (k*3)).add 2) GH).t c2,e,d⟩
def PJ (u:Option zD) (len o:Nat) (K A:Nat->Int) (S:Nat->By) (w:zW) (l:Env w) (h:jZ w) (b:len<=1048576) (v:xY w u len K A S) :
  zC prog 14 #[.slice u len o,zN] w λr w'=>r=.returned (.bool true)/\zB w w':=by
 have p:=I (ze (KF w) (bE _) 3);have B:=I (λn m W (e:jw w w.heap.size m n W) (g:m<=3) (j:n<=8000000) kd a h0 h1 s=>Fg e l h e.low g j kd a h0 h1 s);have HEN:=I (λn m W (e:jw w w.heap.size m n W) (g:m<=3) (j:n<=7000000)=>Fh e l h g j);have x:=I v;have y:(len:Int)<=1048576:=a6.2 b;have SV:=I b;clear v l h b;go_in;go_wp2_with (go_at_call 35;refine mo p.o ?_;rintro r w1 ⟨rfl,m1,c,d⟩;have SZ:=I (And.intro c d);clear c d);clear p;apply I;go_wp2_with fail;go_loopg [7] len (λgk i wr=>∃ k m n:Nat,k<=len/\len<=k+gk/\i=zI k/\Hid (m<=3/\n<=k/\jw w w.heap.size m n wr))
 case atStart=>exact XG
 case round=>
  obtain ⟨k,m,n,hk,f,rfl,HP⟩:=hrel;rcases cC k len with AG|AG
  ·have z:=eu AG;have eQ:=I (eJ AG f);have Gh:=I (WM HP.o.2.1 hk SV.o);obtain ⟨a,rfl,d0,d1,d2,t,q⟩:=x.o.at HP.o.2.2.low AG;have HST:=I (B.o n m wr HP.o.2.2 HP.o.1 Gh.o.1 (K k) (A k) t q (S k));clear t q;by_cases hK:K k=3
   ·rw [hK] at d0 HST;exact Wp
   ·exact YG
  ·exact WL
def Uj {l:List By} {x:By} (h:l.count x≠0):((l.count x:Int) == 0)=false/\¬ (l.count x:Int)=0:=⟨bo.2 λe=>h (Int.ofNat.inj e),λe=>h (Int.ofNat.inj e)⟩
def Ih (X T Y:Nat) (H:List By) (Z:Option zD) (len Q:Nat) (K A:Nat->Int) (S:Nat->By) (w:zW) (F:Env w) (E:jZ w) (c:len<=1048576) (hC:xY w Z len K A S) (g:ll w (zS X T Y) H) (o:(G H)<=1000) :
  zC prog 14 #[.slice Z len Q,zS X T Y] w λr w'=>r=.returned (.bool true)/\zB w w':=by
 have HM:=I (ze (KF w) (bE _) 3);have HS:=I (λn m W (g:jw w w.heap.size m n W) (M:m<=3) (J:n<=8000000) kd a h0 N s=>Fg g F E g.low M J kd a h0 N s);have HEN:=I (λn m W (g:jw w w.heap.size m n W) (M:m<=3) (J:n<=7000000)=>Fh g F E M J);have V:=I hC;have hl1:(len:Int)<=1048576:=a6.2 c;have SV:=I c;have R:=I (λW (hb:zB w W) x=>Bh (g.below hb) o x);have O:=I (λs=>Fe F E s);clear hC F E c g o;go_in;go_wp2_with (go_at_call 35;refine mo HM.o ?_;rintro r w1 ⟨rfl,m1,p,u⟩;have SZ:=I (And.intro p u);clear p u);clear HM;apply I;go_wp2_with fail;go_loopg [7] len (λgk i wr=>∃ k m n:Nat,k<=len/\len<=k+gk/\i=zI k/\Hid (m<=3/\n<=k/\jw w w.heap.size m n wr))
 case atStart=>exact XG
 case round=>
  obtain ⟨k,m,n,hk,L,rfl,HP⟩:=hrel;rcases cC k len with AG|AG
  ·have hlt:=eu AG;have eQ:=I (eJ AG L);have Gh:=I (WM HP.o.2.1 hk SV.o);obtain ⟨a,rfl,d0,d1,d2,y,v⟩:=V.o.at HP.o.2.2.low AG;have HST:=I (HS.o n m wr HP.o.2.2 HP.o.1 Gh.o.1 (K k) (A k) y v (S k));clear y v;by_cases hK:K k=3
   ·rw [hK] at d0;obtain ⟨l,j,-⟩:=O.o (S k);have P:∃ (er:Int) (q:Nat) (B:By),Hid (∀ W,zC prog 36 #[.string ⟨(S k).toArray⟩] W λe w'=>∃ vt,e=.returned (.tuple #[vt,zI er,zI q,zG B])/\zB W w'):=⟨lnE l.r,lnQ l.r,lnW l.r,I λW=>(yE j).m λe w' hr=>by
     obtain ⟨vt,N,h2,_⟩:=hr;exact ⟨vt,N,h2⟩⟩
    obtain ⟨er,q,B,f⟩:=P;clear j HST;go_wp2_with (go_at_call 36;refine mo (f.o _) ?_;rintro r w4 ⟨vt,rfl,z⟩;have xB:=I z;clear z);have h:=I (HP.o.2.2.next xB.o);have d:=I (R.o w4 h.o.low B);clear d0 d1 d2;obtain ⟨a',C,d0,d1,d2,y,v⟩:=V.o.at h.o.low AG;obtain rfl:a=a':=dp C;have Wz:=I (HS.o n m w4 h.o HP.o.1 Gh.o.1 (K k) (A k) y v (S k));rw [hK] at d0 Wz;clear y v f C;apply I;go_wp2_with (go_at_call 37;refine mo d.o ?_;rintro r w5 ⟨rfl,rfl⟩);clear d;by_cases D:H.count B=0
    ·rw [D];by_cases t:er=0
     ·subst t;exact WZ
     ·have U:(er == 0)=false:=bo.2 t;cases B with
      | nil=>
       exact Wy
      | cons b r=>
       exact WZ
    ·obtain ⟨hc1,hc2⟩:=Uj D;exact Wy
   ·exact YG
  ·exact WL
def xY.next {c:Option zD} {len:Nat} {K A:Nat->Int} {S:Nat->By} (h:xY w c len K A S) (b:zB w w'):xY w' c len K A S:=λj e=>by
 obtain ⟨a,rfl,hab,c0,c1,c2,f,d⟩:=h j e;exact ⟨a,rfl,bG hab b.size,(b.cell (p:=a.add (j*3)) (by rw [Ji];exact hab)).t c0,(b.cell (p:=(a.add (j*3)).add 1) GH).t c1,(b.cell (p:=(a.add (j*3)).add 2) GH).t c2,f,d⟩
def Uk (w:zW) (L:List By) (b:L≠[]):ll (w.alloc (.cells (strs L).toArray 9)) (zS w.heap.size (G L) (G L)) L:=by
 refine Or.inr ⟨b,_,_,rfl,aG _,λj a=>?_⟩;exact bC w (strs L) 9 j _ (by simp [strs,a])
def edW:List By:=[[115,101,116],[100,101,108,101,116,101],[114,101,110,97,109,101],[118,97,108,117,101],[114,117,108,101],[108,105,115,116],[111,114,100,101,114]]
def unW:List By:=[[115,101,116],[100,101,108,101,116,101],[114,101,110,97,109,101],[118,97,108,117,101],[114,117,108,101],[108,105,115,116],[111,114,100,101,114],[117,110,100,111],[114,101,100,111]]
def CZ (L:List By) (f:L≠[]) (e:(G L)<=1000) (c:Option zD) (len a:Nat) (K A:Nat->Int) (S:Nat->By) (w:zW) (d:Env w) (g:jZ w) (b:len<=1048576) (i:xY w c len K A S) :
  zC prog 14 #[.slice c len a,zS w.heap.size (G L) (G L)] (w.alloc (.cells (strs L).toArray 9)) λr w'=>r=.returned (.bool true)/\zB w w':=
 (Ih w.heap.size _ _ L c len a K A S _ (d.next (bI _ _)) (g.next d (bI _ _)) b (i.next (bI _ _)) (Uk w L f) e).m λr w' h=>⟨h.1,(bI _ _).t (h.2.m aq)⟩
def KG (c:Option zD) (len b:Nat) (K A:Nat->Int) (S:Nat->By) (w:zW) (e:Env w) (g:jZ w) (a:len<=1048576) (d:xY w c len K A S) :
  zC prog 3 #[.slice c len b] w λr w'=>r=.returned (.bool true)/\zB w w':=by
 have i:=I (CZ edW ai ai c len b K A S w e g a d);clear e g d a;go_in;go_wp2_with (go_at_call 14;refine i.o.m ?_;rintro r w1 ⟨rfl,f⟩;have h:=I f;clear f);go_ret;exact ⟨rfl,h.o⟩
def KH (c:Option zD) (len b:Nat) (K A:Nat->Int) (S:Nat->By) (w:zW) (e:Env w) (g:jZ w) (a:len<=1048576) (d:xY w c len K A S) :
  zC prog 10 #[.slice c len b] w λr w'=>r=.returned (.bool true)/\zB w w':=by
 have i:=I (CZ unW ai ai c len b K A S w e g a d);clear e g d a;go_in;go_wp2_with (go_at_call 14;refine i.o.m ?_;rintro r w1 ⟨rfl,f⟩;have h:=I f;clear f);go_ret;exact ⟨rfl,h.o⟩
def Ul (c:Option zD) (len b:Nat) (K A:Nat->Int) (S:Nat->By) (w:zW) (e:Env w) (g:jZ w) (a:len<=1048576) (d:xY w c len K A S) :
  zC prog 12 #[.slice c len b] w λr w'=>r=.returned (.bool true)/\zB w w':=by
 have i:=I (PJ c len b K A S w e g a d);clear e g d a;go_in;go_wp2_with (go_at_call 14;refine i.o.m ?_;rintro r w1 ⟨rfl,f⟩;have h:=I f;clear f);go_ret;exact ⟨rfl,h.o⟩
end
end Go.Proofs.YtihgojcfpnhelaaGreatDoor
