import Derived.Test.YtihgojcfpnhelaaGreatDoorMw
set_option maxRecDepth 100000
set_option maxHeartbeats 4000000
set_option linter.all false
namespace Go.Proofs.YtihgojcfpnhelaaGreatDoor
open Value renaming slice->B,agg->zd
open Obj renaming cells->zM
open Ending renaming returned->zP
open Option renaming some->A
open Or renaming inl->zR,inr->zZ
open Go renaming World->zW,Value->zV,Calls->zC,Addr->zD
open Go.RowKit Go.Proofs.Tryz
open List renaming length→G
def UI (r:zV) (p:Pt) (a:Option zD) (n c:Nat) (w:zW) (q:Nat->Pt) (Q0:Nat->Option zD) (L C:Nat->Nat) (v:Nat->Vl) (hn:n=2) (hK:ib w a n q Q0 L C) (hV:kG r w n q Q0 L C v) :
  zC prog 247 #[zd #[bH r],zd #[J p.k,Q p.nm,J p.n,B a n c]] w (dx (fR p.k (v 0) (v 1)) w):=by
 subst hn;obtain ⟨g,rfl,G,c0,c1,c2,c3⟩:=hK 0 (by omega);obtain ⟨g',GU,_,d0,d1,d2,d3⟩:=hK 1 (by omega);obtain rfl:g=g':=(by simpa using GU);rw [jC] at c0 c1 c2 c3;rw [mQ] at d0 d1 d2 d3;have HV:=I hV;have wR:(0:Int)<((2:Nat):Int):=(by omega);have aJ:(1:Int)<((2:Nat):Int):=(by omega);obtain ⟨H,y⟩:∃ H,H=(((w.alloc (zM #[bH r] 306)).alloc (zM #[J p.k,Q p.nm,J p.n,zS g 2 c] 87)).alloc (zM #[J 0,J 0] 177)):=⟨_,rfl⟩;have Q5:H.heap.size=w.heap.size+1+1+1:=(by rw [y];simp);have l:zB w H:=(by rw [y];exact og w _ _ _);have r0:H.heap[w.heap.size]?=A (zM #[bH r] 306 (0,0)):=(by rw [y,cj _ _ _ (by simp;omega),cj _ _ _ (by simp)];exact bL w _);have r2:H.heap[w.heap.size+1]?=A (zM #[J p.k,Q p.nm,J p.n,zS g 2 c] 87 (0,0)):=(by rw [y,cj _ _ _ (by simp)];exact bc w _ _ _);have r3:H.heap[w.heap.size+1+1]?=A (zM #[J 0,J 0] 177 (0,0)):=by
  rw [y];exact fZ w _ _ _ _
 have C0:=(l.cell (p:=yh g) G).t c0;have C1:=(l.cell (p:=X g (0+1)) G).t c1;have C2:=(l.cell (p:=X g (0+2)) G).t c2;have C3:=(l.cell (p:=X g (0+3)) G).t c3;rw [cS] at C1 C2 C3;obtain ⟨i0,_,_⟩:=Aq r0;obtain ⟨⟨_,_,_,i2⟩,_,_⟩:=aX r2;have HU:=I l;have HR:=I (And.intro r0 (And.intro r2 r3));have w5:=I y;have au:g<H.heap.size:=(by omega);have ad:w.heap.size<H.heap.size:=(by omega);have bn:w.heap.size+1<H.heap.size:=(by omega);have rG:w.heap.size+1+1<H.heap.size:=(by omega);clear hK hV GU;have zL:=I (show zC prog 220 #[zd #[bH r],zd #[J ((q 0).k:Int),Q ((q 0).nm),J ((q 0).n:Int),B (Q0 0) (L 0) (C 0)]] H.drew λe P=>e=zP (zd #[J (v 0).1,J (v 0).2])/\zB H P from
  ((HV.o.next (w':=H.drew) l.drew) 0 (by omega) _ (aM _ _)).m λe P h=>⟨h.1,(aM _ _).drew.t h.2⟩)
 have Q6:=I (show zC prog 220 #[zd #[bH r],zd #[J ((q 0).k:Int),Q ((q 0).nm),J ((q 0).n:Int),B (Q0 0) (L 0) (C 0)]] (H.alloc (zM #[J 0,J 0] 177)).drew λe P=>e=zP (zd #[J (v 0).1,J (v 0).2])/\zB H P/\P.heap[H.heap.size]?=A (zM #[J 0,J 0] 177 (0,0)) from
  ((HV.o.next (w':=(H.alloc (zM #[J 0,J 0] 177)).drew) (l.alloc l.size _).drew) 0 (by omega) _ (aM _ _)).m λe P h=>⟨h.1,(bZ _).drew.t (h.2.m (by show H.heap.size<=(H.alloc _).heap.size;simp)),(h.2.block H.heap.size (by show H.heap.size<(H.alloc _).heap.size;simp)).t (bL H _)⟩)
 go_in
 go_upto_region 1 with fail
 rw [<- w5.o];have am:=I Q5;clear y w5 r0 r2 r3 Q5 l
 go_cut [5] (λs7 wc=>∃ gF,s7=zJ gF/\H.heap.size<=gF/\Hid (zB H wc)/\wc.heap[gF]?=A (zM #[J (v 0).1,J (v 0).2] 177 (0,0)))
 case first=>
  go_region_with (first|(go_at_call 220;refine zL.o.m ?_;rintro e P ⟨rfl,b⟩;have F:=I b;clear b)|(go_at_call 220;refine Q6.o.m ?_;rintro e P ⟨rfl,b,hF⟩;obtain ⟨⟨y0,y1⟩,⟨z0,z1⟩,QT⟩:=cq hF;have F:=I b;have B2:=I hF;clear b hF))
  all_goals (go_wp2_with fail;go_meet;first|exact ⟨_,rfl,F.o.size,F.o.alloc F.o.size _,bL _ _⟩|exact ⟨_,rfl,aG _,(F.o.setCell (p:=yh H.heap.size) (aG _) _).setCell (p:=X H.heap.size 1) (aG _) _,yC B2.o _ _⟩)
 case rest=>
 generalize wc=j at *;obtain ⟨gF,rfl,av,o,hF⟩:=hcut;obtain ⟨R0,R2,R3⟩:=HR.o;have an:=o.o.size;obtain ⟨⟨x0,x1⟩,_,QT⟩:=cq hF;obtain ⟨af,_,_⟩:=Aq ((o.o.block _ ad).t R0);obtain ⟨⟨jk,_,_,j2⟩,_,_⟩:=aX ((o.o.block _ bn).t R2);obtain ⟨⟨M,N⟩,⟨f0,f1⟩,iL⟩:=cq ((o.o.block _ rG).t R3);have JU:=I ((o.o.block _ rG).t R3);have Y:=I (HU.o.t (o.o.m HU.o.size));have e0:=(Y.o.cell (p:=X g 4) G).t d0;have e1:=(Y.o.cell (p:=X g 5) G).t d1;have e2:=(Y.o.cell (p:=X g 6) G).t d2;have e3:=(Y.o.cell (p:=X g 7) G).t d3;have wO:=I (show zC prog 220 #[zd #[bH r],zd #[J ((q 1).k:Int),Q ((q 1).nm),J ((q 1).n:Int),B (Q0 1) (L 1) (C 1)]] j.drew λe P=>e=zP (zd #[J (v 1).1,J (v 1).2])/\zB j P from
  ((HV.o.next (w':=j.drew) Y.o.drew) 1 (by omega) _ (aM _ _)).m λe P h=>⟨h.1,(aM _ _).drew.t h.2⟩)
 have w1:=I (show zC prog 220 #[zd #[bH r],zd #[J ((q 1).k:Int),Q ((q 1).nm),J ((q 1).n:Int),B (Q0 1) (L 1) (C 1)]] (j.alloc (zM #[J 0,J 0] 177)).drew λe P=>e=zP (zd #[J (v 1).1,J (v 1).2])/\zB j P/\P.heap[j.heap.size]?=A (zM #[J 0,J 0] 177 (0,0)) from
  ((HV.o.next (w':=(j.alloc (zM #[J 0,J 0] 177)).drew) (Y.o.alloc Y.o.size _).drew) 1 (by omega) _ (aM _ _)).m λe P h=>⟨h.1,(bZ _).drew.t (h.2.m (by show j.heap.size<=(j.alloc _).heap.size;simp)),(h.2.block j.heap.size (by show j.heap.size<(j.alloc _).heap.size;simp)).t (bL j _)⟩)
 have HI:=I (λag ak al W=>P6 ag ak al W);have HT:=I (λbb W=>lK bb W);have k1:=I (λn W=>uq n W);have AJ:=I hF;have VZ:=I ((o.o.block _ bn).t R2);have ay:g<j.heap.size:=(by omega);have ao:w.heap.size<j.heap.size:=(by omega);have lX:w.heap.size+1<j.heap.size:=(by omega);clear R0 R2 R3 i0 i2 C0 C1 C2 C3 c0 c1 c2 c3 d0 d1 d2 d3 zL Q6 hF;generalize aa:v 0=vf at *;generalize ac:v 1=vg at *;obtain ⟨i,m⟩:=vf;obtain ⟨K,O⟩:=vg;clear aa ac;by_cases t:i=3
 .have qa:(i == 3)=true:=by simp [t]
  have U:=I (show fR p.k (i,m) (K,O)=(i,m) by unfold fR;rw [aB t]);clear t;go_wp2;refine aK (v:=zd #[J i,J m]) (by simp [results,results247,go_sem,M,N]) rfl ?_;rw [U.o];exact ⟨rfl,dJ Y.o _ (by omega) _ _⟩
 .have qa:(i == 3)=false:=bo.2 t;have s:=I t;clear t
  go_upto_region 4 with fail
  go_cut [6] (λs6 wd=>∃ bk,s6=zJ bk/\j.heap.size<=bk/\Hid (zB j wd)/\wd.heap[bk]?=A (zM #[J K,J O] 177 (0,0)))
  case first=>
   go_region_with (first|(go_at_call 220;refine wO.o.m ?_;rintro e P ⟨rfl,b⟩;have F:=I b;clear b)|(go_at_call 220;refine w1.o.m ?_;rintro e P ⟨rfl,b,hF⟩;obtain ⟨⟨y0,y1⟩,⟨z0,z1⟩,QT⟩:=cq hF;have F:=I b;have B2:=I hF;clear b hF))
   all_goals (go_wp2_with fail;go_meet;first|exact ⟨_,rfl,F.o.size,F.o.alloc F.o.size _,bL _ _⟩|exact ⟨_,rfl,aG _,(F.o.setCell (p:=yh j.heap.size) (aG _) _).setCell (p:=X j.heap.size 1) (aG _) _,yC B2.o _ _⟩)
  case rest=>
  obtain ⟨bk,rfl,ax,D,hG⟩:=hcut;have ar:=D.o.size;obtain ⟨⟨s0,s1⟩,_,a0⟩:=cq hG;clear x0 x1 M N f0 f1 jk j2 af e0 e1 e2 e3;obtain ⟨⟨x0,x1⟩,_,_⟩:=cq ((D.o.block _ QT).t AJ.o);obtain ⟨⟨jk,_,_,_⟩,_,_⟩:=aX ((D.o.block _ lX).t VZ.o);have QV:=(D.o.block _ iL).t JU.o;obtain ⟨⟨M,N⟩,⟨f0,f1⟩,HE⟩:=cq QV;have h1:=I QV;have Q4:=I (Y.o.t (D.o.m Y.o.size));clear hG QV wO w1;have z:=I (show ∀ (u:Vl) V,zB wc V->((V.cell? (yh (w.heap.size+1+1))=A (J 0)/\V.cell? (X (w.heap.size+1+1) 1)=A (J 0))/\(V.frozen? (yh (w.heap.size+1+1))=false/\V.frozen? (X (w.heap.size+1+1) 1)=false)/\w.heap.size+1+1<V.heap.size)/\dx u w (zP (zd #[J u.1,J u.2])) ((V.setCell (yh (w.heap.size+1+1)) (J u.1)).setCell (X (w.heap.size+1+1) 1) (J u.2)) from λu V hb=>⟨cq ((hb.block _ HE).t h1.o),rfl,dJ (Q4.o.t (hb.m Q4.o.size)) _ (by omega) _ _⟩);by_cases d:K=3
  .have qb:(K == 3)=true:=by simp [d]
   have U:=I (show fR p.k (i,m) (K,O)=(K,O) by unfold fR;rw [aA s.o,aB d]);clear d;go_wp2;refine aK (v:=zd #[J K,J O]) (by simp [results,results247,go_sem,M,N]) rfl ?_;rw [U.o];exact ⟨rfl,dJ Q4.o _ (by omega) _ _⟩
  .have qb:(K == 3)=false:=bo.2 d;by_cases f:i=1/\K=1
   .have qc:(i == 1)=true:=by simp [f.1]
    have qd:(K == 1)=true:=by simp [f.2]
    have U:=I (show fR p.k (i,m) (K,O)=iX p.k m O by unfold fR;rw [aA s.o,aA d,aB f]);clear f d;go_wp2_with (go_at_call 259;refine mo (HI.o p.k m O _) ?_;rintro e V ⟨rfl,S⟩);clear M N f0 f1;obtain ⟨⟨⟨M,N⟩,⟨f0,f1⟩,k0⟩,T⟩:=z.o (iX p.k m O) _ S;have Z:=I T;clear T S;generalize W4:iX p.k m O=R at *;have he:=I W4;clear W4;apply I;go_wp2;refine aK (v:=zd #[J R.1,J R.2]) (by simp [results,results247,go_sem,M,N]) rfl ?_;rw [U.o];exact Z.o
   .by_cases k:i=1
    .have b:K≠1:=λh=>f ⟨k,h⟩;have qc:(i == 1)=true:=(by simp [k]);have qd:(K == 1)=false:=bo.2 b;have qe:(i == K)=false:=bo.2 (by omega);have U:=I (show fR p.k (i,m) (K,O)=(3,2) by unfold fR;rw [aA s.o,aA d,aA f,aA (λh=>b (h.1.symm.t k))];rfl);clear f d k b;go_wp2_with (go_at_call 258;refine mo (k1.o 2 _) ?_;rintro e V ⟨rfl,S⟩);clear M N f0 f1;obtain ⟨⟨⟨M,N⟩,⟨f0,f1⟩,k0⟩,T⟩:=z.o (3,2) _ S;have Z:=I T;clear T S;apply I;go_wp2;refine aK (v:=zd #[J 3,J 2]) (by simp [results,results247,go_sem,M,N]) rfl ?_;rw [U.o];exact Z.o
    .have qc:(i == 1)=false:=bo.2 k;by_cases x:i=K
     .have qe:(i == K)=true:=(by simp [x]);by_cases E:p.k=18
      .have qf:((p.k:Int) == 18)=true:=by simp [E]
       have U:=I (show fR p.k (i,m) (K,O)=bD (m == O) by unfold fR;rw [aA s.o,aA d,aA f,aB ⟨x,E⟩]);clear f d k x E;go_wp2_with (go_at_call 241;refine mo (HT.o (m == O) _) ?_;rintro e V ⟨rfl,S⟩);clear M N f0 f1;obtain ⟨⟨⟨M,N⟩,⟨f0,f1⟩,k0⟩,T⟩:=z.o (bD (m == O)) _ S;have Z:=I T;clear T S;generalize W4:bD (m == O)=R at *;have he:=I W4;clear W4;apply I;go_wp2;refine aK (v:=zd #[J R.1,J R.2]) (by simp [results,results247,go_sem,M,N]) rfl ?_;rw [U.o];exact Z.o
      .have qf:((p.k:Int) == 18)=false:=bo.2 (by omega);have U:=I (show fR p.k (i,m) (K,O)=(3,2) by unfold fR;rw [aA s.o,aA d,aA f,aA (λh=>E h.2)];rfl);clear f d k x E;go_wp2_with (go_at_call 258;refine mo (k1.o 2 _) ?_;rintro e V ⟨rfl,S⟩);clear M N f0 f1;obtain ⟨⟨⟨M,N⟩,⟨f0,f1⟩,k0⟩,T⟩:=z.o (3,2) _ S;have Z:=I T;clear T S;apply I;go_wp2;refine aK (v:=zd #[J 3,J 2]) (by simp [results,results247,go_sem,M,N]) rfl ?_;rw [U.o];exact Z.o
     .have qe:(i == K)=false:=bo.2 x;have U:=I (show fR p.k (i,m) (K,O)=(3,2) by unfold fR;rw [aA s.o,aA d,aA f,aA (λh=>x h.1)];rfl);clear f d k x;go_wp2_with (go_at_call 258;refine mo (k1.o 2 _) ?_;rintro e V ⟨rfl,S⟩);clear M N f0 f1;obtain ⟨⟨⟨M,N⟩,⟨f0,f1⟩,k0⟩,T⟩:=z.o (3,2) _ S;have Z:=I T;clear T S;apply I;go_wp2;refine aK (v:=zd #[J 3,J 2]) (by simp [results,results247,go_sem,M,N]) rfl ?_;rw [U.o];exact Z.o
section
section
section
variable {K:List (By × Nat)}
def Fo (K:List (By × Nat)) (n j:Nat):Prop:=∀ m,n<=m->m<=5->b5 (aw K j) (dc m)=false
def Fo.up {n j:Nat} (h:Fo K n j):Fo K (n+1) j:=λm b a=>h m (by omega) a
def Qc (n m:Nat) (c:1<=n) (d:n<m) (e:m<=5) (t:By) (h:b5 t (dc n)=true):b5 t (dc m)=false:=by
 have a:n=1\/n=2\/n=3\/n=4:=(by omega);have b:m=2\/m=3\/m=4\/m=5:=(by omega);simp only [b5,pF] at h;rcases a with rfl|rfl|rfl|rfl<;>simp only [dc,bQ,jA,iK] at h<;>rcases b with rfl|rfl|rfl|rfl<;>first|(exfalso;omega)|(subst h;decide)|(rcases h with rfl|rfl<;>decide)
def Fo.dc {n j:Nat} (h:b5 (aw K j) (dc n)=true) (b:1<=n):Fo K (n+1) j:=λm c a=>Qc n m b (by omega) a _ h
def r8 {j:Nat} (x:By) (n:Nat) (k:1<=n) (h:aw K j=x) (a:b5 x (Go.Proofs.YtihgojcfpnhelaaGreatDoor.dc 1)=false/\b5 x (Go.Proofs.YtihgojcfpnhelaaGreatDoor.dc 2)=false/\b5 x (Go.Proofs.YtihgojcfpnhelaaGreatDoor.dc 3)=false/\b5 x (Go.Proofs.YtihgojcfpnhelaaGreatDoor.dc 4)=false/\b5 x (Go.Proofs.YtihgojcfpnhelaaGreatDoor.dc 5)=false):Fo K n j:=by
 intro m b i;rw [h];obtain ⟨f,c,g,e,d⟩:=a;rcases (show m=1\/m=2\/m=3\/m=4\/m=5 by omega) with rfl|rfl|rfl|rfl|rfl<;>assumption
def oy (t:By) (k c:Nat) (h:ij t k) (a:ij t c):k=c:=by
 have b:∀ y,y∈eb->ae y.1=false/\bm y.1=false/\y.1≠[]:=(by decide);rcases h with ⟨h,rfl⟩|⟨d,h,rfl⟩|⟨rfl,rfl⟩|h
 .rcases a with ⟨_,rfl⟩|⟨g,_,rfl⟩|⟨rfl,rfl⟩|g
  .rfl
  .rw [h] at g;cases g
  .cases h
  .have:=(b _ g).1;rw [h] at this;cases this
 .rcases a with ⟨g,rfl⟩|⟨_,_,rfl⟩|⟨rfl,rfl⟩|g
  .rw [d] at g;cases g
  .rfl
  .cases h
  .have:=(b _ g).2.1;rw [h] at this;cases this
 .rcases a with ⟨g,rfl⟩|⟨_,g,rfl⟩|⟨_,rfl⟩|g
  .cases g
  .cases g
  .rfl
  .exact absurd rfl (b _ g).2.2
 .exact ((cQ t k h t c a).2 rfl).symm
inductive Ch (K:List (By × Nat)) (n:Nat):Nat->Pt->Nat->Pt->Prop
 | nil (j:Nat) (a:Pt):Ch K n j a j a
 | cons (j j1 j2 k:Nat) (a b p:Pt):b5 (aw K j) (dc n)=true->ij (aw K j) k->bh K (n+1) (j+1) j1 b->Ch K n j1 (.bin k a b) j2 p->Ch K n j a j2 p
def Ch.snoc {n i j e k:Nat} {a p b:Pt} (h:Ch K n i a j p) (c:b5 (aw K j) (Go.Proofs.YtihgojcfpnhelaaGreatDoor.dc n)=true) (d:ij (aw K j) k) (f:bh K (n+1) (j+1) e b):Ch K n i a e (.bin k p b):=by
 induction h with
 | nil j a=>exact .cons _ _ _ _ _ _ _ c d f (.nil _ _)
 | cons s r u q w v t g l o _ m=>exact .cons _ _ _ _ _ _ _ g l o (m c d f)
def Ch.le {n i j:Nat} {a p:Pt} (h:Ch K n i a j p):i<=j:=by
 induction h with
 | nil=>exact aG _
 | cons k f m c q o l d e b _ g=>have:=b.lt;omega
def bh.level {n i j:Nat} {p:Pt} (h:bh K n i j p):1<=n/\n<=6:=by
 cases h<;>omega
def bh.chain {n i j:Nat} {p:Pt} (h:bh K n i j p):n<=5->n≠3->∃ d e,bh K (n+1) i d e/\Ch K n d e j p:=by
 induction h with
 | atom=>intro h;omega
 | jV=>intro _ h;exact absurd rfl h
 | neg=>intro h;omega
 | br=>intro h;omega
 | ifs=>intro h;omega
 | up n i j a l f h s=>intro _ _;exact ⟨j,a,h,.nil _ _⟩
 | more n i j t k a b l f u C r q c _=>
  intro _ g;rw [aA g] at c;obtain ⟨d,e,m,o⟩:=c f g;exact ⟨d,e,m,o.snoc C r q⟩
def bh.three {i j:Nat} {p:Pt} (h:bh K 3 i j p):(aw K i=[110,111,116]/\∃ a,p=.un 6 a/\bh K 3 (i+1) j a)\/bh K 4 i j p\/(∃ c k a b,p=.bin k a b/\bh K 4 i c a/\b5 (aw K c) (Go.Proofs.YtihgojcfpnhelaaGreatDoor.dc 3)=true/\ij (aw K c) k/\bh K 4 (c+1) j b):=by
 cases h with
 | jV _ _ a d e=>exact zR ⟨d,a,rfl,e⟩
 | up _ _ _ _ _ _ h=>exact zZ (zR h)
 | more _ _ c _ k a b _ _ l C g f=>exact zZ (zZ ⟨c,k,a,b,rfl,l,C,g,f⟩)
def bh.Ld {i j:Nat} {p:Pt} (h:bh K 6 i j p):(∃ k,ij (aw K i) k/\(k=1\/k=2\/k=7\/k=8)/\j=i+1/\p=.atom k (ej (aw K i)) (fw (aw K i)))\/(aw K i=[45]/\∃ a,p=.un 14 a/\bh K 6 (i+1) j a)\/(aw K i=[40]/\∃ f a,j=f+1/\p=.un 9 a/\bh K 1 (i+1) f a/\aw K f=[41]) \/
  (aw K i=[105,102]/\∃ e l g a b c,j=g+1/\p=.ifs a b c/\bh K 1 (i+1+1) e a/\aw K e=[44]/\bh K 1 (e+1) l b/\aw K l=[44]/\bh K 1 (l+1) g c/\aw K g=[41]):=by
 cases h with
 | atom _ k _ s v=>exact zR ⟨k,s,v,rfl,rfl⟩
 | neg _ _ a d m=>exact zZ (zR ⟨d,a,rfl,m⟩)
 | br _ f a d m o=>exact zZ (zZ (zR ⟨d,f,a,rfl,rfl,m,o⟩))
 | ifs _ e l g a b c d _ o t n u q r=>exact zZ (zZ (zZ ⟨d,e,l,g,a,b,c,rfl,rfl,o,t,n,u,q,r⟩))
 | up _ _ _ _ _ n=>omega
 | more _ _ _ _ _ _ _ _ n=>omega
def bh.start {n i j:Nat} {p:Pt} (h:bh K n i j p):4<=n->aw K i≠[110,111,116]:=by
 induction h with
 | atom i k _ f r=>intro _ h;have:=(cQ _ 6 (by decide) _ k f).2 h;omega
 | jV=>intro h;omega
 | neg i j a h=>intro _ g;rw [h] at g;cases g
 | br i j a h=>intro _ g;rw [h] at g;cases g
 | ifs i m q o a b c h=>intro _ g;rw [h] at g;cases g
 | up n i j a e l _ d=>intro h;exact d (by omega)
 | more n i j s k a b e l _ _ _ _ d _=>intro h;rw [aA (by omega)] at d;exact d h
def Ch.uniq {n i QV j:Nat} {a p:Pt} (z:1<=n) (U:∀ s e o b v,i<s->e<=QV->bh K (n+1) s e b->bh K (n+1) s o v->Fo K (n+1) e->Fo K (n+1) o->e=o/\b=v) {s:Nat} (h:Ch K n s a j p):i<=s->j<=QV->∀ {f:Nat} {l:Pt},Ch K n s a f l->Fo K n j->Fo K n f->n<=5->j=f/\p=l:=by
 induction h with
 | nil s a=>
  intro _ _ f l q m _ g;cases q with
  | nil=>exact ⟨rfl,rfl⟩
  | cons _ _ _ _ _ _ _ d=>rw [m n (aG _) g] at d;cases d
 | cons s C R k a b p d P y x D=>
  intro N E f l q m c g;cases q with
  | nil=>rw [c n (aG _) g] at d;cases d
  | cons _ t _ M _ v _ L F O w=>
   have f1:Fo K (n+1) C:=by
    cases x with
    | nil=>exact m.up
    | cons _ _ _ _ _ _ _ u=>exact Fo.dc u z
   have r:Fo K (n+1) t:=by
    cases w with
    | nil=>exact c.up
    | cons _ _ _ _ _ _ _ u=>exact Fo.dc u z
   have H:=x.le;have G:=y.lt;obtain ⟨rfl,rfl⟩:=U _ _ _ _ _ (by omega) (by omega) y O f1 r;obtain rfl:=oy _ _ _ P F;exact D (by omega) E w m c g
def Ch.head {n i j:Nat} {a p:Pt} (h:Ch K n i a j p) (d:1<=n) (b:Fo K n j):Fo K (n+1) i:=by
 cases h with
 | nil=>exact b.up
 | cons _ _ _ _ _ _ _ c=>exact Fo.dc c d
def bh.acG:∀ (M n i j:Nat) (p:Pt) (w:Nat) (E:Pt),(j - i)*8+(7 - n)<=M->bh K n i j p->bh K n i w E->Fo K n j->Fo K n w->j=w/\p=E
 | 0,n,i,j,p,w,E,f,h,_,_,_=>by have:=h.level;have:=h.lt;omega
 | M+1,n,i,j,p,w,E,f,h,y,z,m=>by
  have t:=bh.acG M;have D:=h.level;have ac:=h.lt;by_cases hs:n=6
  .subst hs;rcases h.Ld with ⟨k,W,hk,rfl,rfl⟩|⟨q,a,rfl,l⟩|⟨q,Z,a,rfl,rfl,l,T⟩|⟨q,j1,j2,j3,a,b,aa,rfl,rfl,l,e1,Y,e2,W,e3⟩
   .have n1:=cQ [45] 13 (by decide) _ k W;have U:=cQ [40] 9 (by decide) _ k W;have n3:=cQ [105,102] 3 (by decide) _ k W;rcases y.Ld with ⟨x,V,C,rfl,rfl⟩|⟨d,_⟩|⟨d,_⟩|⟨d,_⟩
    .obtain rfl:=oy _ _ _ W V;exact ⟨rfl,rfl⟩
    .have:=n1.2 d;omega
    .have:=U.2 d;omega
    .have:=n3.2 d;omega
   .rcases y.Ld with ⟨x,V,C,rfl,rfl⟩|⟨d,r,rfl,g⟩|⟨d,_⟩|⟨d,_⟩
    .have:=(cQ [45] 13 (by decide) _ x V).2 q;omega
    .have:=l.lt;obtain ⟨rfl,rfl⟩:=t 6 (i+1) j a w r (by omega) l g z m;exact ⟨rfl,rfl⟩
    .rw [q] at d;cases d
    .rw [q] at d;cases d
   .rcases y.Ld with ⟨x,V,C,rfl,rfl⟩|⟨d,_⟩|⟨d,o,r,rfl,rfl,g,e⟩|⟨d,_⟩
    .have:=(cQ [40] 9 (by decide) _ x V).2 q;omega
    .rw [q] at d;cases d
    .have:=l.lt;obtain ⟨rfl,rfl⟩:=t 1 (i+1) Z a o r (by omega) l g (r8 _ 1 (aG _) T (by decide)) (r8 _ 1 (aG _) e (by decide));exact ⟨rfl,rfl⟩
    .rw [q] at d;cases d
   .rcases y.Ld with ⟨x,V,C,rfl,rfl⟩|⟨d,_⟩|⟨d,_⟩|⟨d,ad,af,ag,r,F,c',rfl,rfl,g,R,u,P,V,O⟩
    .have:=(cQ [105,102] 3 (by decide) _ x V).2 q;omega
    .rw [q] at d;cases d
    .rw [q] at d;cases d
    .have:=l.lt;have:=Y.lt;have:=W.lt;obtain ⟨rfl,rfl⟩:=t 1 _ _ _ _ _ (by omega) l g (r8 _ 1 (aG _) e1 (by decide)) (r8 _ 1 (aG _) R (by decide));obtain ⟨rfl,rfl⟩:=t 1 _ _ _ _ _ (by omega) Y u (r8 _ 1 (aG _) e2 (by decide)) (r8 _ 1 (aG _) P (by decide));obtain ⟨rfl,rfl⟩:=t 1 _ _ _ _ _ (by omega) W V (r8 _ 1 (aG _) e3 (by decide)) (r8 _ 1 (aG _) O (by decide));exact ⟨rfl,rfl⟩
  .by_cases L:n=3
   .subst L;rcases h.three with ⟨q,a,rfl,l⟩|l|⟨Z,k,a,b,rfl,l,c,W,Y⟩
    .rcases y.three with ⟨d,r,rfl,g⟩|g|⟨o,x,r,F,rfl,g,_⟩
     .have:=l.lt;obtain ⟨rfl,rfl⟩:=t 3 (i+1) j a w r (by omega) l g z m;exact ⟨rfl,rfl⟩
     .exact absurd q (g.start (by omega))
     .exact absurd q (g.start (by omega))
    .rcases y.three with ⟨d,r,rfl,g⟩|g|⟨o,x,r,F,rfl,g,v,V,u⟩
     .exact absurd d (l.start (by omega))
     .exact t 4 i j p w E (by omega) l g z.up m.up
     .obtain ⟨rfl,rfl⟩:=t 4 i j p o r (by omega) l g z.up (Fo.dc v (by omega));rw [z 3 (by omega) (by omega)] at v;cases v
    .have h1:=l.lt;have Q0:=Y.lt;rcases y.three with ⟨d,r,rfl,g⟩|g|⟨o,x,r,F,rfl,g,v,V,u⟩
     .exact absurd d (l.start (by omega))
     .obtain ⟨rfl,rfl⟩:=t 4 i Z a w E (by omega) l g (Fo.dc c (by omega)) m.up;rw [m 3 (by omega) (by omega)] at c;cases c
     .obtain ⟨rfl,rfl⟩:=t 4 i Z a o r (by omega) l g (Fo.dc c (by omega)) (Fo.dc v (by omega));obtain ⟨rfl,rfl⟩:=t 4 (Z+1) j b w F (by omega) Y u z.up m.up;obtain rfl:=oy _ _ _ W V;exact ⟨rfl,rfl⟩
   .obtain ⟨Z,a0,S,N⟩:=h.chain (by omega) L;obtain ⟨o,H,s,G⟩:=y.chain (by omega) L;have h1:=S.lt;have Q0:=N.le;obtain ⟨rfl,rfl⟩:=t (n+1) i Z a0 o H (by omega) S s (N.head D.1 z) (G.head D.1 m);exact N.uniq (i:=i) (QV:=j) D.1 (λQT Q5 hc b F c T Y u Q6 Q4=>t (n+1) QT Q5 b hc F (by have:=Y.lt;omega) Y u Q6 Q4) (by omega) (aG _) G z m (by omega)
def bh.uniq {p a:Pt} (h:bh K 1 0 (G K) p) (c:bh K 1 0 (G K) a):p=a:=by
 have b:Fo K 1 (G K):=r8 [] 1 (aG _) (kV K _ (aG _)) (by decide);exact (bh.acG _ 1 0 _ p _ a (aG _) h c b b).2
end
end
end
section
section
def opn:Pt->Nat
 | .atom _ _ _=>0
 | .un _ a=>opn a+1
 | .bin _ a b=>max (opn a) (opn b)
 | .ifs a b c=>max (opn a) (max (opn b) (opn c))+1
def r9 (len:Nat):∀ (n:Nat) (C:List By) (K:List (By × Nat)) (x:Int × Nat),cF len n C K=A x->∀ k,cF len (n+k) C K=A x
 | 0,C,K,x,h,k=>by simp [cF] at h
 | n+1,[],K,x,h,k=>by
  rw [show n+1+k=(n+k)+1 by omega];simp only [cF] at h ⊢;exact h
 | n+1,s::C,K,x,h,k=>by
  rw [show n+1+k=(n+k)+1 by omega];obtain ⟨t,p,a⟩:∃ t p,(K=[]/\t=[]/\p=len)\/∃ r,K=(t,p)::r:=by
   match K with
   | []=>exact ⟨[],len,zR ⟨rfl,rfl,rfl⟩⟩
   | (t,p)::r=>exact ⟨t,p,zZ ⟨r,rfl⟩⟩
  rw [cP len n s C K t p a] at h;rw [cP len (n+k) s C K t p a];by_cases b:s=fj
  .rw [aB b] at h ⊢;exact h
  .rw [aA b] at h ⊢;cases c:dT s t with
   | some m=>
    rw [c] at h;exact r9 len n _ _ x h k
   | none=>
    rw [c] at h;simp only at h ⊢;generalize d:(if s=cE then bm t else decide (t≠[])&&decide (s=t))=q at h ⊢;cases q with
    | true=>exact r9 len n _ _ x h k
    | false=>exact h
section
variable {len:Nat} {K:List (By × Nat)}
end
end
end
def Dh (s:By):Prop:=s=[]\/∃ c r,s=c::r/\iO c=false
def db (x:By):Bool:=j6 x||ae x
def TI (x:By):Prop:=∃ c r,x=c::r/\c≠32/\di x=true/\(fF c=true->∀ y,y∈r->iO y=true)/\(fF c=false->cT c=true->∀ y,y∈r->cT y=true)/\(fF c=false->cT c=false->r=[])
def vG:List By->By->Prop
 | [],_=>True
 | x::l,rest=>(x=[32]\/(TI x/\(db x=true->Dh (l.flatten++rest))))/\vG l rest
def um:List By->Nat->List (By × Nat)
 | [],_=>[]
 | x::l,k=>if x=[32] then um l (k+1) else (x,k)::um l (k+G x)
def bB (l:List By):List By:=l.filter λx=>x≠[32]
def zl (l:List By):∀ k,(um l k).map Prod.fst=bB l:=by
 induction l with
 | nil=>intro k;rfl
 | cons x l a=>
  intro k;by_cases h:x=[32]
  .simp only [um,h,jq,a,bB];simp
  .simp only [um,h,k8,fL,a,bB];simp [h]
def Ir {p:UInt8->Bool}:∀ (r rest:By),(∀ y,y∈r->p y=true)->(rest=[]\/∃ c t,rest=c::t/\p c=false)->(r++rest).takeWhile p=r
 | [],rest,_,h=>by
  rcases h with rfl|⟨c,t,rfl,h⟩
  .rfl
  .simp [h]
 | y::r,rest,a,h=>by
  rw [gT,List.takeWhile_cons,a y (by simp)];simp only [jq];rw [Ir r rest (λz b=>a z (by simp [b])) h]
def Is {c:UInt8} (h:fF c=true):iO c=true:=by
 simp only [fF] at h;simp [iO,AB,h]
def R7 {c:UInt8} (h:cT c=true):iO c=true:=by
 simp only [cT] at h;simp [iO,AB,h]
def K7 (x rest:By) (h:TI x) (e:db x=true->Dh rest):rowLen (x++rest)=G x:=by
 obtain ⟨c,r,rfl,_,_,g,i,k⟩:=h;simp only [gT,rowLen];by_cases a:fF c=true
 .rw [aB a,Ir r rest (g a)]
  .simp;omega
  .exact e (by simp [db,j6,a])
 .have b:fF c=false:=by simpa using a
  rw [aA a];by_cases C:cT c=true
  .rw [aB C,Ir r rest (i b C)]
   .simp;omega
   .rcases e (by simp [db,ae,C]) with rfl|⟨d,t,rfl,f⟩
    .exact zR rfl
    .refine zZ ⟨d,t,rfl,?_⟩;cases j:cT d with
     | false=>rfl
     | true=>rw [R7 j] at f;cases f
  .rw [aA C,k b (by simpa using C)];rfl
def uo:∀ (l:List By) (f k:Nat),vG l []->G l.flatten<=f->bW f l.flatten k=(um l k,none)
 | [],f,k,_,_=>by simp [um,UH]
 | x::l,f,k,⟨h,i⟩,a=>by
  simp only [List.flatten_cons,b6] at a ⊢;by_cases d:x=[32]
  .subst d;obtain ⟨f,rfl⟩:∃ g,f=g+1:=⟨f - 1,by simp at a;omega⟩;rw [show [32]++l.flatten=32::l.flatten from rfl,Gr,uo l f (k+1) i (by simp only [sA] at a;omega)];simp [um]
  .rcases h with h|⟨j,C⟩
   .exact absurd h d
   .have e:=K7 x l.flatten j (by simpa using C);obtain ⟨c,r,rfl,m,b,_⟩:=j;obtain ⟨f,rfl⟩:∃ g,f=g+1:=⟨f - 1,by simp at a;omega⟩;rw [Gs f c r l.flatten k m e b,uo l f _ i (by simp only [gS] at a;omega)];simp [um,d]
def vG.app:∀ {e d:List By} {rest:By},vG e (d.flatten++rest)->vG d rest->vG (e++d) rest
 | [],_,_,_,h=>h
 | x::e,d,rest,⟨h,f⟩,g=>by
  refine ⟨h.imp id λ⟨a,b⟩=>⟨a,λc=>?_⟩,vG.app f g⟩;have:=b c;simpa using this
def TE (t a:By):Prop:=a=t\/∃ d,cT d=true/\t=[d]/\a=[48,48,d]
def TE.word {t a x:By} (h:TE t a) (b:ae x=false) (e:t=x):a=x:=by
 rcases h with h|⟨d,f,c,_⟩
 .rw [h,e]
 .rw [<- e,c] at b;simp [ae,f] at b
def TE.atom {t a:By} (h:TE t a):(∀ k,ij t k->ij a k)/\ej a=ej t/\fw a=fw t:=by
 rcases h with rfl|⟨d,e,rfl,rfl⟩
 .exact ⟨λk h=>h,rfl,rfl⟩
 .have c:ae [d]=true:=by simp [ae,e]
  have b:ae [48,48,d]=true:=by simp [ae];decide
  refine ⟨λk h=>?_,?_,?_⟩
  .rcases h with ⟨_,h⟩|⟨h,_⟩|⟨h,_⟩|h
   .exact zR ⟨b,h⟩
   .rw [c] at h;cases h
   .cases h
   .exfalso;simp only [eb,bQ,jA,iK,mI] at h;have:cT d=false:=by
     rcases h with ⟨h,_⟩|⟨h,_⟩|⟨h,_⟩|⟨h,_⟩|⟨h,_⟩|⟨h,_⟩|⟨h,_⟩|⟨h,_⟩|⟨h,_⟩|⟨h,_⟩|⟨h,_⟩|⟨h,_⟩|⟨h,_⟩|⟨h,_⟩|⟨h,_⟩|⟨h,_⟩<;>simp at h<;>subst h<;>decide
    rw [e] at this;cases this
  .simp [ej,c,b]
  .simp [fw,c,b,cR]
def It (n:Nat) (t:By) (h:b5 t (dc n)=true):ae t=false:=by
 unfold dc at h;split at h<;>simp only [b5,pF,bQ,jA,iK] at h
 .rw [h];decide
 .rw [h];decide
 .rcases h with h|h<;>rw [h]<;>decide
 .rcases h with h|h<;>rw [h]<;>decide
 .rcases h with h|h|h<;>rw [h]<;>decide
def bh.like {K ts':List (By × Nat)} {n i j:Nat} {p:Pt} (h:bh K n i j p):∀ s,(∀ k,i<=k->k<j->TE (aw K k) (aw ts' (k+s)))->j+s<=G ts'->bh ts' n (i+s) (j+s) p:=by
 induction h with
 | atom i k Q5 V H=>
  intro s P T;obtain ⟨C,E,F⟩:=(P i (aG _) (by omega)).atom;have:=bh.atom (K:=ts') (i+s) k (by omega) (C k V) H;rw [E,F] at this;rw [show i+1+s=i+s+1 by omega];exact this
 | jV i j a g f U=>
  intro s P T;have d:=f.lt;refine .jV _ _ _ ((P i (aG _) (by omega)).word (by decide) g) ?_;have:=U s (λk R S=>P k (by omega) S) T;rw [show i+s+1=i+1+s by omega];exact this
 | neg i j a g f U=>
  intro s P T;have d:=f.lt;refine .neg _ _ _ ((P i (aG _) (by omega)).word (by decide) g) ?_;have:=U s (λk R S=>P k (by omega) S) T;rw [show i+s+1=i+1+s by omega];exact this
 | br i j a g f x U=>
  intro s P T;have d:=f.lt;rw [show j+1+s=j+s+1 by omega];refine .br _ _ _ ((P i (aG _) (by omega)).word (by decide) g) ?_ ((P j (by omega) (by omega)).word (by decide) x);have:=U s (λk R S=>P k (by omega) (by omega)) (by omega);rw [show i+s+1=i+1+s by omega];exact this
 | ifs i l m t a b h1 t1 t2 R t3 S t4 L t5 q w r=>
  intro s P T;have N:=R.lt;have M:=S.lt;have O:=L.lt;have Y:=q s (λk R S=>P k (by omega) (by omega)) (by omega);have y:=w s (λk R S=>P k (by omega) (by omega)) (by omega);have W:=r s (λk R S=>P k (by omega) (by omega)) (by omega);rw [show i+1+1+s=i+s+1+1 by omega] at Y;rw [show l+1+s=l+s+1 by omega] at y;rw [show m+1+s=m+s+1 by omega] at W;rw [show t+1+s=t+s+1 by omega];refine .ifs _ (l+s) (m+s) _ _ _ _ ((P i (aG _) (by omega)).word (by decide) t1) ?_ Y ((P l (by omega) (by omega)).word (by decide) t3) y ((P m (by omega) (by omega)).word (by decide) t4) W ((P t (by omega) (by omega)).word (by decide) t5);rw [show i+s+1=i+1+s by omega];exact (P (i+1) (by omega) (by omega)).word (by decide) t2
 | up n i j a R v _ U=>
  intro s P T;exact .up _ _ _ _ R v (U s P T)
 | more n i j c k a b R v Z z V D o u=>
  intro s P T;have hs:=Z.lt;have lb:=D.lt;have e:=(P j (by omega) (by omega)).word (It n _ z) rfl;refine .more n (i+s) (j+s) (c+s) k a b R v (o s (λk R S=>P k R (by omega)) (by omega)) (by rw [e];exact z) (by rw [e];exact V) ?_;have:=u s (λk R S=>P k (by omega) S) T;rw [show j+s+1=j+1+s by omega];exact this
def z0 (T:List By):List (By × Nat):=T.map λt=>(t,0)
def Di (K:List (By × Nat)) (i:Nat):aw K i=(K.map Prod.fst).getD i []:=by
 unfold aw;rw [lC,kn];cases K[i]?<;>rfl
def jF (T:List By) (i:Nat):aw (z0 T) i=T.getD i []:=by
 rw [Di];congr 1;rw [z0,fM];exact List.map_id' T
def RM (T:List By):(z0 T).length=G T:=by simp [z0]
def oC (a b:List By) (k:Nat) (h:G a<=k):(a++b).getD k []=b.getD (k - G a) []:=by
 rw [lC,lC,qx h]
def Iv (a b:List By) (k:Nat) (h:k<G a):(a++b).getD k []=a.getD k []:=by
 rw [lC,lC,sy h]
def bh.sub {T:List By} {n:Nat} {p:Pt} (h:bh (z0 T) n 0 (G T) p) (a C:List By):bh (z0 (a++T++C)) n (G a) (G a+G T) p:=by
 have:=h.like (ts':=z0 (a++T++C)) (G a) (λk _ b=>zR ?_) (by rw [RM];simp;omega)
 .rw [cS,mP (G T)] at this;exact this
 .rw [jF,jF,kI,oC _ _ _ (by omega),Iv _ _ _ (by omega),Nat.add_sub_cancel]
def Bg {c:UInt8} (h:fF c=true):cT c=false:=by
 simp only [fF,jK,pG] at h;simp only [cT,dm,decide_eq_false_iff_not];omega
def GI (x:By):Prop:=x=[32]\/b5 x iV=true\/(∃ d,x=[d]/\cT d=true)\/(x≠[]/\(∀ y,y∈x->fF y=true)/\G x<=6)\/(∃ d,x=[102,d]/\cT d=true)
def GI.ti {x:By} (h:GI x) (i:x≠[32]):TI x:=by
 rcases h with h|h|⟨d,rfl,b⟩|⟨f,e,g⟩|⟨d,rfl,b⟩
 .exact absurd h i
 .simp only [b5,iV,pF,bQ,jA,iK] at h;rcases h with rfl|rfl|rfl|rfl|rfl|rfl|rfl|rfl|rfl|rfl<;>exact ⟨_,[],rfl,by decide,by decide,λ_ y C=>(by simp at C),λ_ _ y C=>(by simp at C),λ_ _=>rfl⟩
 .refine ⟨d,[],rfl,?_,?_,λ_ y C=>(by simp at C),λ_ _ y C=>(by simp at C),λ_ _=>rfl⟩
  .rintro rfl;revert b;decide
  .have:=d.toNat_lt;simp [di,ae,b,cR,gP];omega
 .obtain ⟨c,r,rfl⟩:∃ c r,x=c::r:=by
   cases x with
   | nil=>exact absurd rfl f
   | cons c r=>exact ⟨c,r,rfl⟩
  have a:=e c (by simp);refine ⟨c,r,rfl,?_,?_,λ_ y C=>Is (e y (by simp [C])),λh=>?_,λh=>?_⟩
  .rintro rfl;revert a;decide
  .simp only [gS] at g;simp [di,ae,j6,a,Bg a];omega
  .rw [a] at h;cases h
  .rw [a] at h;cases h
 .refine ⟨102,[d],rfl,by decide,?_,λ_ y C=>?_,λh=>?_,λh=>?_⟩
  .simp [di,ae,j6,show fF 102=true by decide,show cT 102=false by decide]
  .simp at C;rw [C];exact R7 b
  .exact absurd h (by decide)
  .exact absurd h (by decide)
def MF (p:Pt):Prop:=∀ x,aC x p=true->∃ d,cT d=true/\x=[102,d]
def RI (n:Nat) (s:By) (m:Nat):Prop:=∃ (a:List By) (p:Pt),a.flatten=s/\(∀ x,x∈a->GI x)/\(∀ rest,Dh rest->vG a rest)/\bh (z0 (bB a)) n 0 (bB a).length p/\ai p=s/\opn p<=m/\MF p
def dd (n:Nat) (s:By) (m:Nat) (p:Pt):Prop:=∃ a:List By,a.flatten=s/\(∀ x,x∈a->GI x)/\(∀ rest,Dh rest->vG a rest)/\bh (z0 (bB a)) n 0 (bB a).length p/\ai p=s/\opn p<=m
def dd.ri {n m:Nat} {s:By} {p:Pt} (h:dd n s m p) (i:MF p):RI n s m:=by
 obtain ⟨g,a,b,c,d,e,f⟩:=h;exact ⟨g,p,a,b,c,d,e,f,i⟩
def p6 (c:UInt8) (r:By) (h:iO c=false):Dh (c::r):=zZ ⟨c,r,rfl,h⟩
def dd.one (x:By) (k:Nat) (D:GI x) (C:x≠[32]) (E:ij x k) (F:k=1\/k=2\/k=7\/k=8) (L:ai (.atom k (ej x) (fw x))=x):dd 6 x 0 (.atom k (ej x) (fw x)):=by have e:bB [x]=[x]:=(by simp [bB,C]);refine ⟨[x],(by simp),λy M=>by rw [iB.1 M];exact D,λrest H=>⟨zZ ⟨D.ti C,λ_=>by simpa using H⟩,trivial⟩,?_,L,aG _⟩;rw [e];exact .atom (K:=z0 [x]) 0 k (by simp [z0]) E F
def RI.one (x:By) (k:Nat) (d:GI x) (a:x≠[32]) (f:ij x k) (c:k=1\/k=2\/k=7\/k=8) (b:ai (.atom k (ej x) (fw x))=x) (e:MF (.atom k (ej x) (fw x))):RI 6 x 0:=(dd.one x k d a f c b).ri e
def dl:GI [40]:=zZ (zR (by decide))
def dq:GI [41]:=zZ (zR (by decide))
def dr:GI [44]:=zZ (zR (by decide))
def jM:GI [45]:=zZ (zR (by decide))
def b4:GI [32]:=zR rfl
def jP:GI [105,102]:=zZ (zZ (zZ (zR ⟨(by simp),by decide,by simp⟩)))
def kb:GI [110,111,116]:=zZ (zZ (zZ (zR ⟨(by simp),by decide,by simp⟩)))
def RI.bool (k:Nat) (b:k<2):RI 6 (Bm [[116,114,117,101],[102,97,108,115,101]] k) 0:=by
 rcases (show k=0\/k=1 by omega) with rfl|rfl
 .refine RI.one [116,114,117,101] 7 (zZ (zZ (zZ (zR ⟨(by simp),by decide,by simp⟩)))) (by decide) (zZ (zZ (zZ (by decide)))) (by omega) (by decide) ?_;intro x a;simp [aC] at a
 .refine RI.one [102,97,108,115,101] 8 (zZ (zZ (zZ (zR ⟨(by simp),by decide,by simp⟩)))) (by decide) (zZ (zZ (zZ (by decide)))) (by omega) (by decide) ?_;intro x a;simp [aC] at a
def Ix {x:By} (h:x≠[]/\(∀ y,y∈x->fF y=true)/\G x<=6):GI x:=zZ (zZ (zZ (zR h)))
def IF {x:By} (h:b5 x iV=true):GI x:=zZ (zR h)
def ke {x:By} {k:Nat} (h:(x,k)∈eb):ij x k:=zZ (zZ (zZ h))
def QG {n k:Nat} {op:By} (b:1<=n) (c:n<=5) (hs:b5 op (dc n)=true) (a:ij op k):GI op/\op≠[32]/\lL k=32::op++[32]/\iP k=[]/\jO k=[]/\k≠1:=by
 rcases (show n=1\/n=2\/n=3\/n=4\/n=5 by omega) with rfl|rfl|rfl|rfl|rfl<;>simp only [dc,b5,pF,bQ,jA,iK] at hs
 all_goals first|(rcases hs with rfl|rfl|rfl)|(rcases hs with rfl|rfl)|subst hs
 all_goals rcases a with ⟨h,_⟩|⟨_,h,_⟩|⟨h,_⟩|h
 all_goals first|exact absurd h (by decide)|(simp [eb] at h;subst h;exact ⟨by first|exact IF (by decide)|exact Ix ⟨(by simp),by decide,by simp⟩,by decide,by decide⟩)
end Go.Proofs.YtihgojcfpnhelaaGreatDoor
