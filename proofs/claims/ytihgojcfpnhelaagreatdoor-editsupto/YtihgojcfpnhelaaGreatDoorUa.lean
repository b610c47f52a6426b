import Derived.Test.YtihgojcfpnhelaaGreatDoorMw
set_option maxRecDepth 100000
set_option maxHeartbeats 4000000
set_option linter.all false
namespace Go.Proofs.YtihgojcfpnhelaaGreatDoor
open Go renaming World->zW,Value->zV,Calls->zC,Addr->zD
open Go.RowKit Go.Proofs.Tryz
open List renaming length→G
def UI (r:zV) (p:Pt) (a:Option zD) (n c:Nat) (w:zW) (q:Nat->Pt) (A:Nat->Option zD) (L C:Nat->Nat) (v:Nat->Vl) (hn:n=2) (hK:ib w a n q A L C) (hV:kG r w n q A L C v) :
  zC prog 247 #[.agg #[bH r],.agg #[zI p.k,zG p.nm,zI p.n,.slice a n c]] w (dx (fR p.k (v 0) (v 1)) w):=by
 subst hn;obtain ⟨g,rfl,G,c0,c1,c2,c3⟩:=hK 0 ae;obtain ⟨g',GU,_,d0,d1,d2,d3⟩:=hK 1 ae;obtain rfl:g=g':=Cq;rw [jC] at c0 c1 c2 c3;rw [mQ] at d0 d1 d2 d3;have HV:=I hV;have wR:(0:Int)<((2:Nat):Int):=ae;have hn2:(1:Int)<((2:Nat):Int):=ae;obtain ⟨W4,lX⟩:∃ W4,W4=(((w.alloc (.cells #[bH r] 306)).alloc (.cells #[zI p.k,zG p.nm,zI p.n,zS g 2 c] 87)).alloc (.cells #[zI 0,zI 0] 177)):=⟨_,rfl⟩;have Q:W4.heap.size=w.heap.size+1+1+1:=G6;have l:zB w W4:=aaU;have r0:W4.heap[w.heap.size]?=some (.cells #[bH r] 306 (0,0)):=X6;have r2:W4.heap[w.heap.size+1]?=some (.cells #[zI p.k,zG p.nm,zI p.n,zS g 2 c] 87 (0,0)):=YL;have r3:W4.heap[w.heap.size+1+1]?=some (.cells #[zI 0,zI 0] 177 (0,0)):=by
  rw [lX];exact fZ w _ _ _ _
 have C0:=(l.cell (p:=⟨g,0,none⟩) G).t c0;have C1:=(l.cell (p:=⟨g,0+1,none⟩) G).t c1;have C2:=(l.cell (p:=⟨g,0+2,none⟩) G).t c2;have C3:=(l.cell (p:=⟨g,0+3,none⟩) G).t c3;rw [cS] at C1 C2 C3;obtain ⟨i0,_,_⟩:=Aq r0;obtain ⟨⟨_,_,_,i2⟩,_,_⟩:=aX r2;have S:=I l;have HR:=I (And.intro r0 (And.intro r2 r3));have T:=I lX;have hg4:g<W4.heap.size:=ae;have hx0:w.heap.size<W4.heap.size:=ae;have M:w.heap.size+1<W4.heap.size:=ae;have O:w.heap.size+1+1<W4.heap.size:=ae;clear hK hV GU;have P:=I (show zC prog 220 #[.agg #[bH r],.agg #[zI ((q 0).k:Int),.string ⟨((q 0).nm).toArray⟩,zI ((q 0).n:Int),.slice (A 0) (L 0) (C 0)]] W4.drew λe w1=>e=.returned (.agg #[zI (v 0).1,zI (v 0).2])/\zB W4 w1 from
  ((HV.o.next (w':=W4.drew) l.drew) 0 ae _ (aM _ _)).m λe w1 h=>⟨h.1,(aM _ _).drew.t h.2⟩)
 have X:=I (show zC prog 220 #[.agg #[bH r],.agg #[zI ((q 0).k:Int),.string ⟨((q 0).nm).toArray⟩,zI ((q 0).n:Int),.slice (A 0) (L 0) (C 0)]] (W4.alloc (.cells #[zI 0,zI 0] 177)).drew λe w1=>e=.returned (.agg #[zI (v 0).1,zI (v 0).2])/\zB W4 w1/\w1.heap[W4.heap.size]?=some (.cells #[zI 0,zI 0] 177 (0,0)) from
  ((HV.o.next (w':=(W4.alloc (.cells #[zI 0,zI 0] 177)).drew) (l.alloc l.size _).drew) 0 ae _ (aM _ _)).m λe w1 h=>⟨h.1,(bZ _).drew.t (h.2.m Zu),(h.2.block W4.heap.size Zv).t (bL W4 _)⟩)
 go_in
 go_upto_region 1 with fail
 rw [<- T.o];have HS4:=I Q;clear lX T r0 r2 r3 Q l
 go_cut [5] (λs7 wc=>∃ gF,s7=zJ gF/\W4.heap.size<=gF/\Hid (zB W4 wc)/\wc.heap[gF]?=some (.cells #[zI (v 0).1,zI (v 0).2] 177 (0,0)))
 case first=>
  go_region_with (first|(go_at_call 220;refine P.o.m ?_;rintro e w1 ⟨rfl,b⟩;have F:=I b;clear b)|(go_at_call 220;refine X.o.m ?_;rintro e w1 ⟨rfl,b,hF⟩;obtain ⟨⟨y0,y1⟩,⟨z0,z1⟩,K⟩:=cq hF;have F:=I b;have B2:=I hF;clear b hF))
  all_goals (go_wp2_with fail;go_meet;first|exact ⟨_,rfl,F.o.size,F.o.alloc F.o.size _,bL _ _⟩|exact ⟨_,rfl,aG _,(F.o.setCell (p:=⟨W4.heap.size,0,none⟩) (aG _) _).setCell (p:=⟨W4.heap.size,1,none⟩) (aG _) _,yC B2.o _ _⟩)
 case rest=>
 generalize wc=j at *;obtain ⟨gF,rfl,hgF,o,hF⟩:=hcut;obtain ⟨R0,R2,R3⟩:=HR.o;have ag0:=o.o.size;obtain ⟨⟨x0,x1⟩,_,K⟩:=cq hF;obtain ⟨i0',_,_⟩:=Aq ((o.o.block _ hx0).t R0);obtain ⟨⟨jk,_,_,j2⟩,_,_⟩:=aX ((o.o.block _ M).t R2);obtain ⟨⟨k0,k1⟩,⟨f0,f1⟩,Y⟩:=cq ((o.o.block _ O).t R3);have JU:=I ((o.o.block _ O).t R3);have wO:=I (S.o.t (o.o.m S.o.size));have e0:=(wO.o.cell (p:=⟨g,4,none⟩) G).t d0;have e1:=(wO.o.cell (p:=⟨g,5,none⟩) G).t d1;have e2:=(wO.o.cell (p:=⟨g,6,none⟩) G).t d2;have e3:=(wO.o.cell (p:=⟨g,7,none⟩) G).t d3;have V:=I (show zC prog 220 #[.agg #[bH r],.agg #[zI ((q 1).k:Int),.string ⟨((q 1).nm).toArray⟩,zI ((q 1).n:Int),.slice (A 1) (L 1) (C 1)]] j.drew λe w1=>e=.returned (.agg #[zI (v 1).1,zI (v 1).2])/\zB j w1 from
  ((HV.o.next (w':=j.drew) wO.o.drew) 1 ae _ (aM _ _)).m λe w1 h=>⟨h.1,(aM _ _).drew.t h.2⟩)
 have N:=I (show zC prog 220 #[.agg #[bH r],.agg #[zI ((q 1).k:Int),.string ⟨((q 1).nm).toArray⟩,zI ((q 1).n:Int),.slice (A 1) (L 1) (C 1)]] (j.alloc (.cells #[zI 0,zI 0] 177)).drew λe w1=>e=.returned (.agg #[zI (v 1).1,zI (v 1).2])/\zB j w1/\w1.heap[j.heap.size]?=some (.cells #[zI 0,zI 0] 177 (0,0)) from
  ((HV.o.next (w':=(j.alloc (.cells #[zI 0,zI 0] 177)).drew) (wO.o.alloc wO.o.size _).drew) 1 ae _ (aM _ _)).m λe w1 h=>⟨h.1,(bZ _).drew.t (h.2.m (by show j.heap.size<=(j.alloc _).heap.size;simp)),(h.2.block j.heap.size (by show j.heap.size<(j.alloc _).heap.size;simp)).t (bL j _)⟩)
 have HI:=I (λk x y W=>P6 k x y W);have HT:=I (λbb W=>lK bb W);have HFa:=I (λn W=>uq n W);have AJ:=I hF;have VZ:=I ((o.o.block _ M).t R2);have hgc:g<j.heap.size:=ae;have arL:w.heap.size<j.heap.size:=ae;have U:w.heap.size+1<j.heap.size:=ae;clear R0 R2 R3 i0 i2 C0 C1 C2 C3 c0 c1 c2 c3 d0 d1 d2 d3 P X hF;generalize hv0:v 0=vf at *;generalize hv1:v 1=vg at *;obtain ⟨i,m⟩:=vf;obtain ⟨bk,bn⟩:=vg;clear hv0 hv1;by_cases t:i=3
 ·have qa:(i == 3)=true:=by simp [t]
  have HU:=I (show fR p.k (i,m) (bk,bn)=(i,m) by unfold fR;rw [aB t]);clear t;go_wp2;refine aK (v:=.agg #[zI i,zI m]) Js rfl ?_;exact WJ
 ·have qa:(i == 3)=false:=bo.2 t;have s:=I t;clear t
  go_upto_region 4 with fail
  go_cut [6] (λs6 wd=>∃ Z,s6=zJ Z/\j.heap.size<=Z/\Hid (zB j wd)/\wd.heap[Z]?=some (.cells #[zI bk,zI bn] 177 (0,0)))
  case first=>
   go_region_with (first|(go_at_call 220;refine V.o.m ?_;rintro e w1 ⟨rfl,b⟩;have F:=I b;clear b)|(go_at_call 220;refine N.o.m ?_;rintro e w1 ⟨rfl,b,hF⟩;obtain ⟨⟨y0,y1⟩,⟨z0,z1⟩,K⟩:=cq hF;have F:=I b;have B2:=I hF;clear b hF))
   all_goals (go_wp2_with fail;go_meet;first|exact ⟨_,rfl,F.o.size,F.o.alloc F.o.size _,bL _ _⟩|exact ⟨_,rfl,aG _,(F.o.setCell (p:=⟨j.heap.size,0,none⟩) (aG _) _).setCell (p:=⟨j.heap.size,1,none⟩) (aG _) _,yC B2.o _ _⟩)
  case rest=>
  obtain ⟨Z,rfl,hgS,D,hG⟩:=hcut;have arM:=D.o.size;obtain ⟨⟨s0,s1⟩,_,hsS⟩:=cq hG;clear x0 x1 k0 k1 f0 f1 jk j2 i0' e0 e1 e2 e3;obtain ⟨⟨x0,x1⟩,_,_⟩:=cq ((D.o.block _ K).t AJ.o);obtain ⟨⟨jk,_,_,_⟩,_,_⟩:=aX ((D.o.block _ U).t VZ.o);have J:=(D.o.block _ Y).t JU.o;obtain ⟨⟨k0,k1⟩,⟨f0,f1⟩,H⟩:=cq J;have HRd:=I J;have B:=I (wO.o.t (D.o.m wO.o.size));clear hG J V N;have iL:=I (show ∀ (u:Vl) w5,zB wc w5->((w5.cell? ⟨w.heap.size+1+1,0,none⟩=some (zI 0)/\w5.cell? ⟨w.heap.size+1+1,1,none⟩=some (zI 0))/\(w5.frozen? ⟨w.heap.size+1+1,0,none⟩=false/\w5.frozen? ⟨w.heap.size+1+1,1,none⟩=false)/\w.heap.size+1+1<w5.heap.size)/\dx u w (.returned (.agg #[zI u.1,zI u.2])) ((w5.setCell ⟨w.heap.size+1+1,0,none⟩ (zI u.1)).setCell ⟨w.heap.size+1+1,1,none⟩ (zI u.2)) from λu w5 hb=>⟨cq ((hb.block _ H).t HRd.o),rfl,dJ (B.o.t (hb.m B.o.size)) _ ae _ _⟩);by_cases d:bk=3
  ·have qb:(bk == 3)=true:=by simp [d]
   have HU:=I (show fR p.k (i,m) (bk,bn)=(bk,bn) by unfold fR;rw [aA s.o,aB d]);clear d;go_wp2;refine aK (v:=.agg #[zI bk,zI bn]) Js rfl ?_;rw [HU.o];exact ⟨rfl,dJ B.o _ ae _ _⟩
  ·have qb:(bk == 3)=false:=bo.2 d;by_cases f:i=1/\bk=1
   ·have qc:(i == 1)=true:=by simp [f.1]
    have qd:(bk == 1)=true:=by simp [f.2]
    have HU:=I (show fR p.k (i,m) (bk,bn)=iX p.k m bn by unfold fR;rw [aA s.o,aA d,aB f]);clear f d;go_wp2_with (go_at_call 259;refine mo (HI.o p.k m bn _) ?_;rintro e w5 ⟨rfl,rG⟩);clear k0 k1 f0 f1;obtain ⟨⟨⟨k0,k1⟩,⟨f0,f1⟩,hs5⟩,zL⟩:=iL.o (iX p.k m bn) _ rG;have HE:=I zL;clear zL rG;generalize z:iX p.k m bn=R at *;have HVV:=I z;clear z;apply I;go_wp2;refine aK (v:=.agg #[zI R.1,zI R.2]) Js rfl ?_;rw [HU.o];exact HE.o
   ·by_cases h1:i=1
    ·have b:bk≠1:=λh=>f ⟨h1,h⟩;have qc:(i == 1)=true:=yN;have qd:(bk == 1)=false:=bo.2 b;have qe:(i == bk)=false:=bo.2 ae;have HU:=I (show fR p.k (i,m) (bk,bn)=(3,2) by unfold fR;rw [aA s.o,aA d,aA f,aA (λh=>b (h.1.symm.t h1))];rfl);clear f d h1 b;exact Mu
    ·have qc:(i == 1)=false:=bo.2 h1;by_cases he:i=bk
     ·have qe:(i == bk)=true:=rh;by_cases E:p.k=18
      ·have qf:((p.k:Int) == 18)=true:=by simp [E]
       have HU:=I (show fR p.k (i,m) (bk,bn)=bD (m == bn) by unfold fR;rw [aA s.o,aA d,aA f,aB ⟨he,E⟩]);clear f d h1 he E;go_wp2_with (go_at_call 241;refine mo (HT.o (m == bn) _) ?_;rintro e w5 ⟨rfl,rG⟩);clear k0 k1 f0 f1;obtain ⟨⟨⟨k0,k1⟩,⟨f0,f1⟩,hs5⟩,zL⟩:=iL.o (bD (m == bn)) _ rG;have HE:=I zL;clear zL rG;generalize z:bD (m == bn)=R at *;have HVV:=I z;clear z;apply I;go_wp2;refine aK (v:=.agg #[zI R.1,zI R.2]) Js rfl ?_;rw [HU.o];exact HE.o
      ·have qf:((p.k:Int) == 18)=false:=bo.2 ae;have HU:=I (show fR p.k (i,m) (bk,bn)=(3,2) by unfold fR;rw [aA s.o,aA d,aA f,aA (λh=>E h.2)];rfl);clear f d h1 he E;exact Mu
     ·have qe:(i == bk)=false:=bo.2 he;have HU:=I (show fR p.k (i,m) (bk,bn)=(3,2) by unfold fR;rw [aA s.o,aA d,aA f,aA (λh=>he h.1)];rfl);clear f d h1 he;exact Mu
section
section
section
variable {ts:List (By × Nat)}
def Fo (ts:List (By × Nat)) (n j:Nat):Prop:=∀ m,n<=m->m<=5->b5 (aw ts j) (dc m)=false
def Fo.up {n j:Nat} (h:Fo ts n j):Fo ts (n+1) j:=λm b a=>h m ae a
def Qc (n m:Nat) (c:1<=n) (d:n<m) (e:m<=5) (t:By) (h:b5 t (dc n)=true):b5 t (dc m)=false:=by
 have a:n=1\/n=2\/n=3\/n=4:=ae;have b:m=2\/m=3\/m=4\/m=5:=ae;simp only [b5,pF] at h;rcases a with rfl|rfl|rfl|rfl<;>simp only [dc,bQ,jA,iK] at h<;>rcases b with rfl|rfl|rfl|rfl<;>first|(exfalso;omega)|(subst h;decide)|(rcases h with rfl|rfl<;>decide)
def Fo.dc {n j:Nat} (h:b5 (aw ts j) (dc n)=true) (b:1<=n):Fo ts (n+1) j:=λm c a=>Qc n m b ae a _ h
def r8 {j:Nat} (x:By) (n:Nat) (k:1<=n) (h:aw ts j=x) (a:b5 x (Go.Proofs.YtihgojcfpnhelaaGreatDoor.dc 1)=false/\b5 x (Go.Proofs.YtihgojcfpnhelaaGreatDoor.dc 2)=false/\b5 x (Go.Proofs.YtihgojcfpnhelaaGreatDoor.dc 3)=false/\b5 x (Go.Proofs.YtihgojcfpnhelaaGreatDoor.dc 4)=false/\b5 x (Go.Proofs.YtihgojcfpnhelaaGreatDoor.dc 5)=false):Fo ts n j:=by
 intro m b i;rw [h];obtain ⟨f,c,g,e,d⟩:=a;rcases (show m=1\/m=2\/m=3\/m=4\/m=5 from ae) with rfl|rfl|rfl|rfl|rfl<;>assumption
def oy (t:By) (k c:Nat) (h:ij t k) (a:ij t c):k=c:=by
 have b:∀ y,y∈eb->headD y.1=false/\bm y.1=false/\y.1≠[]:=ai;rcases h with ⟨h,rfl⟩|⟨d,h,rfl⟩|⟨rfl,rfl⟩|h
 ·rcases a with ⟨_,rfl⟩|⟨g,_,rfl⟩|⟨rfl,rfl⟩|g
  ·rfl
  ·rw [h] at g;cases g
  ·cases h
  ·have:=(b _ g).1;rw [h] at this;cases this
 ·rcases a with ⟨g,rfl⟩|⟨_,_,rfl⟩|⟨rfl,rfl⟩|g
  ·rw [d] at g;cases g
  ·rfl
  ·cases h
  ·have:=(b _ g).2.1;rw [h] at this;cases this
 ·rcases a with ⟨g,rfl⟩|⟨_,g,rfl⟩|⟨_,rfl⟩|g
  ·cases g
  ·cases g
  ·rfl
  ·exact absurd rfl (b _ g).2.2
 ·exact ((cQ t k h t c a).2 rfl).symm
inductive Ch (ts:List (By × Nat)) (n:Nat):Nat->Pt->Nat->Pt->Prop
 | nil (j:Nat) (a:Pt):Ch ts n j a j a
 | cons (j j1 j2 k:Nat) (a b p:Pt):b5 (aw ts j) (dc n)=true->ij (aw ts j) k->bh ts (n+1) (j+1) j1 b->Ch ts n j1 (.bin k a b) j2 p->Ch ts n j a j2 p
def Ch.snoc {n i j e k:Nat} {a p b:Pt} (h:Ch ts n i a j p) (c:b5 (aw ts j) (Go.Proofs.YtihgojcfpnhelaaGreatDoor.dc n)=true) (d:ij (aw ts j) k) (f:bh ts (n+1) (j+1) e b):Ch ts n i a e (.bin k p b):=by
 induction h with
 | nil j a=>exact .cons _ _ _ _ _ _ _ c d f (.nil _ _)
 | cons s r u q w v t g l o _ m=>exact .cons _ _ _ _ _ _ _ g l o (m c d f)
def Ch.le {n i j:Nat} {a p:Pt} (h:Ch ts n i a j p):i<=j:=by
 induction h with
 | nil=>exact aG _
 | cons k f m c q o l d e b _ g=>have:=b.lt;omega
def bh.level {n i j:Nat} {p:Pt} (h:bh ts n i j p):1<=n/\n<=6:=by
 cases h<;>omega
def bh.chain {n i j:Nat} {p:Pt} (h:bh ts n i j p):n<=5->n≠3->∃ d e,bh ts (n+1) i d e/\Ch ts n d e j p:=by
 induction h with
 | atom=>intro h;omega
 | jV=>intro _ h;exact absurd rfl h
 | neg=>intro h;omega
 | br=>intro h;omega
 | ifs=>intro h;omega
 | up n i j a l f h s=>intro _ _;exact ⟨j,a,h,.nil _ _⟩
 | more n i j t k a b l f u hs r q c _=>
  intro _ g;rw [aA g] at c;obtain ⟨d,e,m,o⟩:=c f g;exact ⟨d,e,m,o.snoc hs r q⟩
def bh.three {i j:Nat} {p:Pt} (h:bh ts 3 i j p):(aw ts i=[110,111,116]/\∃ a,p=.un 6 a/\bh ts 3 (i+1) j a)\/bh ts 4 i j p\/(∃ c k a b,p=.bin k a b/\bh ts 4 i c a/\b5 (aw ts c) (Go.Proofs.YtihgojcfpnhelaaGreatDoor.dc 3)=true/\ij (aw ts c) k/\bh ts 4 (c+1) j b):=by
 cases h with
 | jV _ _ a d e=>exact Or.inl ⟨d,a,rfl,e⟩
 | up _ _ _ _ _ _ h=>exact Or.inr (Or.inl h)
 | more _ _ c _ k a b _ _ l hs g f=>exact Or.inr (Or.inr ⟨c,k,a,b,rfl,l,hs,g,f⟩)
def bh.Ld {i j:Nat} {p:Pt} (h:bh ts 6 i j p):(∃ k,ij (aw ts i) k/\(k=1\/k=2\/k=7\/k=8)/\j=i+1/\p=.atom k (ej (aw ts i)) (fw (aw ts i)))\/(aw ts i=[45]/\∃ a,p=.un 14 a/\bh ts 6 (i+1) j a)\/(aw ts i=[40]/\∃ f a,j=f+1/\p=.un 9 a/\bh ts 1 (i+1) f a/\aw ts f=[41]) \/
  (aw ts i=[105,102]/\∃ e l g a b c,j=g+1/\p=.ifs a b c/\bh ts 1 (i+1+1) e a/\aw ts e=[44]/\bh ts 1 (e+1) l b/\aw ts l=[44]/\bh ts 1 (l+1) g c/\aw ts g=[41]):=by
 cases h with
 | atom _ k _ s v=>exact Or.inl ⟨k,s,v,rfl,rfl⟩
 | neg _ _ a d m=>exact Or.inr (Or.inl ⟨d,a,rfl,m⟩)
 | br _ f a d m o=>exact Or.inr (Or.inr (Or.inl ⟨d,f,a,rfl,rfl,m,o⟩))
 | ifs _ e l g a b c d _ o t n u q r=>exact Or.inr (Or.inr (Or.inr ⟨d,e,l,g,a,b,c,rfl,rfl,o,t,n,u,q,r⟩))
 | up _ _ _ _ _ n=>omega
 | more _ _ _ _ _ _ _ _ n=>omega
def bh.start {n i j:Nat} {p:Pt} (h:bh ts n i j p):4<=n->aw ts i≠[110,111,116]:=by
 induction h with
 | atom i k _ f r=>intro _ h;have:=(cQ _ 6 ai _ k f).2 h;omega
 | jV=>intro h;omega
 | neg i j a h=>intro _ g;rw [h] at g;cases g
 | br i j a h=>intro _ g;rw [h] at g;cases g
 | ifs i m q o a b c h=>intro _ g;rw [h] at g;cases g
 | up n i j a e l _ d=>intro h;exact d ae
 | more n i j s k a b e l _ _ _ _ d _=>intro h;rw [aA ae] at d;exact d h
def Ch.uniq {n i J j:Nat} {a p:Pt} (z:1<=n) (U:∀ s e o b v,i<s->e<=J->bh ts (n+1) s e b->bh ts (n+1) s o v->Fo ts (n+1) e->Fo ts (n+1) o->e=o/\b=v) {s:Nat} (h:Ch ts n s a j p):i<=s->j<=J->∀ {f:Nat} {l:Pt},Ch ts n s a f l->Fo ts n j->Fo ts n f->n<=5->j=f/\p=l:=by
 induction h with
 | nil s a=>
  intro _ _ f l q m _ g;cases q with
  | nil=>exact ⟨rfl,rfl⟩
  | cons _ _ _ _ _ _ _ d=>rw [m n (aG _) g] at d;cases d
 | cons s C K k a b p d B y x D=>
  intro N E f l q m c g;cases q with
  | nil=>rw [c n (aG _) g] at d;cases d
  | cons _ t _ M _ v _ L F A w=>
   have f1:Fo ts (n+1) C:=by
    cases x with
    | nil=>exact m.up
    | cons _ _ _ _ _ _ _ u=>exact Fo.dc u z
   have r:Fo ts (n+1) t:=by
    cases w with
    | nil=>exact c.up
    | cons _ _ _ _ _ _ _ u=>exact Fo.dc u z
   have H:=x.le;have G:=y.lt;obtain ⟨rfl,rfl⟩:=U _ _ _ _ _ ae ae y A f1 r;obtain rfl:=oy _ _ _ B F;exact D ae E w m c g
def Ch.head {n i j:Nat} {a p:Pt} (h:Ch ts n i a j p) (d:1<=n) (b:Fo ts n j):Fo ts (n+1) i:=by
 cases h with
 | nil=>exact b.up
 | cons _ _ _ _ _ _ _ c=>exact Fo.dc c d
def bh.acG:∀ (M n i j:Nat) (p:Pt) (w:Nat) (E:Pt),(j - i)*8+(7 - n)<=M->bh ts n i j p->bh ts n i w E->Fo ts n j->Fo ts n w->j=w/\p=E
 | 0,n,i,j,p,w,E,X,h,_,_,_=>by have:=h.level;have:=h.lt;omega
 | M+1,n,i,j,p,w,E,X,h,y,z,m=>by
  have t:=bh.acG M;have D:=h.level;have hlt:=h.lt;by_cases Z:n=6
  ·subst Z;rcases h.Ld with ⟨k,hc,hk,rfl,rfl⟩|⟨q,a,rfl,l⟩|⟨q,B,a,rfl,rfl,l,T⟩|⟨q,j1,j2,j3,a,b,c,rfl,rfl,l,e1,A,e2,hc,e3⟩
   ·have n1:=cQ [45] 13 ai _ k hc;have U:=cQ [40] 9 ai _ k hc;have n3:=cQ [105,102] 3 ai _ k hc;rcases y.Ld with ⟨x,hc',C,rfl,rfl⟩|⟨d,_⟩|⟨d,_⟩|⟨d,_⟩
    ·exact Y8
    ·have:=n1.2 d;omega
    ·have:=U.2 d;omega
    ·have:=n3.2 d;omega
   ·rcases y.Ld with ⟨x,hc',C,rfl,rfl⟩|⟨d,r,rfl,g⟩|⟨d,_⟩|⟨d,_⟩
    ·have:=(cQ [45] 13 ai _ x hc').2 q;omega
    ·have:=l.lt;obtain ⟨rfl,rfl⟩:=t 6 (i+1) j a w r ae l g z m;exact ⟨rfl,rfl⟩
    ·rw [q] at d;cases d
    ·rw [q] at d;cases d
   ·rcases y.Ld with ⟨x,hc',C,rfl,rfl⟩|⟨d,_⟩|⟨d,o,r,rfl,rfl,g,Q⟩|⟨d,_⟩
    ·have:=(cQ [40] 9 ai _ x hc').2 q;omega
    ·rw [q] at d;cases d
    ·have:=l.lt;obtain ⟨rfl,rfl⟩:=t 1 (i+1) B a o r ae l g (r8 _ 1 (aG _) T ai) (r8 _ 1 (aG _) Q ai);exact ⟨rfl,rfl⟩
    ·rw [q] at d;cases d
   ·rcases y.Ld with ⟨x,hc',C,rfl,rfl⟩|⟨d,_⟩|⟨d,_⟩|⟨d,j1',j2',j3',r,F,c',rfl,rfl,g,R,u,P,hc',O⟩
    ·have:=(cQ [105,102] 3 ai _ x hc').2 q;omega
    ·rw [q] at d;cases d
    ·rw [q] at d;cases d
    ·have:=l.lt;have:=A.lt;have:=hc.lt;obtain ⟨rfl,rfl⟩:=t 1 _ _ _ _ _ ae l g (r8 _ 1 (aG _) e1 ai) (r8 _ 1 (aG _) R ai);obtain ⟨rfl,rfl⟩:=t 1 _ _ _ _ _ ae A u (r8 _ 1 (aG _) e2 ai) (r8 _ 1 (aG _) P ai);obtain ⟨rfl,rfl⟩:=t 1 _ _ _ _ _ ae hc hc' (r8 _ 1 (aG _) e3 ai) (r8 _ 1 (aG _) O ai);exact ⟨rfl,rfl⟩
  ·by_cases L:n=3
   ·subst L;rcases h.three with ⟨q,a,rfl,l⟩|l|⟨B,k,a,b,rfl,l,hs,hc,A⟩
    ·rcases y.three with ⟨d,r,rfl,g⟩|g|⟨o,x,r,F,rfl,g,_⟩
     ·have:=l.lt;obtain ⟨rfl,rfl⟩:=t 3 (i+1) j a w r ae l g z m;exact ⟨rfl,rfl⟩
     ·exact absurd q (g.start ae)
     ·exact absurd q (g.start ae)
    ·rcases y.three with ⟨d,r,rfl,g⟩|g|⟨o,x,r,F,rfl,g,v,hc',u⟩
     ·exact absurd d (l.start ae)
     ·exact t 4 i j p w E ae l g z.up m.up
     ·obtain ⟨rfl,rfl⟩:=t 4 i j p o r ae l g z.up (Fo.dc v ae);rw [z 3 ae ae] at v;cases v
    ·have h1:=l.lt;have W:=A.lt;rcases y.three with ⟨d,r,rfl,g⟩|g|⟨o,x,r,F,rfl,g,v,hc',u⟩
     ·exact absurd d (l.start ae)
     ·obtain ⟨rfl,rfl⟩:=t 4 i B a w E ae l g (Fo.dc hs ae) m.up;rw [m 3 ae ae] at hs;cases hs
     ·obtain ⟨rfl,rfl⟩:=t 4 i B a o r ae l g (Fo.dc hs ae) (Fo.dc v ae);obtain ⟨rfl,rfl⟩:=t 4 (B+1) j b w F ae A u z.up m.up;exact Y8
   ·obtain ⟨B,a0,S,N⟩:=h.chain ae L;obtain ⟨o,H,K,G⟩:=y.chain ae L;have h1:=S.lt;have W:=N.le;obtain ⟨rfl,rfl⟩:=t (n+1) i B a0 o H ae S K (N.head D.1 z) (G.head D.1 m);exact N.uniq (i:=i) (J:=j) D.1 (λs e V b F hs T A u f Y=>t (n+1) s e b V F (by have:=A.lt;omega) A u f Y) ae (aG _) G z m ae
def bh.uniq {p a:Pt} (h:bh ts 1 0 (G ts) p) (c:bh ts 1 0 (G ts) a):p=a:=by
 have b:Fo ts 1 (G ts):=r8 [] 1 (aG _) (kV ts _ (aG _)) ai;exact (bh.acG _ 1 0 _ p _ a (aG _) h c b b).2
end
end
end
section
section
def opn:Pt->Nat
 | .atom _ _ _=>0
 | .un _ a=>opn a+1
 | .bin _ a b=>max (opn a) (opn b)
 | .ifs a b c=>max (opn a) (max (opn b) (opn c))+1
def r9 (len:Nat):∀ (n:Nat) (K:List By) (ts:List (By × Nat)) (x:Int × Nat),cF len n K ts=some x->∀ k,cF len (n+k) K ts=some x
 | 0,K,ts,x,h,k=>by simp [cF] at h
 | n+1,[],ts,x,h,k=>by
  rw [show n+1+k=(n+k)+1 from ae];simp only [cF] at h ⊢;exact h
 | n+1,s::K,ts,x,h,k=>by
  rw [show n+1+k=(n+k)+1 from ae];obtain ⟨t,p,a⟩:∃ t p,(ts=[]/\t=[]/\p=len)\/∃ r,ts=(t,p)::r:=by
   match ts with
   | []=>exact ⟨[],len,Or.inl ⟨rfl,rfl,rfl⟩⟩
   | (t,p)::r=>exact ⟨t,p,Or.inr ⟨r,rfl⟩⟩
  rw [cP len n s K ts t p a] at h;rw [cP len (n+k) s K ts t p a];by_cases b:s=fj
  ·rw [aB b] at h ⊢;exact h
  ·rw [aA b] at h ⊢;cases c:dT s t with
   | some m=>
    rw [c] at h;exact r9 len n _ _ x h k
   | none=>
    rw [c] at h;simp only at h ⊢;generalize d:(if s=cE then bm t else decide (t≠[])&&decide (s=t))=q at h ⊢;cases q with
    | true=>exact r9 len n _ _ x h k
    | false=>exact h
section
variable {len:Nat} {ts:List (By × Nat)}
end
end
end
def Dh (s:By):Prop:=s=[]\/∃ c r,s=c::r/\iO c=false
def hLD (x:By):Bool:=j6 x||headD x
def TI (x:By):Prop:=∃ c r,x=c::r/\c≠32/\di x=true/\(fF c=true->∀ y,y∈r->iO y=true)/\(fF c=false->cT c=true->∀ y,y∈r->cT y=true)/\(fF c=false->cT c=false->r=[])
def vG:List By->By->Prop
 | [],_=>True
 | x::l,rest=>(x=[32]\/(TI x/\(hLD x=true->Dh (l.flatten++rest))))/\vG l rest
def um:List By->Nat->List (By × Nat)
 | [],_=>[]
 | x::l,k=>if x=[32] then um l (k+1) else (x,k)::um l (k+G x)
def bB (l:List By):List By:=l.filter λx=>x≠[32]
def zl (l:List By):∀ k,(um l k).map Prod.fst=bB l:=by
 induction l with
 | nil=>intro k;rfl
 | cons x l a=>
  intro k;by_cases h:x=[32]
  ·simp only [um,h,jq,a,bB];simp
  ·simp only [um,h,k8,fL,a,bB];simp [h]
def Ir {p:UInt8->Bool}:∀ (r rest:By),(∀ y,y∈r->p y=true)->(rest=[]\/∃ c t,rest=c::t/\p c=false)->(r++rest).takeWhile p=r
 | [],rest,_,h=>by
  rcases h with rfl|⟨c,t,rfl,h⟩
  ·rfl
  ·simp [h]
 | y::r,rest,a,h=>by
  rw [gT,List.takeWhile_cons,a y aq];simp only [jq];rw [Ir r rest (λz b=>a z (by simp [b])) h]
def afi {c:UInt8} (h:fF c=true):iO c=true:=by
 simp only [fF] at h;simp [iO,AB,h]
def R7 {c:UInt8} (h:cT c=true):iO c=true:=by
 simp only [cT] at h;simp [iO,AB,h]
def K7 (x rest:By) (h:TI x) (e:hLD x=true->Dh rest):rowLen (x++rest)=(G x):=by
 obtain ⟨c,r,rfl,_,_,g,i,k⟩:=h;simp only [gT,rowLen];by_cases a:fF c=true
 ·rw [aB a,Ir r rest (g a)]
  ·simp;omega
  ·exact e (by simp [hLD,j6,a])
 ·have b:fF c=false:=by simpa using a
  rw [aA a];by_cases hD:cT c=true
  ·rw [aB hD,Ir r rest (i b hD)]
   ·simp;omega
   ·rcases e (by simp [hLD,headD,hD]) with rfl|⟨d,t,rfl,f⟩
    ·exact Or.inl rfl
    ·refine Or.inr ⟨d,t,rfl,?_⟩;cases j:cT d with
     | false=>rfl
     | true=>rw [R7 j] at f;cases f
  ·rw [aA hD,k b yI];rfl
def uo:∀ (l:List By) (f k:Nat),vG l []->G l.flatten<=f->bW f l.flatten k=(um l k,none)
 | [],f,k,_,_=>by simp [um,UH]
 | x::l,f,k,⟨h,i⟩,a=>by
  simp only [List.flatten_cons,b6] at a ⊢;by_cases d:x=[32]
  ·subst d;obtain ⟨f,rfl⟩:∃ g,f=g+1:=⟨f - 1,by simp at a;omega⟩;rw [show [32]++l.flatten=32::l.flatten from rfl,aco,uo l f (k+1) i (by simp only [sA] at a;omega)];simp [um]
  ·rcases h with h|⟨j,hn⟩
   ·exact absurd h d
   ·have e:=K7 x l.flatten j Oo;obtain ⟨c,r,rfl,m,b,_⟩:=j;obtain ⟨f,rfl⟩:∃ g,f=g+1:=⟨f - 1,by simp at a;omega⟩;rw [acp f c r l.flatten k m e b,uo l f _ i (by simp only [gS] at a;omega)];simp [um,d]
def vG.app:∀ {e d:List By} {rest:By},vG e (d.flatten++rest)->vG d rest->vG (e++d) rest
 | [],_,_,_,h=>h
 | x::e,d,rest,⟨h,f⟩,g=>by
  refine ⟨h.imp id λ⟨a,b⟩=>⟨a,λc=>?_⟩,vG.app f g⟩;have:=b c;simpa using this
def TE (t a:By):Prop:=a=t\/∃ d,cT d=true/\t=[d]/\a=[48,48,d]
def TE.word {t a x:By} (h:TE t a) (b:headD x=false) (e:t=x):a=x:=by
 rcases h with h|⟨d,f,c,_⟩
 ·rw [h,e]
 ·rw [<- e,c] at b;simp [headD,f] at b
def TE.atom {t a:By} (h:TE t a):(∀ k,ij t k->ij a k)/\ej a=ej t/\fw a=fw t:=by
 rcases h with rfl|⟨d,e,rfl,rfl⟩
 ·exact ⟨λk h=>h,rfl,rfl⟩
 ·have c:headD [d]=true:=by simp [headD,e]
  have b:headD [48,48,d]=true:=by simp [headD];decide
  refine ⟨λk h=>?_,?_,?_⟩
  ·rcases h with ⟨_,h⟩|⟨h,_⟩|⟨h,_⟩|h
   ·exact Or.inl ⟨b,h⟩
   ·rw [c] at h;cases h
   ·cases h
   ·exfalso;simp only [eb,bQ,jA,iK,mI] at h;have:cT d=false:=by
     rcases h with ⟨h,_⟩|⟨h,_⟩|⟨h,_⟩|⟨h,_⟩|⟨h,_⟩|⟨h,_⟩|⟨h,_⟩|⟨h,_⟩|⟨h,_⟩|⟨h,_⟩|⟨h,_⟩|⟨h,_⟩|⟨h,_⟩|⟨h,_⟩|⟨h,_⟩|⟨h,_⟩<;>simp at h<;>subst h<;>decide
    rw [e] at this;cases this
  ·simp [ej,c,b]
  ·simp [fw,c,b,cR]
def acr (n:Nat) (t:By) (h:b5 t (dc n)=true):headD t=false:=by
 unfold dc at h;split at h<;>simp only [b5,pF,bQ,jA,iK] at h
 ·rw [h];decide
 ·rw [h];decide
 ·rcases h with h|h<;>rw [h]<;>decide
 ·rcases h with h|h<;>rw [h]<;>decide
 ·rcases h with h|h|h<;>rw [h]<;>decide
def bh.like {ts ts':List (By × Nat)} {n i j:Nat} {p:Pt} (h:bh ts n i j p):∀ s,(∀ k,i<=k->k<j->TE (aw ts k) (aw ts' (k+s)))->j+s<=G ts'->bh ts' n (i+s) (j+s) p:=by
 induction h with
 | atom i k Q hc H=>
  intro s hs hl;obtain ⟨C,E,F⟩:=(hs i (aG _) ae).atom;have:=bh.atom (ts:=ts') (i+s) k ae (C k hc) H;rw [E,F] at this;rw [show i+1+s=i+s+1 from ae];exact this
 | jV i j a g f ih=>
  intro s hs hl;have d:=f.lt;refine .jV _ _ _ ((hs i (aG _) ae).word ai g) ?_;exact Yk
 | neg i j a g f ih=>
  intro s hs hl;have d:=f.lt;refine .neg _ _ _ ((hs i (aG _) ae).word ai g) ?_;exact Yk
 | br i j a g f x ih=>
  intro s hs hl;have d:=f.lt;rw [show j+1+s=j+s+1 from ae];refine .br _ _ _ ((hs i (aG _) ae).word ai g) ?_ ((hs j ae ae).word ai x);have:=ih s (λk h1 h2=>hs k ae ae) ae;rw [show i+s+1=i+1+s from ae];exact this
 | ifs i l m t a b c t1 t2 h1 t3 h2 t4 L t5 q w r=>
  intro s hs hl;have N:=h1.lt;have M:=h2.lt;have O:=L.lt;have B:=q s (λk h1 h2=>hs k ae ae) ae;have y:=w s (λk h1 h2=>hs k ae ae) ae;have A:=r s (λk h1 h2=>hs k ae ae) ae;rw [show i+1+1+s=i+s+1+1 from ae] at B;rw [show l+1+s=l+s+1 from ae] at y;rw [show m+1+s=m+s+1 from ae] at A;rw [show t+1+s=t+s+1 from ae];refine .ifs _ (l+s) (m+s) _ _ _ _ ((hs i (aG _) ae).word ai t1) ?_ B ((hs l ae ae).word ai t3) y ((hs m ae ae).word ai t4) A ((hs t ae ae).word ai t5);rw [show i+s+1=i+1+s from ae];exact (hs (i+1) ae ae).word ai t2
 | up n i j a h1 v _ ih=>
  intro s hs hl;exact .up _ _ _ _ h1 v (ih s hs hl)
 | more n i j J k a b h1 v K z hc D o u=>
  intro s hs hl;have P:=K.lt;have lb:=D.lt;have e:=(hs j ae ae).word (acr n _ z) rfl;refine .more n (i+s) (j+s) (J+s) k a b h1 v (o s (λk h1 h2=>hs k h1 ae) ae) (by rw [e];exact z) Od ?_;have:=u s (λk h1 h2=>hs k ae h2) hl;rw [show j+s+1=j+1+s from ae];exact this
def z0 (T:List By):List (By × Nat):=T.map λt=>(t,0)
def Di (ts:List (By × Nat)) (i:Nat):aw ts i=(ts.map Prod.fst).getD i []:=by
 unfold aw;rw [lC,kn];cases ts[i]?<;>rfl
def jF (T:List By) (i:Nat):aw (z0 T) i=T.getD i []:=by
 rw [Di];congr 1;rw [z0,fM];exact List.map_id' T
def RM (T:List By):(z0 T).length=(G T):=by simp [z0]
def oC (a b:List By) (k:Nat) (h:(G a)<=k):(a++b).getD k []=b.getD (k - G a) []:=by
 rw [lC,lC,qx h]
def acs (a b:List By) (k:Nat) (h:k<G a):(a++b).getD k []=a.getD k []:=by
 rw [lC,lC,sy h]
def bh.sub {T:List By} {n:Nat} {p:Pt} (h:bh (z0 T) n 0 (G T) p) (a post:List By):bh (z0 (a++T++post)) n (G a) (G a+G T) p:=by
 have:=h.like (ts':=z0 (a++T++post)) (G a) (λk _ b=>Or.inl ?_) (by rw [RM];simp;omega)
 ·rw [cS,mP (G T)] at this;exact this
 ·rw [jF,jF,kI,oC _ _ _ ae,acs _ _ _ ae,Nat.add_sub_cancel]
def Bg {c:UInt8} (h:fF c=true):cT c=false:=by
 simp only [fF,jK,pG] at h;simp only [cT,dm,decide_eq_false_iff_not];omega
def GI (x:By):Prop:=x=[32]\/b5 x iV=true\/(∃ d,x=[d]/\cT d=true)\/(x≠[]/\(∀ y,y∈x->fF y=true)/\(G x)<=6)\/(∃ d,x=[102,d]/\cT d=true)
def GI.ti {x:By} (h:GI x) (i:x≠[32]):TI x:=by
 rcases h with h|h|⟨d,rfl,b⟩|⟨f,e,g⟩|⟨d,rfl,b⟩
 ·exact absurd h i
 ·simp only [b5,iV,pF,bQ,jA,iK] at h;rcases h with rfl|rfl|rfl|rfl|rfl|rfl|rfl|rfl|rfl|rfl<;>exact ⟨_,[],rfl,ai,ai,λ_ y hy=>Ha,λ_ _ y hy=>Ha,λ_ _=>rfl⟩
 ·refine ⟨d,[],rfl,?_,?_,λ_ y hy=>Ha,λ_ _ y hy=>Ha,λ_ _=>rfl⟩
  ·rintro rfl;revert b;decide
  ·have:=d.toNat_lt;simp [di,headD,b,cR,gP];omega
 ·obtain ⟨c,r,rfl⟩:∃ c r,x=c::r:=by
   cases x with
   | nil=>exact absurd rfl f
   | cons c r=>exact ⟨c,r,rfl⟩
  have a:=e c aq;refine ⟨c,r,rfl,?_,?_,λ_ y hy=>afi (e y (by simp [hy])),λh=>?_,λh=>?_⟩
  ·rintro rfl;revert a;decide
  ·simp only [gS] at g;simp [di,headD,j6,a,Bg a];omega
  ·rw [a] at h;cases h
  ·rw [a] at h;cases h
 ·refine ⟨102,[d],rfl,ai,?_,λ_ y hy=>?_,λh=>?_,λh=>?_⟩
  ·simp [di,headD,j6,show fF 102=true from ai,show cT 102=false from ai]
  ·simp at hy;rw [hy];exact R7 b
  ·exact absurd h ai
  ·exact absurd h ai
def MF (p:Pt):Prop:=∀ x,aC x p=true->∃ d,cT d=true/\x=[102,d]
def RI (n:Nat) (s:By) (m:Nat):Prop:=∃ (a:List By) (p:Pt),a.flatten=s/\(∀ x,x∈a->GI x)/\(∀ rest,Dh rest->vG a rest)/\bh (z0 (bB a)) n 0 (bB a).length p/\txt p=s/\opn p<=m/\MF p
def RIp (n:Nat) (s:By) (m:Nat) (p:Pt):Prop:=∃ a:List By,a.flatten=s/\(∀ x,x∈a->GI x)/\(∀ rest,Dh rest->vG a rest)/\bh (z0 (bB a)) n 0 (bB a).length p/\txt p=s/\opn p<=m
def RIp.ri {n m:Nat} {s:By} {p:Pt} (h:RIp n s m p) (i:MF p):RI n s m:=by
 obtain ⟨g,a,b,c,d,e,f⟩:=h;exact ⟨g,p,a,b,c,d,e,f,i⟩
def p6 (c:UInt8) (r:By) (h:iO c=false):Dh (c::r):=Or.inr ⟨c,r,rfl,h⟩
def RIp.one (x:By) (k:Nat) (hx:GI x) (h32:x≠[32]) (hc:ij x k) (hk:k=1\/k=2\/k=7\/k=8) (ht:txt (.atom k (ej x) (fw x))=x):RIp 6 x 0 (.atom k (ej x) (fw x)):=WW
def RI.one (x:By) (k:Nat) (d:GI x) (a:x≠[32]) (f:ij x k) (c:k=1\/k=2\/k=7\/k=8) (b:txt (.atom k (ej x) (fw x))=x) (e:MF (.atom k (ej x) (fw x))):RI 6 x 0:=(RIp.one x k d a f c b).ri e
def g40:GI [40]:=Or.inr (Or.inl ai)
def g41:GI [41]:=Or.inr (Or.inl ai)
def g44:GI [44]:=Or.inr (Or.inl ai)
def g45:GI [45]:=Or.inr (Or.inl ai)
def g32:GI [32]:=Or.inl rfl
def gif:GI [105,102]:=Or.inr (Or.inr (Or.inr (Or.inl ⟨aq,ai,aq⟩)))
def agZ:GI [110,111,116]:=Or.inr (Or.inr (Or.inr (Or.inl ⟨aq,ai,aq⟩)))
def RI.bool (k:Nat) (b:k<2):RI 6 (ai8 [[116,114,117,101],[102,97,108,115,101]] k) 0:=by
 rcases (show k=0\/k=1 from ae) with rfl|rfl
 ·refine RI.one [116,114,117,101] 7 (Or.inr (Or.inr (Or.inr (Or.inl ⟨aq,ai,aq⟩)))) ai (Or.inr (Or.inr (Or.inr ai))) ae ai ?_;intro x a;simp [aC] at a
 ·refine RI.one [102,97,108,115,101] 8 (Or.inr (Or.inr (Or.inr (Or.inl ⟨aq,ai,aq⟩)))) ai (Or.inr (Or.inr (Or.inr ai))) ae ai ?_;intro x a;simp [aC] at a
def ajc {x:By} (h:x≠[]/\(∀ y,y∈x->fF y=true)/\(G x)<=6):GI x:=Or.inr (Or.inr (Or.inr (Or.inl h)))
def ajd {x:By} (h:b5 x iV=true):GI x:=Or.inr (Or.inl h)
def acv {x:By} {k:Nat} (h:(x,k)∈eb):ij x k:=Or.inr (Or.inr (Or.inr h))
def QG {n k:Nat} {op:By} (b:1<=n) (c:n<=5) (hs:b5 op (dc n)=true) (a:ij op k):GI op/\op≠[32]/\lL k=32::op++[32]/\iP k=[]/\jO k=[]/\k≠1:=by
 rcases (show n=1\/n=2\/n=3\/n=4\/n=5 from ae) with rfl|rfl|rfl|rfl|rfl<;>simp only [dc,b5,pF,bQ,jA,iK] at hs
 all_goals first|(rcases hs with rfl|rfl|rfl)|(rcases hs with rfl|rfl)|subst hs
 all_goals rcases a with ⟨h,_⟩|⟨_,h,_⟩|⟨h,_⟩|h
 all_goals first|exact absurd h ai|(simp [eb] at h;subst h;exact ⟨by first|exact ajd ai|exact ajc ⟨aq,ai,aq⟩,ai,ai⟩)
end Go.Proofs.YtihgojcfpnhelaaGreatDoor
