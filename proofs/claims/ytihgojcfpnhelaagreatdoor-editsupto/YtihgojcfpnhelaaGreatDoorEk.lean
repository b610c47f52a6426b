import Derived.Test.YtihgojcfpnhelaaGreatDoorEj
set_option maxRecDepth 100000
set_option maxHeartbeats 4000000
set_option linter.all false
namespace Go.Proofs.YtihgojcfpnhelaaGreatDoor
open Value renaming slice->B,bool->zF,pointer->zK
open Obj renaming cells->zM
open Ending renaming returned->zP
open Option renaming some->A
open Or renaming inl->zR,inr->zZ
open Go renaming World->zW,Value->zV,Calls->zC,Addr->zD
open Go.RowKit Go.Proofs.Tryz
open List renaming length→G
section
attribute [local go_sem] ap aq
variable {w w' W:zW} {v vl:zV} {aJ:List By} {H:List RF} {x:By}
def xS (h:ll w v aJ):∃ a c,v=B a (G aJ) c:=by
 rcases h with ⟨rfl,a,c,rfl⟩|⟨_,a,c,rfl,_⟩
 .exact ⟨a,c,rfl⟩
 .exact ⟨_,c,rfl⟩
def uV {a:Option zD} {c:Nat} (h:ll w (B a (G aJ) c) aJ) {j:Nat} (d:j<G aJ):∃ b,a=A b/\w.cell? (b.add j)=A (Q aJ[j]):=by
 rcases h with ⟨rfl,_⟩|⟨_,b,g,e,_,f⟩
 .exact absurd d (pH j)
 .cases e;exact ⟨b,rfl,f j d⟩
def Kn {j:Nat} (a:j<G aJ) (x:By):(aJ.take (j+1)).count x=(aJ.take j).count x+(if aJ[j]=x then 1 else 0):=by
 rw [vJ a,List.count_append,List.count_singleton];by_cases h:aJ[j]=x<;>simp [h]
def Bh (h:ll w v aJ) (k:G aJ<=1000) (x:By):zC prog 37 #[v,Q x] w λr w'=>r=zP (J (aJ.count x:Int))/\w'=w:=by
 obtain ⟨a,c,rfl⟩:=xS h;have p:=I h;have t:(G aJ:Int)<=1000:=a6.2 k;have g:=I k;clear h k;go_in;go_wp2_with fail;go_loopg [5,6] (G aJ) (λgk n i wr=>∃ j:Nat,j<=G aJ/\G aJ<=j+gk/\i=J j/\n=J ((aJ.take j).count x:Int)/\wr=w)
 case atStart=>exact ⟨0,bE _,jD (cS _).symm,rfl,rfl,rfl⟩
 case round=>
  obtain ⟨j,l,e,rfl,rfl,rfl⟩:=hrel;rcases cC j (G aJ) with d|d
  .have q:=eu d;have D:=I (eJ d e);obtain ⟨b,rfl,u⟩:=uV p.o d;have C:=I (Kn d x);have s:((aJ.take j).count x:Int)<=1000:=a6.2 (bf List.count_le_length (bf (by rw [sF];exact Nat.min_le_left _ _) (bf l g.o)));have o:(0:Int)<=((aJ.take j).count x:Int):=mF _;by_cases E:aJ[j]=x
   .rw [aB E] at C;have f:(aJ[j] == x)=true:=(by simpa using E);have F:=I (show (((aJ.take j).count x:Nat):Int)+1=(((aJ.take (j+1)).count x:Nat):Int) by rw [C.o];rfl);clear E C;generalize aJ[j]=y at *;go_wp2_with fail;go_roundg (G aJ - (j+1))
    case measure=>exact D.o.2.1
    case rel=>exact ⟨j+1,D.o.2.2,D.o.1,(by simp),eL (Value.int .i64) F.o,rfl⟩
   .rw [aA E] at C;have f:(aJ[j] == x)=false:=(by simpa using E);have F:=I (show (((aJ.take j).count x:Nat):Int)=(((aJ.take (j+1)).count x:Nat):Int) by rw [C.o];rfl);clear E C;generalize aJ[j]=y at *;go_wp2_with fail;go_roundg (G aJ - (j+1))
    case measure=>exact D.o.2.1
    case rel=>exact ⟨j+1,D.o.2.2,D.o.1,(by simp),eL (Value.int .i64) F.o,rfl⟩
  .have m:=eH d;obtain rfl:j=G aJ:=lT l d;rw [tq];go_wp2_with fail;go_ret;exact ⟨rfl,rfl⟩
def RN (aJ:List By) (H:List RF):Prop:=∀ (i:Nat) (d:i<G aJ),aJ.count aJ[i]=1/\aJ[i].length<=1000/\∃ (a:Nat) (c:a<G H),bK H aJ[i]=(a:Int)/\∀ (k:Nat) (b:k<G aJ),i<=k->gC H[a].rl aJ[k]=false
def Aj (h:ll w v aJ) (S:G aJ<=1000) (Y:dU w vl H) (Q4:pP H) (a:RN aJ H):zC prog 121 #[v,vl] w λr w'=>r=zP (zF true)/\zB w w':=by
 obtain ⟨Q0,Q6,rfl⟩:=xS h;have N:=I h;have R:=I Y;have HO:=I Q4;have T:=I a;have wR:(G aJ:Int)<=1000:=a6.2 S;obtain ⟨y,a2,c2,rfl,-⟩:=Y;have aa:(G H:Int)<=1000:=a6.2 y;have QT:=I (λW (L:ll W (B Q0 (G aJ) Q6) aJ) x=>Bh L S x);clear h S Q4 a y;go_in;go_wp2_with fail;go_loopg [5] (G aJ) (λgk i wr=>∃ j:Nat,j<=G aJ/\G aJ<=j+gk/\i=J j/\Hid (zB w wr))
 case atStart=>exact ⟨0,bE _,jD (cS _).symm,rfl,I (aM _ _)⟩
 case round=>
  obtain ⟨j,P,hW,rfl,F⟩:=hrel;rcases cC j (G aJ) with l|l
  .have af:=eu l;have t:=I (eJ l hW);obtain ⟨U,ag,d,M,E,D⟩:=T.o j l;have C:=I (N.o.below F.o);have z:=I (R.o.next F.o);obtain ⟨b,rfl,hc⟩:=uV C.o l;have Z:=I (QT.o _ C.o aJ[j]);rw [U] at Z;have V:=I (aD H aJ[j] z.o);rw [E] at V;have ac:¬ ((d:Int)<0):=Int.not_lt.2 (mF _);have ad:(d:Int)<(G H:Int):=iD.2 M;have Jw:=I D;obtain ⟨g,o,rfl,-,-,-⟩:=fA z.o M;have s:=I (HO.o _ (bt M));obtain ⟨c,ho⟩:∃ c,Hid (H[d].rl=c):=⟨_,I rfl⟩;clear U E D;go_wp2_with (first|(go_at_call 122;refine mo V.o ?_;rintro e w2 ⟨rfl,rfl⟩) );apply I;go_wp2_with (go_at_call 37;refine mo Z.o ?_;rintro e w3 ⟨rfl,rfl⟩);apply I;go_wp2_with fail;go_loopg [7] (G aJ - j) (λgi i wk=>∃ k:Nat,j<=k/\k<=G aJ/\G aJ<=k+gi/\i=J k/\Hid (zB w wk))
   case atStart=>exact ⟨j,aG _,P,jD (Nat.add_sub_cancel' P).symm,rfl,F⟩
   case round=>
    obtain ⟨k,u,hk,Q5,rfl,m⟩:=hrel;rcases cC k (G aJ) with f|f
    .have rl:=eu f;have n:=I (eJ f Q5);obtain ⟨b',K,O⟩:=uV (N.o.below m.o) f;cases K;obtain ⟨g',o',K,-,-,d1⟩:=fA (R.o.next m.o) M;cases K;have QV:Hid (∀ q,zB wr q->zC prog 154 #[Q H[d].rl,Q aJ[k]] q λr w'=>r=zP (zF false)/\zB w w'):=I λq L=>by
      refine (ot (w:=q) H[d].rl aJ[k] s.o.1 s.o.2.1 (T.o k f).2.1).m ?_;rintro e w4 ⟨rfl,p⟩;exact ⟨by rw [Jw.o k f u],(m.o.t (L.m m.o.size)).t (p.m (bf m.o.size L.size))⟩
     have HL:Hid (∀ q,zB w q->q.cell? (X g (o+d*4+1))=A (Q H[d].rl)/\q.cell? (b.add k)=A (Q aJ[k])):=I λq L=>by
      obtain ⟨b',K,O⟩:=uV (N.o.below L) f;cases K;obtain ⟨g',o',K,-,-,d1⟩:=fA (R.o.next L) M;cases K;exact ⟨d1,O⟩
     go_wp2_with fail
     go_region_held3 (λw'=>w'.cell? (X g (o+d*4+1))=A (Q H[d].rl)/\w'.cell? (b.add k)=A (Q aJ[k])) (first|(with_reducible exact ⟨d1,O⟩)|go_keep) (first|(go_at_call 154;(with_reducible refine (QV.o _ (aM _ _).drew).m ?_);rintro e w4 ⟨rfl,p⟩;obtain ⟨d1,O⟩:=HL.o _ p;have ha:=I p;clear p))
     go_wp2_with fail;go_roundg (G aJ - (k+1))
     case measure=>exact n.o.2.1
     case rel=>exact ⟨k+1,Nat.le_succ_of_le u,n.o.2.2,n.o.1,(by simp),ha⟩
    .have e':=eH f;obtain rfl:k=G aJ:=lT hk f;go_wp2_with fail;go_roundg (G aJ - (j+1))
     case measure=>exact t.o.2.1
     case rel=>exact ⟨j+1,t.o.2.2,t.o.1,(by simp),m⟩
  .have e':=eH l;obtain rfl:j=G aJ:=lT P l;go_wp2_with fail;go_ret;exact ⟨rfl,F.o⟩
variable {ds:List RF} {V:List Bool} {j:Nat}
def qQ (ds:List RF) (V:List Bool) (x:By) (j:Nat):Nat:=((List.range j).filter λi=>V[i]? == A true||ds[i]?.map RF.nm == A x).length
def pe (D:j<G ds) (C:j<G V):qQ ds V x (j+1)=qQ ds V x j+(if V[j]=true\/ds[j].nm=x then 1 else 0):=by
 unfold qQ;rw [wB,List.filter_append,b6];congr 1;by_cases h:V[j]=true\/ds[j].nm=x
 .rw [aB h,List.filter_cons_of_pos (by rw [cU D,cU C];simpa using h)];rfl
 .rw [aA h,List.filter_cons_of_neg (by rw [cU D,cU C];simpa using h)];rfl
def pf (j:Nat):qQ ds V x j<=j:=by
 unfold qQ;refine bf (List.length_filter_le _ _) ?_;rw [List.length_range];exact aG _
structure abC (aJ:List By) (ds:List RF) (x:By):Prop where
 ord:RN aJ ds
 one:∀ (i:Nat) (hi:i<G ds),rO ds x i\/ds[i].nm=x->aJ.count ds[i].nm=1
 all:∀ V:List Bool,G V=G ds->(∀ i,V[i]?=A true↔rO ds x i)->qQ ds V x (G ds)=G aJ
def TZ (h:ll w v aJ) (H:G aJ<=1000) (F:dU w vl ds) (u:pP ds) (U:G x<=1000) (M:abC aJ ds x):zC prog 117 #[v,vl,Q x] w λw3 w'=>w3=zP (zF true)/\zB w w':=by
 obtain ⟨HC,Q0,rfl⟩:=xS h;have o:=I h;have n:=I F;have c:=I M;have wR:(G aJ:Int)<=1000:=a6.2 H;have i:=I (Kq ds x F u U);have QV:=I (λW (E:zB w W)=>Aj (h.below E) H (F.next E) u M.ord);obtain ⟨t,a2,c2,rfl,-⟩:=F;have HH:(G ds:Int)<=1000:=a6.2 t;have eQ:=I (λW (E:ll W (B HC (G aJ) Q0) aJ) x=>Bh E H x);have HX:=I t;clear h H u M t U;go_in;go_wp2_with (go_at_call 152;refine mo i.o ?_;rintro e w1 ⟨b1,V,rfl,QT,m,Z,a,y⟩);have k:=I y;have N:=I m;have C:=I Z;have z:=I a;clear y m Z a QT;apply I;go_wp2_with fail;go_loopg [8,9] (G ds) (λgk Q6 Q4 wr=>∃ j:Nat,j<=G ds/\G ds<=j+gk/\Q4=J j/\Q6=J (qQ ds V x j:Int)/\wr=w1)
 case atStart=>exact ⟨0,bE _,jD (cS _).symm,rfl,rfl,rfl⟩
 case round=>
  obtain ⟨j,T,P,rfl,rfl,rfl⟩:=hrel;rcases cC j (G ds) with b|b
  .have Q5:=eu b;have R:=I (eJ b P);have q:j<G V:=by rw [C.o];exact b
   obtain ⟨HL,aa,rfl,-,c0,-⟩:=fA (n.o.next k.o) b;obtain ⟨r0,-,-⟩:=N.o.at (i:=j) q;have f:=I (pe (x:=x) b q);have yR:((qQ ds V x j:Nat):Int)<=1000:=a6.2 (bf (pf j) (bf T HX.o));have HR:(0:Int)<=((qQ ds V x j:Nat):Int):=mF _;have s:Hid (V[j]=true->rO ds x j):=I λe=>(z.o j).1 (by rw [cU q,e]);have l:=I (c.o.one j b);by_cases d:V[j]=true\/ds[j].nm=x
   .rw [aB d] at f;have p:aJ.count ds[j].nm=1:=l.o (d.imp s.o id);have S:=I (show ((qQ ds V x j:Nat):Int)+1=((qQ ds V x (j+1):Nat):Int) by rw [f.o];rfl);have Y:=I (eQ.o _ (o.o.below k.o) ds[j].nm);rw [p] at Y;have L:(V[j]=true)\/(V[j]=false/\(ds[j].nm == x)=true):=by
     cases K:V[j] with
     | true=>exact zR rfl
     | false=>exact zZ ⟨rfl,by rcases d with d|d;(rw [K] at d;cases d);simpa using d⟩
    clear d s l f p;generalize V[j]=bj at *;rcases L with K|⟨K,r⟩
    .subst K;go_wp2_with (go_at_call 37;refine mo Y.o ?_;rintro e g ⟨rfl,rfl⟩);apply I;go_wp2_with fail;go_roundg (G ds - (j+1))
     case measure=>exact R.o.2.1
     case rel=>exact ⟨j+1,R.o.2.2,R.o.1,(by simp),eL (Value.int .i64) S.o,rfl⟩
    .subst K;go_wp2_with (go_at_call 37;refine mo Y.o ?_;rintro e g ⟨rfl,rfl⟩);apply I;go_wp2_with fail;go_roundg (G ds - (j+1))
     case measure=>exact R.o.2.1
     case rel=>exact ⟨j+1,R.o.2.2,R.o.1,(by simp),eL (Value.int .i64) S.o,rfl⟩
   .rw [aA d] at f;have S:=I (show ((qQ ds V x j:Nat):Int)=((qQ ds V x (j+1):Nat):Int) by rw [f.o];rfl);have K:V[j]=false:=by
     cases K:V[j] with
     | true=>exact absurd (zR K) d
     | false=>rfl
    have r:(ds[j].nm == x)=false:=by simpa using λe=>d (zZ e)
    clear d s l f;generalize V[j]=bj at *;subst K;go_wp2_with fail;go_roundg (G ds - (j+1))
    case measure=>exact R.o.2.1
    case rel=>exact ⟨j+1,R.o.2.2,R.o.1,(by simp),eL (Value.int .i64) S.o,rfl⟩
  .have tA:=eH b;obtain rfl:j=G ds:=lT T b;rw [c.o.all V C.o z.o];have O:=I (QV.o _ k.o);go_wp2_with (go_at_call 121;refine mo O.o ?_;rintro e g ⟨rfl,D⟩;have Jv:=I (k.o.t (D.m k.o.size));clear D);apply I;go_wp2_with fail;go_ret;exact ⟨(by simp),Jv.o⟩
def ef (aJ:List By) (H:List RF):Prop:=∀ (i:Nat) (b:i<G aJ),aJ.count aJ[i]=1/\aJ[i].length<=1000/\∃ (a:Nat) (c:a<G H),bK H aJ[i]=(a:Int)/\gC H[a].rl (aJ[(i+1) % G aJ]'(Nat.mod_lt _ (th (bE _) b)))=true
def pi {j n:Nat} (h:(j:Int)<(n:Int)) (a:(n:Int)<=1000):IntKind.i64.wrap ((j:Int)+1)=(j:Int)+1:=by
 rw [IntKind.wrap_i64];omega
def TY {j n:Nat} (h:0<n):Int.tmod ((j:Int)+1) (n:Int)=(((j+1) % n:Nat):Int):=by
 rw [show ((j:Int)+1)=((j+1:Nat):Int) from rfl];exact (Int.ofNat_tmod _ _).symm
def Ko (h:ll w v aJ) (M:G aJ<=1000) (Y:dU w vl H) (Q4:pP H) (c:ef aJ H) (i:aJ.count x=1):zC prog 119 #[v,vl,Q x] w λr w'=>r=zP (zF true)/\zB w w':=by
 obtain ⟨Q6,QV,rfl⟩:=xS h;have O:=I h;have R:=I Y;have Q0:=I Q4;have T:=I c;have ha:(G aJ:Int)<=1000:=a6.2 M;obtain ⟨u,a2,c2,rfl,-⟩:=Y;have aa:(G H:Int)<=1000:=a6.2 u;have a:=I (λW (K:ll W (B Q6 (G aJ) QV) aJ) x=>Bh K M x);have HX:=I i;have HN:=I M;clear h M Q4 c u i;go_in;go_wp2_with fail;go_loopg [7] (G aJ) (λgk ho wr=>∃ j:Nat,j<=G aJ/\G aJ<=j+gk/\ho=J j/\Hid (zB w wr))
 case atStart=>exact ⟨0,bE _,jD (cS _).symm,rfl,I (aM _ _)⟩
 case round=>
  obtain ⟨j,hj,e',rfl,p⟩:=hrel;rcases cC j (G aJ) with d|d
  .have t:=eu d;have s:=I (eJ d e');obtain ⟨U,al,f,N,E,D⟩:=T.o j d;have C:=I (O.o.below p.o);have hW:=I (R.o.next p.o);obtain ⟨b,rfl,hc⟩:=uV C.o d;have Z:=I (a.o _ C.o aJ[j]);rw [U] at Z;have V:=I (aD H aJ[j] hW.o);rw [E] at V;have ac:¬ ((f:Int)<0):=Int.not_lt.2 (mF _);have ad:(f:Int)<(G H:Int):=iD.2 N;have HO:=I D;obtain ⟨g,o,rfl,-,-,-⟩:=fA hW.o N;have n:=I (Q0.o _ (bt N));obtain ⟨z,hx⟩:∃ z,Hid (H[f].rl=z):=⟨_,I rfl⟩;clear U E D;go_wp2_with (first|(go_at_call 122;refine mo V.o ?_;rintro e w2 ⟨rfl,rfl⟩) );apply I;go_wp2_with (go_at_call 37;refine mo Z.o ?_;rintro e w3 ⟨rfl,rfl⟩);apply I;go_wp2_with fail;obtain ⟨m,q⟩:∃ m,Hid ((j+1) % G aJ=m):=⟨_,I rfl⟩;have S:m<G aJ:=q.o▸Nat.mod_lt _ (th (bE _) d);have ag:=eu S;have am:Int.tmod ((j:Int)+1) (G aJ:Int)=(m:Int):=q.o▸TY (th (bE _) d);have an:IntKind.i64.wrap ((j:Int)+1)=(j:Int)+1:=pi t ha;have af:(0:Int)<=(m:Int):=mF _;have ak:¬ aJ=[]:=λe=>by rw [e] at d;exact absurd d (pH _)
   have Q5:¬ (G aJ:Int)=0:=λe=>by rw [e] at t;exact absurd t (Int.not_lt.2 (mF _))
   have rl:((G aJ:Int) == 0)=false:=bo.2 Q5;have QT:Hid (gC H[f].rl aJ[m]=true):=I (by
    have:=HO.o;simp only [q.o] at this;exact this)
   have Jw:Hid (∀ l,zB w3 l->zC prog 154 #[Q H[f].rl,Q aJ[m]] l λr w'=>r=zP (zF true)/\zB w w'):=I λl K=>by
    refine (ot (w:=l) H[f].rl aJ[m] n.o.1 n.o.2.1 (T.o m S).2.1).m ?_;rintro e w4 ⟨rfl,k⟩;exact ⟨by rw [QT.o],(p.o.t (K.m p.o.size)).t (k.m (bf p.o.size K.size))⟩
   have F:Hid (∀ l,zB w l->l.cell? (X g (o+f*4+1))=A (Q H[f].rl)/\l.cell? (b.add m)=A (Q aJ[m])):=I λl K=>by
    obtain ⟨b',P,L⟩:=uV (O.o.below K) S;cases P;obtain ⟨g',o',P,-,-,d1⟩:=fA (R.o.next K) N;cases P;exact ⟨d1,L⟩
   obtain ⟨d1,L⟩:=F.o _ p.o
   go_region_held3 (λw'=>w'.cell? (X g (o+f*4+1))=A (Q H[f].rl)/\w'.cell? (b.add m)=A (Q aJ[m])) (first|(with_reducible exact ⟨d1,L⟩)|go_keep) (first|(go_at_call 154;(with_reducible refine (Jw.o _ (aM _ _).drew).m ?_);rintro e w4 ⟨rfl,k⟩;obtain ⟨d1,L⟩:=F.o _ k;have HL:=I k;clear k))
   go_wp2_with fail;go_roundg (G aJ - (j+1))
   case measure=>exact s.o.2.1
   case rel=>exact ⟨j+1,s.o.2.2,s.o.1,(by simp),HL⟩
  .have tA:=eH d;obtain rfl:j=G aJ:=lT hj d;have y:=I (a.o _ (O.o.below p.o) x);rw [HX.o] at y;go_wp2_with (go_at_call 37;refine mo y.o ?_;rintro e w2 ⟨rfl,rfl⟩);apply I;go_wp2_with fail;go_ret;exact ⟨rfl,p.o⟩
variable {w1:zW} {Z:zV} {V:List Bk} {C:Nat->Prop} {T Q4:Nat}
def RP (h:w.ownsRow Q4 126 5 Z (G V) (xV V)):∃ l c,Z=B l (G V) c/\G V<=c/\∀ (j:Nat) (f:j<G V),∃ g,l=A (yh g)/\g<w.heap.size/\∀ W,zB w W->W.cell? (X g (j*5))=A V[j].l/\W.cell? (X g (j*5+1))=A V[j].a/\W.cell? (X g (j*5+2))=A V[j].b/\W.cell? (X g (j*5+3))=A V[j].c/\W.cell? (X g (j*5+4))=A (Q V[j].m):=by
 rcases h.2 with ⟨rfl,q⟩|⟨g,c,s,rfl,t,e,d,o,m,i⟩
 .exact ⟨none,0,by rw [q],by omega,λj f=>by omega⟩
 .refine ⟨_,c,rfl,d,λj f=>⟨g,rfl,(cz.1 e).1,λW n=>?_⟩⟩;have b:=(cz.1 e).1;have a:∀ k,k<5->W.cell? (X g (j*5+k))=(V[j].cells)[k]?:=λk r=>by
   rw [n.cell (p:=X g (j*5+k)) b,bq w g (j*5+k) _ _ _ e,<- RO V j f k r,<- i,sX,aB (by omega),Array.getElem?_toList]
  exact ⟨(a 0 (by omega)).t rfl,(a 1 (by omega)).t rfl,(a 2 (by omega)).t rfl,(a 3 (by omega)).t rfl,(a 4 (by omega)).t rfl⟩
def T2 (z:w.cell? (X T 2)=A Z) (h:w.ownsRow Q4 126 5 Z (G V) (xV V)) (Y:G V<=10000000) (u:∀ x,x∈V->sJ w C x):zC prog 39 #[zK (A (X T 2))] w λr w'=>r=zP (zF true)/\zB w w':=by
 obtain ⟨ao,Q6,rfl,_,hr⟩:=RP h;have HR:=I hr;have HB:=I u;have hc:(G V:Int)<=10000000:=a6.2 Y;have HC:Hid (∀ W,zB w W->W.cell? (X T 2)=A (B ao (G V) Q6)):=I λW l=>(l.cell (p:=X T 2) (gI w _ z)).t z;clear h u Y hr;go_in;go_wp2_with fail;go_loopg [3] (G V) (λgk e0 wr=>∃ j:Nat,j<=G V/\G V<=j+gk/\e0=J j/\Hid (zB w wr))
 case atStart=>exact ⟨0,bE _,jD (cS _).symm,rfl,I (aM _ _)⟩
 case round=>
  obtain ⟨j,hj,Q5,rfl,t⟩:=hrel;have c0:=HC.o _ t.o;rcases cC j (G V) with d|d
  .have aa:=eu d;have q:=I (eJ d Q5);obtain ⟨hb,rfl,hg,w4⟩:=HR.o j d;obtain ⟨x0,x1,x2,x3,x4⟩:=w4 _ t.o;have S:=I (HB.o _ (bt d));have a:Hid (∀ W,zB w W->sJ W C V[j]):=I λW l=>S.o.ks (P:=λ_=>False) (Ks.of l) λ_ _ h=>h;obtain ⟨⟨M,U,v,g,-⟩,⟨L,F,y,e1,-⟩,⟨O,H,E,c,-⟩,⟨R,N,K,i,-⟩⟩:=S.o;unfold sJ at a;rw [g] at x0 a;rw [e1] at x1 a;rw [c] at x2 a;rw [i] at x3 a;generalize V[j].m=m at *;clear w4 g e1 c i S;have s:Hid (∀ W,zB w W->(zC prog 58 #[B M U v,Q m] W λr w'=>r=zP (zF true)/\w'=W)/\(zC prog 58 #[B L F y,Q m] W λr w'=>r=zP (zF true)/\w'=W)/\(zC prog 58 #[B O H E,Q m] W λr w'=>r=zP (zF true)/\w'=W)/\zC prog 58 #[B R N K,Q m] W λr w'=>r=zP (zF true)/\w'=W):=I λW l=>⟨xU (a.o W l).1,xU (a.o W l).2.1,xU (a.o W l).2.2.1,xU (a.o W l).2.2.2⟩;have n:Hid (∀ o,zB w (wr.alloc o)):=I λo=>t.o.alloc t.o.size o;clear a;have QV:wr.heap.size<(wr.heap.size+1):=Nat.lt_succ_self _;go_wp2_with (go_at_call 58;refine (s.o _ (n.o _)).1.m ?_;rintro e D ⟨rfl,f⟩;replace f:=I f;apply Hid.o);replace f:=f.o;have k:Hid (zB w D):=I (by rw [f];exact n.o _);have b:D.heap[wr.heap.size]?=A (zM #[B M U v,B L F y,B O H E,B R N K,Q m] 126 (0,0)):=by rw [f];simp only [World.alloc,yi]
   have z0:D.cell? (yh wr.heap.size)=A (B M U v):=(bq D _ 0 _ _ _ b).t rfl;have z1:D.cell? (X wr.heap.size 1)=A (B L F y):=(bq D _ 1 _ _ _ b).t rfl;have z2:D.cell? (X wr.heap.size 2)=A (B O H E):=(bq D _ 2 _ _ _ b).t rfl;have z3:D.cell? (X wr.heap.size 3)=A (B R N K):=(bq D _ 3 _ _ _ b).t rfl;have z4:D.cell? (X wr.heap.size 4)=A (Q m):=(bq D _ 4 _ _ _ b).t rfl;have e3:=I (s.o _ k.o).2.1;have Q0:=I (s.o _ k.o).2.2.1;have QT:=I (s.o _ k.o).2.2.2;clear f b s n QV;apply I;go_wp2_with (go_at_call 58;refine mo e3.o ?_;rintro e w5 ⟨rfl,rfl⟩);apply I;go_wp2_with (go_at_call 58;refine mo Q0.o ?_;rintro e w5 ⟨rfl,rfl⟩);apply I;go_wp2_with (go_at_call 58;refine mo QT.o ?_;rintro e w5 ⟨rfl,rfl⟩);apply I;go_wp2_with fail;go_roundg (G V - (j+1))
   case measure=>exact q.o.2.1
   case rel=>exact ⟨j+1,q.o.2.2,q.o.1,(by simp),k⟩
  .have tA:=eH d;obtain rfl:j=G V:=lT hj d;go_wp2_with fail;go_ret;exact ⟨rfl,t.o⟩
end
end Go.Proofs.YtihgojcfpnhelaaGreatDoor
