import Derived.Test.YtihgojcfpnhelaaGreatDoorEj
set_option maxRecDepth 100000
set_option maxHeartbeats 4000000
set_option linter.all false
namespace Go.Proofs.YtihgojcfpnhelaaGreatDoor
open Go renaming World->zW,Value->zV,Calls->zC,Addr->zD
open Go.RowKit Go.Proofs.Tryz
open List renaming length→G
section
attribute [local go_sem] idx_eq app_eq
variable {w w' W:zW} {v vl:zV} {aJ:List By} {H:List RF} {x:By}
def xS (h:ll w v aJ):∃ a c,v=.slice a (G aJ) c:=by
 rcases h with ⟨rfl,a,c,rfl⟩|⟨_,a,c,rfl,_⟩
 ·exact ⟨a,c,rfl⟩
 ·exact ⟨_,c,rfl⟩
def uV {a:Option zD} {c:Nat} (h:ll w (.slice a (G aJ) c) aJ) {j:Nat} (d:j<G aJ):∃ b,a=some b/\w.cell? (b.add j)=some (.string ⟨aJ[j].toArray⟩):=by
 rcases h with ⟨rfl,_⟩|⟨_,b,g,e,_,f⟩
 ·exact absurd d (pH j)
 ·cases e;exact ⟨b,rfl,f j d⟩
def Kn {j:Nat} (a:j<G aJ) (x:By):(aJ.take (j+1)).count x=(aJ.take j).count x+(if aJ[j]=x then 1 else 0):=by
 rw [vJ a,List.count_append,List.count_singleton];by_cases h:aJ[j]=x<;>simp [h]
def Bh (h:ll w v aJ) (k:(G aJ)<=1000) (x:By):zC prog 37 #[v,zG x] w λr w'=>r=.returned (zI (aJ.count x:Int))/\w'=w:=by
 obtain ⟨a,c,rfl⟩:=xS h;have p:=I h;have t:((G aJ):Int)<=1000:=a6.2 k;have g:=I k;clear h k;go_in;go_wp2_with fail;go_loopg [5,6] (G aJ) (λgk n i wr=>∃ j:Nat,j<=G aJ/\(G aJ)<=j+gk/\i=zI j/\n=zI ((aJ.take j).count x:Int)/\wr=w)
 case atStart=>exact Yq
 case round=>
  obtain ⟨j,l,e,rfl,rfl,rfl⟩:=hrel;rcases cC j (G aJ) with d|d
  ·have q:=eu d;have eQ:=I (eJ d e);obtain ⟨b,rfl,u⟩:=uV p.o d;have Xl:=I (Kn d x);have s:((aJ.take j).count x:Int)<=1000:=a6.2 (bf List.count_le_length (bf (by rw [sF];exact Nat.min_le_left _ _) (bf l g.o)));have o:(0:Int)<=((aJ.take j).count x:Int):=mF _;by_cases hx:aJ[j]=x
   ·rw [aB hx] at Xl;have f:(aJ[j] == x)=true:=tJ;have HX:=I (show (((aJ.take j).count x:Nat):Int)+1=(((aJ.take (j+1)).count x:Nat):Int) by rw [Xl.o];rfl);exact Xk
   ·rw [aA hx] at Xl;have f:(aJ[j] == x)=false:=tJ;have HX:=I (show (((aJ.take j).count x:Nat):Int)=(((aJ.take (j+1)).count x:Nat):Int) by rw [Xl.o];rfl);exact Xk
  ·have m:=eH d;obtain rfl:j=(G aJ):=lT l d;rw [tq];exact Ni
def RN (aJ:List By) (H:List RF):Prop:=∀ (i:Nat) (d:i<G aJ),aJ.count aJ[i]=1/\aJ[i].length<=1000/\∃ (a:Nat) (c:a<G H),bK H aJ[i]=(a:Int)/\∀ (k:Nat) (b:k<G aJ),i<=k->gC H[a].rl aJ[k]=false
def Aj (h:ll w v aJ) (K:(G aJ)<=1000) (X:dU w vl H) (B:pP H) (ho:RN aJ H):zC prog 121 #[v,vl] w λr w'=>r=.returned (.bool true)/\zB w w':=by
 obtain ⟨a,c,rfl⟩:=xS h;have N:=I h;have HL:=I X;have U:=I B;have HO:=I ho;have wR:((G aJ):Int)<=1000:=a6.2 K;obtain ⟨y,a2,c2,rfl,-⟩:=X;have alE:((G H):Int)<=1000:=a6.2 y;have T:=I (λW (hW:ll W (.slice a (G aJ) c) aJ) x=>Bh hW K x);clear h K B ho y;go_in;go_wp2_with fail;go_loopg [5] (G aJ) (λgk i wr=>∃ j:Nat,j<=G aJ/\(G aJ)<=j+gk/\i=zI j/\Hid (zB w wr))
 case atStart=>exact MH
 case round=>
  obtain ⟨j,P,M,rfl,F⟩:=hrel;rcases cC j (G aJ) with l|l
  ·have hlt:=eu l;have t:=I (eJ l M);obtain ⟨A,ho4,d,ha,E,D⟩:=HO.o j l;have C:=I (N.o.below F.o);have z:=I (HL.o.next F.o);obtain ⟨b,rfl,hc⟩:=uV C.o l;have Z:=I (T.o _ C.o aJ[j]);rw [A] at Z;have V:=I (find_ok H aJ[j] z.o);rw [E] at V;have ha0:¬ ((d:Int)<0):=Int.not_lt.2 (mF _);have ha1:(d:Int)<((G H):Int):=iD.2 ha;have R:=I D;obtain ⟨g,o,rfl,-,-,-⟩:=fA z.o ha;have s:=I (U.o _ (bt ha));obtain ⟨rl,HRL⟩:∃ rl,Hid (H[d].rl=rl):=⟨_,I rfl⟩;clear A E D;go_wp2_with (first|(go_at_call 122;refine mo V.o ?_;rintro e w2 ⟨rfl,rfl⟩) );apply I;go_wp2_with (go_at_call 37;refine mo Z.o ?_;rintro e w3 ⟨rfl,rfl⟩);apply I;go_wp2_with fail;go_loopg [7] (G aJ - j) (λgi i wk=>∃ k:Nat,j<=k/\k<=G aJ/\(G aJ)<=k+gi/\i=zI k/\Hid (zB w wk))
   case atStart=>exact ⟨j,aG _,P,jD (Nat.add_sub_cancel' P).symm,rfl,F⟩
   case round=>
    obtain ⟨k,u,hk,Q,rfl,m⟩:=hrel;rcases cC k (G aJ) with f|f
    ·have Y:=eu f;have n:=I (eJ f Q);obtain ⟨b',e',Jw⟩:=uV (N.o.below m.o) f;cases e';obtain ⟨g',o',e',-,-,d1⟩:=fA (HL.o.next m.o) ha;cases e';have J:Hid (∀ q,zB wr q->zC prog 154 #[.string ⟨H[d].rl.toArray⟩,.string ⟨aJ[k].toArray⟩] q λr w'=>r=.returned (.bool false)/\zB w w'):=I λq hW=>by
      refine (ot (w:=q) H[d].rl aJ[k] s.o.1 s.o.2.1 (HO.o k f).2.1).m ?_;rintro e w4 ⟨rfl,p⟩;exact ⟨by rw [R.o k f u],(m.o.t (hW.m m.o.size)).t (p.m (bf m.o.size hW.size))⟩
     have S:Hid (∀ q,zB w q->q.cell? ⟨g,o+d*4+1,none⟩=some (.string ⟨H[d].rl.toArray⟩)/\q.cell? (b.add k)=some (.string ⟨aJ[k].toArray⟩)):=I λq hW=>by
      obtain ⟨b',e',Jw⟩:=uV (N.o.below hW) f;exact XY
     go_wp2_with fail
     go_region_held3 (λw'=>w'.cell? ⟨g,o+d*4+1,none⟩=some (.string ⟨H[d].rl.toArray⟩)/\w'.cell? (b.add k)=some (.string ⟨aJ[k].toArray⟩)) (first|(with_reducible exact ⟨d1,Jw⟩)|go_keep) (first|(go_at_call 154;(with_reducible refine (J.o _ (aM _ _).drew).m ?_);rintro e w4 ⟨rfl,p⟩;obtain ⟨d1,Jw⟩:=S.o _ p;have O:=I p;clear p))
     go_wp2_with fail;go_roundg (G aJ - (k+1))
     case measure=>exact n.o.2.1
     case rel=>exact ⟨k+1,Nat.le_succ_of_le u,n.o.2.2,n.o.1,aq,O⟩
    ·have L:=eH f;obtain rfl:k=(G aJ):=lT hk f;go_wp2_with fail;go_roundg (G aJ - (j+1))
     case measure=>exact t.o.2.1
     case rel=>exact ⟨j+1,t.o.2.2,t.o.1,aq,m⟩
  ·have L:=eH l;obtain rfl:j=(G aJ):=lT P l;go_wp2_with fail;go_ret;exact ⟨rfl,F.o⟩
variable {ds:List RF} {V:List Bool} {j:Nat}
def qQ (ds:List RF) (V:List Bool) (x:By) (j:Nat):Nat:=((List.range j).filter λi=>V[i]? == some true||ds[i]?.map RF.nm == some x).length
def abA (hj:j<G ds) (hb:j<G V):qQ ds V x (j+1)=qQ ds V x j+(if V[j]=true\/ds[j].nm=x then 1 else 0):=by
 unfold qQ;rw [wB,List.filter_append,b6];congr 1;by_cases h:V[j]=true\/ds[j].nm=x
 ·rw [aB h,List.filter_cons_of_pos agD];rfl
 ·rw [aA h,List.filter_cons_of_neg agD];rfl
def abB (j:Nat):qQ ds V x j<=j:=by
 unfold qQ;refine bf (List.length_filter_le _ _) ?_;rw [List.length_range];exact aG _
structure abC (aJ:List By) (ds:List RF) (x:By):Prop where
 ord:RN aJ ds
 one:∀ (i:Nat) (hi:i<G ds),rO ds x i\/ds[i].nm=x->aJ.count ds[i].nm=1
 all:∀ V:List Bool,G V=G ds->(∀ i,V[i]?=some true↔rO ds x i)->qQ ds V x (G ds)=G aJ
def TZ (h:ll w v aJ) (H:(G aJ)<=1000) (F:dU w vl ds) (u:pP ds) (U:(G x)<=1000) (M:abC aJ ds x):zC prog 117 #[v,vl,zG x] w λr w'=>r=.returned (.bool true)/\zB w w':=by
 obtain ⟨a,c,rfl⟩:=xS h;have HR:=I h;have HL:=I F;have X:=I M;have wR:((G aJ):Int)<=1000:=a6.2 H;have HH:=I (Kq ds x F u U);have J:=I (λW (E:zB w W)=>Aj (h.below E) H (F.next E) u M.ord);obtain ⟨t,a2,c2,rfl,-⟩:=F;have Y:((G ds):Int)<=1000:=a6.2 t;have S:=I (λW (E:ll W (.slice a (G aJ) c) aJ) x=>Bh E H x);have Z:=I t;clear h H u M t U;go_in;go_wp2_with (go_at_call 152;refine mo HH.o ?_;rintro e w1 ⟨b1,V,rfl,K,m,A,B,y⟩);have k:=I y;have N:=I m;have C:=I A;have z:=I B;clear y m A B K;apply I;go_wp2_with fail;go_loopg [8,9] (G ds) (λgk n i wr=>∃ j:Nat,j<=G ds/\(G ds)<=j+gk/\i=zI j/\n=zI (qQ ds V x j:Int)/\wr=w1)
 case atStart=>exact Yq
 case round=>
  obtain ⟨j,T,P,rfl,rfl,rfl⟩:=hrel;rcases cC j (G ds) with b|b
  ·have hlt:=eu b;have eQ:=I (eJ b P);have q:j<(G V):=by rw [C.o];exact b
   obtain ⟨g,o,rfl,-,c0,-⟩:=fA (HL.o.next k.o) b;obtain ⟨r0,-,-⟩:=N.o.at (i:=j) q;have f:=I (abA (x:=x) b q);have yR:((qQ ds V x j:Nat):Int)<=1000:=a6.2 (bf (abB j) (bf T Z.o));have hc0:(0:Int)<=((qQ ds V x j:Nat):Int):=mF _;have s:Hid (V[j]=true->rO ds x j):=I λe=>(z.o j).1 (by rw [cU q,e]);have l:=I (X.o.one j b);by_cases d:V[j]=true\/ds[j].nm=x
   ·rw [aB d] at f;have p:aJ.count ds[j].nm=1:=l.o (d.imp s.o id);have HX:=I (show ((qQ ds V x j:Nat):Int)+1=((qQ ds V x (j+1):Nat):Int) by rw [f.o];rfl);have HC:=I (S.o _ (HR.o.below k.o) ds[j].nm);rw [p] at HC;have L:(V[j]=true)\/(V[j]=false/\(ds[j].nm == x)=true):=by
     cases Jv:V[j] with
     | true=>exact Or.inl rfl
     | false=>exact Or.inr ⟨rfl,by rcases d with d|d;(rw [Jv] at d;cases d);simpa using d⟩
    clear d s l f p;generalize V[j]=bj at *;rcases L with Jv|⟨Jv,Q⟩
    ·exact Xe
    ·exact Xe
   ·rw [aA d] at f;have HX:=I (show ((qQ ds V x j:Nat):Int)=((qQ ds V x (j+1):Nat):Int) by rw [f.o];rfl);have Jv:V[j]=false:=by
     cases Jv:V[j] with
     | true=>exact absurd (Or.inl Jv) d
     | false=>rfl
    have Q:(ds[j].nm == x)=false:=by simpa using λe=>d (Or.inr e)
    clear d s l f;generalize V[j]=bj at *;subst Jv;go_wp2_with fail;go_roundg (G ds - (j+1))
    case measure=>exact eQ.o.2.1
    case rel=>exact Mv
  ·have tA:=eH b;obtain rfl:j=(G ds):=lT T b;rw [X.o.all V C.o z.o];have O:=I (J.o _ k.o);go_wp2_with (go_at_call 121;refine mo O.o ?_;rintro e w3 ⟨rfl,D⟩;have R:=I (k.o.t (D.m k.o.size));clear D);apply I;go_wp2_with fail;go_ret;exact ⟨aq,R.o⟩
def abz (aJ:List By) (H:List RF):Prop:=∀ (i:Nat) (b:i<G aJ),aJ.count aJ[i]=1/\aJ[i].length<=1000/\∃ (a:Nat) (c:a<G H),bK H aJ[i]=(a:Int)/\gC H[a].rl (aJ[(i+1) % G aJ]'(Nat.mod_lt _ (th (bE _) b)))=true
def ait {j n:Nat} (h:(j:Int)<(n:Int)) (a:(n:Int)<=1000):IntKind.i64.wrap ((j:Int)+1)=(j:Int)+1:=by
 rw [IntKind.wrap_i64];omega
def TY {j n:Nat} (h:0<n):Int.tmod ((j:Int)+1) (n:Int)=(((j+1) % n:Nat):Int):=by
 rw [show ((j:Int)+1)=((j+1:Nat):Int) from rfl];exact (Int.ofNat_tmod _ _).symm
def Ko (h:ll w v aJ) (K:(G aJ)<=1000) (X:dU w vl H) (B:pP H) (ho:abz aJ H) (hx:aJ.count x=1):zC prog 119 #[v,vl,zG x] w λr w'=>r=.returned (.bool true)/\zB w w':=by
 obtain ⟨a,c,rfl⟩:=xS h;have Q:=I h;have HL:=I X;have U:=I B;have HO:=I ho;have N:((G aJ):Int)<=1000:=a6.2 K;obtain ⟨u,a2,c2,rfl,-⟩:=X;have alE:((G H):Int)<=1000:=a6.2 u;have J:=I (λW (hW:ll W (.slice a (G aJ) c) aJ) x=>Bh hW K x);have HX:=I hx;have HN:=I K;clear h K B ho u hx;go_in;go_wp2_with fail;go_loopg [7] (G aJ) (λgk i wr=>∃ j:Nat,j<=G aJ/\(G aJ)<=j+gk/\i=zI j/\Hid (zB w wr))
 case atStart=>exact MH
 case round=>
  obtain ⟨j,hj,P,rfl,p⟩:=hrel;rcases cC j (G aJ) with d|d
  ·have t:=eu d;have s:=I (eJ d P);obtain ⟨A,ho4,f,ha,E,D⟩:=HO.o j d;have C:=I (Q.o.below p.o);have z:=I (HL.o.next p.o);obtain ⟨b,rfl,hc⟩:=uV C.o d;have Z:=I (J.o _ C.o aJ[j]);rw [A] at Z;have V:=I (find_ok H aJ[j] z.o);rw [E] at V;have ha0:¬ ((f:Int)<0):=Int.not_lt.2 (mF _);have ha1:(f:Int)<((G H):Int):=iD.2 ha;have T:=I D;obtain ⟨g,o,rfl,-,-,-⟩:=fA z.o ha;have n:=I (U.o _ (bt ha));obtain ⟨rl,HRL⟩:∃ rl,Hid (H[f].rl=rl):=⟨_,I rfl⟩;clear A E D;go_wp2_with (first|(go_at_call 122;refine mo V.o ?_;rintro e w2 ⟨rfl,rfl⟩) );apply I;go_wp2_with (go_at_call 37;refine mo Z.o ?_;rintro e w3 ⟨rfl,rfl⟩);apply I;go_wp2_with fail;obtain ⟨m,q⟩:∃ m,Hid ((j+1) % G aJ=m):=⟨_,I rfl⟩;have S:m<(G aJ):=q.o▸Nat.mod_lt _ (th (bE _) d);have hml:=eu S;have htm:Int.tmod ((j:Int)+1) ((G aJ):Int)=(m:Int):=q.o▸TY (th (bE _) d);have hw1:IntKind.i64.wrap ((j:Int)+1)=(j:Int)+1:=ait t N;have hm0:(0:Int)<=(m:Int):=mF _;have hne:¬ aJ=[]:=λe=>by rw [e] at d;exact absurd d (pH _)
   have O:¬ ((G aJ):Int)=0:=λe=>by rw [e] at t;exact absurd t (Int.not_lt.2 (mF _))
   have Y:(((G aJ):Int) == 0)=false:=bo.2 O;have M:Hid (gC H[f].rl aJ[m]=true):=I (by
    have:=T.o;simp only [q.o] at this;exact this)
   have L:Hid (∀ l,zB w3 l->zC prog 154 #[.string ⟨H[f].rl.toArray⟩,.string ⟨aJ[m].toArray⟩] l λr w'=>r=.returned (.bool true)/\zB w w'):=I λl hW=>by
    refine (ot (w:=l) H[f].rl aJ[m] n.o.1 n.o.2.1 (HO.o m S).2.1).m ?_;rintro e w4 ⟨rfl,k⟩;exact ⟨by rw [M.o],(p.o.t (hW.m p.o.size)).t (k.m (bf p.o.size hW.size))⟩
   have F:Hid (∀ l,zB w l->l.cell? ⟨g,o+f*4+1,none⟩=some (.string ⟨H[f].rl.toArray⟩)/\l.cell? (b.add m)=some (.string ⟨aJ[m].toArray⟩)):=I λl hW=>by
    obtain ⟨b',e',Jw⟩:=uV (Q.o.below hW) S;exact XY
   obtain ⟨d1,Jw⟩:=F.o _ p.o
   go_region_held3 (λw'=>w'.cell? ⟨g,o+f*4+1,none⟩=some (.string ⟨H[f].rl.toArray⟩)/\w'.cell? (b.add m)=some (.string ⟨aJ[m].toArray⟩)) (first|(with_reducible exact ⟨d1,Jw⟩)|go_keep) (first|(go_at_call 154;(with_reducible refine (L.o _ (aM _ _).drew).m ?_);rintro e w4 ⟨rfl,k⟩;obtain ⟨d1,Jw⟩:=F.o _ k;have R:=I k;clear k))
   go_wp2_with fail;go_roundg (G aJ - (j+1))
   case measure=>exact s.o.2.1
   case rel=>exact ⟨j+1,s.o.2.2,s.o.1,aq,R⟩
  ·have tA:=eH d;obtain rfl:j=(G aJ):=lT hj d;have y:=I (J.o _ (Q.o.below p.o) x);rw [HX.o] at y;go_wp2_with (go_at_call 37;refine mo y.o ?_;rintro e w2 ⟨rfl,rfl⟩);apply I;go_wp2_with fail;go_ret;exact ⟨rfl,p.o⟩
variable {w1:zW} {Z:zV} {V:List Bk} {C:Nat->Prop} {T B:Nat}
def RP (h:w.ownsRow B 126 5 Z (G V) (xV V)):∃ l c,Z=.slice l (G V) c/\(G V)<=c/\∀ (j:Nat) (f:j<G V),∃ g,l=some ⟨g,0,none⟩/\g<w.heap.size/\∀ W,zB w W->W.cell? ⟨g,j*5,none⟩=some V[j].l/\W.cell? ⟨g,j*5+1,none⟩=some V[j].a/\W.cell? ⟨g,j*5+2,none⟩=some V[j].b/\W.cell? ⟨g,j*5+3,none⟩=some V[j].c/\W.cell? ⟨g,j*5+4,none⟩=some (.string ⟨V[j].m.toArray⟩):=by
 rcases h.2 with ⟨rfl,q⟩|⟨g,c,s,rfl,t,e,d,o,m,i⟩
 ·exact ⟨none,0,by rw [q],ae,λj f=>ae⟩
 ·refine ⟨_,c,rfl,d,λj f=>⟨g,rfl,(cz.1 e).1,λW n=>?_⟩⟩;have b:=(cz.1 e).1;have a:∀ k,k<5->W.cell? ⟨g,j*5+k,none⟩=(V[j].cells)[k]?:=λk r=>by
   rw [n.cell (p:=⟨g,j*5+k,none⟩) b,bq w g (j*5+k) _ _ _ e,<- RO V j f k r,<- i,sX,aB ae,Array.getElem?_toList]
  exact ⟨(a 0 ae).t rfl,(a 1 ae).t rfl,(a 2 ae).t rfl,(a 3 ae).t rfl,(a 4 ae).t rfl⟩
def T2 (hc:w.cell? ⟨T,2,none⟩=some Z) (h:w.ownsRow B 126 5 Z (G V) (xV V)) (Y:(G V)<=10000000) (hb:∀ x,x∈V->sJ w C x):zC prog 39 #[.pointer (some ⟨T,2,none⟩)] w λr w'=>r=.returned (.bool true)/\zB w w':=by
 obtain ⟨ao,c,rfl,_,hr⟩:=RP h;have HR:=I hr;have HB:=I hb;have hl1:((G V):Int)<=10000000:=a6.2 Y;have HC:Hid (∀ W,zB w W->W.cell? ⟨T,2,none⟩=some (.slice ao (G V) c)):=I λW l=>(l.cell (p:=⟨T,2,none⟩) (gI w _ hc)).t hc;clear h hb Y hr;go_in;go_wp2_with fail;go_loopg [3] (G V) (λgk i wr=>∃ j:Nat,j<=G V/\(G V)<=j+gk/\i=zI j/\Hid (zB w wr))
 case atStart=>exact MH
 case round=>
  obtain ⟨j,hj,E,rfl,t⟩:=hrel;have c0:=HC.o _ t.o;rcases cC j (G V) with d|d
  ·have hlt:=eu d;have q:=I (eJ d E);obtain ⟨g,rfl,hg,u⟩:=HR.o j d;obtain ⟨x0,x1,x2,x3,x4⟩:=u _ t.o;have S:=I (HB.o _ (bt d));have a:Hid (∀ W,zB w W->sJ W C V[j]):=I λW l=>S.o.ks (P:=λ_=>False) (Ks.of l) λ_ _ h=>h;obtain ⟨⟨M,K,v,e0,-⟩,⟨L,F,y,e1,-⟩,⟨O,H,A,X,-⟩,⟨R,N,Q,e3,-⟩⟩:=S.o;unfold sJ at a;rw [e0] at x0 a;rw [e1] at x1 a;rw [X] at x2 a;rw [e3] at x3 a;generalize V[j].m=m at *;clear u e0 e1 X e3 S;have s:Hid (∀ W,zB w W->(zC prog 58 #[.slice M K v,zG m] W λr w'=>r=.returned (.bool true)/\w'=W)/\(zC prog 58 #[.slice L F y,zG m] W λr w'=>r=.returned (.bool true)/\w'=W)/\(zC prog 58 #[.slice O H A,zG m] W λr w'=>r=.returned (.bool true)/\w'=W)/\zC prog 58 #[.slice R N Q,zG m] W λr w'=>r=.returned (.bool true)/\w'=W):=I λW l=>⟨xU (a.o W l).1,xU (a.o W l).2.1,xU (a.o W l).2.2.1,xU (a.o W l).2.2.2⟩;have n:Hid (∀ o,zB w (wr.alloc o)):=I λo=>t.o.alloc t.o.size o;clear a;have J:wr.heap.size<(wr.heap.size+1):=Nat.lt_succ_self _;go_wp2_with (go_at_call 58;refine (s.o _ (n.o _)).1.m ?_;rintro e w4 ⟨rfl,f⟩;replace f:=I f;apply Hid.o);replace f:=f.o;have k:Hid (zB w w4):=I (by rw [f];exact n.o _);have b:w4.heap[wr.heap.size]?=some (.cells #[.slice M K v,.slice L F y,.slice O H A,.slice R N Q,zG m] 126 (0,0)):=by rw [f];simp only [World.alloc,yi]
   have z0:w4.cell? ⟨wr.heap.size,0,none⟩=some (.slice M K v):=(bq w4 _ 0 _ _ _ b).t rfl;have z1:w4.cell? ⟨wr.heap.size,1,none⟩=some (.slice L F y):=(bq w4 _ 1 _ _ _ b).t rfl;have z2:w4.cell? ⟨wr.heap.size,2,none⟩=some (.slice O H A):=(bq w4 _ 2 _ _ _ b).t rfl;have z3:w4.cell? ⟨wr.heap.size,3,none⟩=some (.slice R N Q):=(bq w4 _ 3 _ _ _ b).t rfl;have z4:w4.cell? ⟨wr.heap.size,4,none⟩=some (zG m):=(bq w4 _ 4 _ _ _ b).t rfl;have z:=I (s.o _ k.o).2.1;have D:=I (s.o _ k.o).2.2.1;have U:=I (s.o _ k.o).2.2.2;clear f b s n J;apply I;go_wp2_with (go_at_call 58;refine mo z.o ?_;rintro e w5 ⟨rfl,rfl⟩);apply I;go_wp2_with (go_at_call 58;refine mo D.o ?_;rintro e w5 ⟨rfl,rfl⟩);apply I;go_wp2_with (go_at_call 58;refine mo U.o ?_;rintro e w5 ⟨rfl,rfl⟩);apply I;go_wp2_with fail;go_roundg (G V - (j+1))
   case measure=>exact q.o.2.1
   case rel=>exact ⟨j+1,q.o.2.2,q.o.1,aq,k⟩
  ·have tA:=eH d;obtain rfl:j=(G V):=lT hj d;go_wp2_with fail;go_ret;exact ⟨rfl,t.o⟩
end
end Go.Proofs.YtihgojcfpnhelaaGreatDoor
