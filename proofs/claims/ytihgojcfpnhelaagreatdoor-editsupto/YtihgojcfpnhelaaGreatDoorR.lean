import Derived.Test.YtihgojcfpnhelaaGreatDoorJb
import Derived.Test.YtihgojcfpnhelaaGreatDoorShelf
set_option maxRecDepth 100000
set_option maxHeartbeats 4000000
set_option linter.all false
namespace Go.Proofs.YtihgojcfpnhelaaGreatDoor
open Value renaming agg->zd,tuple->zp,bool->zF
open Obj renaming cells->zM
open Ending renaming returned->zP
open Option renaming some->A
open Go renaming World->zW,Value->zV,Calls->zC,Addr->zD
open Go.RowKit Go.Proofs.Tryz
open List renaming length→G
def kv (l:By):Prop:=∀ x,x∈l->cT x=true
def lq (n:Nat) (c:UInt8):Nat:=10*n+(c.toNat - 48)
def uz (l:By):cR l=l.foldl lq 0:=rfl
def Lk (l:By) (a:Nat):a<=l.foldl lq a:=by
 induction l generalizing a with
 | nil=>simp
 | cons c l b=>
  rw [wC];exact bf (by unfold lq;omega) (b (lq a c))
def G1 (l:By) (a M:Nat) (k:M=18446744073709551615) (e:kv l) (i:a<=M) :
  Lib.parseUintM M a l=if l.foldl lq a<=M then .ok (l.foldl lq a) else .range:=by
 induction l generalizing a with
 | nil=>simp [Lib.parseUintM,i]
 | cons c l h=>
  have g:=gq (e c (by simp));have j:kv l:=λx D=>e x (by simp [D]);rw [wC];unfold Lib.parseUintM;rw [aB g];have C:lq a c=a*10+(c.toNat - 48):=(by unfold lq;omega);have f:=Lk l (lq a c);by_cases b:1844674407370955162<=a
  .rw [aB b,aA (by omega)]
  .rw [aA b];by_cases d:M<a*10+(c.toNat - 48)
   .rw [aB d,aA (by omega)]
   .rw [aA d,<- C];exact h _ j (by omega)
def Ll (c:UInt8) (r:By) (b:kv (c::r)) :
  Lib.parseIntB 64 (c::r)=if cR (c::r)<=gP then .ok (cR (c::r):Int) else .range:=by
 have e:=gq (b c (by simp));rw [Lib.parseIntB_plain 64 c r (by omega) (by omega)];unfold Lib.parseUintB;rw [aA (by simp),G1 (c::r) 0 (2 ^ 64 - 1) (by decide +kernel) b (by omega),<- uz];have e1:(2:Nat) ^ 64 - 1=18446744073709551615:=(by decide +kernel);have d:(2:Nat) ^ (64 - 1)=9223372036854775808:=(by decide +kernel);rw [e1,d];unfold gP;by_cases h:cR (c::r)<=18446744073709551615
 .rw [aB h];unfold Lib.signlessC;by_cases a:9223372036854775808<=cR (c::r)
  .simp only [aB a];rw [aA (by omega)]
  .simp only [aA a];rw [aB (by omega)]
 .rw [aA h,aA (by omega)];rfl
def zO {c:UInt8} (h:cT c=true):UInt8.ofNat (48+(c.toNat - 48))=c:=by
 have:=gq h;rw [show 48+(c.toNat - 48)=c.toNat by omega];simp
def Qj (l:By) (x:UInt8) (a:Nat):(l++[x]).foldl lq a=10*l.foldl lq a+(x.toNat - 48):=by
 simp [lq]
def Qk (n:Nat):∀ (c:UInt8) (r:By),G r=n->kv (c::r)->c≠48->Lib.decDigits (cR (c::r))=c::r:=by
 induction n with
 | zero=>
  intro c r D C g;obtain rfl:=zE.1 D;have h:=gq (C c (by simp));rw [uz];show Lib.decDigits (lq 0 c)=[c];rw [Lib.decDigits_one (by unfold lq;omega),show lq 0 c=c.toNat - 48 by unfold lq;omega,zO (C c (by simp))]
 | succ n o=>
  intro c r D C g;have d:r≠[]:=by intro h;rw [h] at D;simp at D
  obtain ⟨a,x,rfl⟩:∃ a x,r=a++[x]:=⟨r.dropLast,r.getLast d,(List.dropLast_concat_getLast d).symm⟩;have i:G a=n:=(by simpa using D);have f:kv (c::a):=λy l=>C y (by simp at l ⊢;rcases l with h|h<;>simp [h]);have k:=C x (by simp);have p:=gq k;have e:=o c a i f g;have b:cR (c::(a++[x]))=10*cR (c::a)+(x.toNat - 48):=by
   rw [uz,uz,<- gT,Qj]
  have j:1<=cR (c::a):=by
   rw [uz,wC];refine bf ?_ (Lk a (lq 0 c));have m:=gq (C c (by simp));have:c.toNat≠48:=by
    intro h;apply g;apply UInt8.toNat_inj.1;simpa using h
   unfold lq;omega
  rw [b,Lib.decDigits,dif_neg (by omega),show (10*cR (c::a)+(x.toNat - 48)) / 10=cR (c::a) by omega,show (10*cR (c::a)+(x.toNat - 48)) % 10=x.toNat - 48 by omega,e,zO k];rfl
def Ql (l:By) (b:l≠[]) (C:kv l):Lib.decDigits (cR l)=dy l:=by
 induction l with
 | nil=>exact absurd rfl b
 | cons c r e=>
  match r,e,C with
  | [],_,C=>
   have h:=gq (C c (by simp));show Lib.decDigits (lq 0 c)=[c];rw [Lib.decDigits_one (by unfold lq;omega),show lq 0 c=c.toNat - 48 by unfold lq;omega,zO (C c (by simp))]
  | d::r,e,C=>
   by_cases a:c=48
   .subst a;have g:cR (48::d::r)=cR (d::r):=rfl;have D:dy (48::d::r)=dy (d::r):=by
     have:=C d (by simp);simp [dy,this]
    rw [g,D];exact e (by simp) λx f=>C x (by simp at f ⊢;rcases f with h|h<;>simp [h])
   .have D:dy (c::d::r)=c::d::r:=by simp [dy,a]
    rw [D];exact Qk _ c (d::r) rfl C a
def zr (c:UInt8) (r:By) (w:zW) (d:G r<=1000) (b:kv (c::r)) (a:cR (c::r)<=gP) :
  zC prog 125 #[Q (c::r),J 10,J 64] w λe C=>e=zP (zp #[J (cR (c::r):Int),.nilIface])/\zB w C:=
 (strconv_ParseInt_10_at64_ok ⟨(c::r).toArray⟩ (by show (c::r).length<=9223372036854775806;simp;omega) (cR (c::r):Int) ((Ll c r b).t (aB a)) w).m λe C h=>⟨h.1,by
  rcases h.2 with rfl|⟨t,rfl⟩
  .exact aM _ _
  .exact Lib.bytesWorld_below _ _ _⟩
def IJ (c:UInt8) (r:By) (w:zW) (i:Env w) (k:G r<=1000) (f:kv (c::r)) (g:¬ cR (c::r)<=gP) :
  zC prog 125 #[Q (c::r),J 10,J 64] w λe C=>∃ z N,e=zP (zp #[J z,.iface 270 (zJ N)])/\zB w C:=by
 obtain ⟨d,p,a⟩:=i.range;exact (strconv_ParseInt_10_at64_range_var ⟨(c::r).toArray⟩ (by show (c::r).length<=281474976710656;simp;omega) ((Ll c r f).t (aA g)) d p w a).m λe C h=>by
  obtain ⟨N,b,_,_,j⟩:=h;exact ⟨_,N,b,j⟩
def IK (w:zW) (k:Nat) (a:Array Obj):zB w (Sort.grow (w.drewN k) a):=by
 refine ⟨rfl,rfl,rfl,?_,λj b=>?_⟩
 .show w.heap.size<=(w.heap++a).size;simp
 .show (w.heap++a)[j]?=w.heap[j]?;rw [Array.getElem?_append_left b]
def U7 (n:Nat) (w:zW) (c:Env w) (d:n<=gP) :
  zC prog 132 #[J n,J 10] w λe C=>e=zP (Q (Lib.decDigits n))/\zB w C:=
 (strconv_FormatInt_10 (n:Int) (by omega) (by unfold gP at d;omega) w c.pow).m λe C h=>by
  obtain ⟨a,k,b,rfl⟩:=h;rw [Lib.itoa_nonneg] at a;exact ⟨a,IK w k b⟩
def uA {W w1:zW} (a:zB W w1):(∀ b o,b<W.heap.size->w1.cell? (X b o)=W.cell? (X b o))/\(∀ b o,b<W.heap.size->w1.frozen? (X b o)=W.frozen? (X b o)):=
 ⟨λb o h=>a.cell (p:=X b o) h,λb o h=>a.frozen (p:=X b o) h⟩
def kZ (w:zW) (k:Int) (x:By) (nn:Int) (ok:Bool) (e:Ending) (w':zW):Prop:=
 e=zP (zp #[zd #[J k,J 0,Q x,J nn],zF ok])/\zB w w'
def Er (c:UInt8) (r:By) (w:zW) (d:Env w) (i:G r<=1000) (a:kv (c::r)) (b:¬ cR (c::r)<=gP) :
  zC prog 90 #[Q (c::r)] w (kZ w 0 [] 0 false):=by
 have g:=I a;have h:=I b;have f:=I d;clear a b d;go_in;go_wp2_with (go_at_call 125;refine mo (IJ c r _ (f.o.next (bZ _)) i g.o h.o) ?_;rintro e E ⟨z,N,rfl,C⟩);apply I;obtain ⟨D,k⟩:=uA C;have j:w.heap.size<E.heap.size:=(by have:=C.size;simp at this;omega);go_wp2;exact aK (v:=zp #[zd #[J 0,J 0,Q [],J 0],zF false]) (by simp [results,results90,go_sem,D]) rfl ⟨rfl,(((((bZ _).t (C.m (by simp))).setCell (aG _) _).setCell (aG _) _).setCell (aG _) _).setCell (aG _) _⟩
def IL (c:UInt8) (r:By) (w:zW) (h:G r<=1000) (a:kv (c::r)) (b:cR (c::r)<=gP) (d:19<G r+1) :
  zC prog 90 #[Q (c::r)] w (kZ w 0 [] 0 false):=by
 have f:=I a;have g:=I b;clear a b;go_in;go_wp2_with (go_at_call 125;refine mo (zr c r _ h f.o g.o) ?_;rintro e E ⟨rfl,C⟩);apply I;obtain ⟨D,j⟩:=uA C;have i:w.heap.size<E.heap.size:=(by have:=C.size;simp at this;omega);go_wp2;exact aK (v:=zp #[zd #[J 0,J 0,Q [],J 0],zF false]) (by simp [results,results90,go_sem,D]) rfl ⟨rfl,(((((bZ _).t (C.m (by simp))).setCell (aG _) _).setCell (aG _) _).setCell (aG _) _).setCell (aG _) _⟩
def Qm (c:UInt8) (r:By) (w:zW) (j:G r<=1000) (b:kv (c::r)) (f:cR (c::r)<=gP) (g:¬ 19<G r+1) :
  zC prog 90 #[Q (c::r)] w (kZ w 1 [] (cR (c::r):Int) true):=by
 have h:=I b;have i:=I f;clear b f;generalize d:cR (c::r)=V at *;have a:=I d;clear d;go_in;go_wp2_with (go_at_call 125;refine (zr c r _ j h.o (a.o▸i.o)).m ?_;rw [a.o];rintro e E ⟨rfl,C⟩;apply Hid.o);apply I;obtain ⟨D,l⟩:=uA C;have k:w.heap.size<E.heap.size:=(by have:=C.size;simp at this;omega);go_wp2;exact aK (v:=zp #[zd #[J 1,J 0,Q [],J V],zF true]) (by simp [results,results90,go_sem,D]) rfl ⟨rfl,(((((bZ _).t (C.m (by simp))).setCell (aG _) _).setCell (aG _) _).setCell (aG _) _).setCell (aG _) _⟩
section
attribute [local go_sem] ap aq
def Qn (c:UInt8) (r:By) (w:zW) (b:G r<=1000) (a:6<G r+1) :
  zC prog 91 #[Q (c::r)] w (kZ w 0 [] 0 false):=by
 go_in;go_wp2;exact aK (v:=zp #[zd #[J 0,J 0,Q [],J 0],zF false]) (by simp [results,results91,go_sem]) rfl ⟨rfl,(aM _ _).alloc (aG _) _⟩
def Qo (c:UInt8) (r:By) (w:zW) (b:Env w) (g:¬ 6<G r+1) (k:Int) (a:fH (c::r)=A k) :
  zC prog 91 #[Q (c::r)] w (kZ w k [] 0 true):=by
 have d:=I b;have f:=I a;clear b a;go_in;go_wp2_with (go_at_call 92;refine (xk (c::r) _ (d.o.next (bZ _))).m ?_;rw [f.o];rintro e E ⟨rfl,C⟩;apply Hid.o);apply I;obtain ⟨D,i⟩:=uA C;have h:w.heap.size<E.heap.size:=(by have:=C.size;simp at this;omega);go_wp2;exact aK (v:=zp #[zd #[J k,J 0,Q [],J 0],zF true]) (by simp [results,results91,go_sem,D]) rfl ⟨rfl,(((((bZ _).t (C.m (by simp))).setCell (aG _) _).setCell (aG _) _).setCell (aG _) _).setCell (aG _) _⟩
def G2 (s:By) (w:zW) (b:G s<=1000) :
  zC prog 126 #[Q s] w λe C=>e=zP (Q s)/\zB w C:=by
 have H:=I (λw=>Go.Proofs.Any.stringslite_Clone laysM316 ⟨s.toArray⟩ w (by show (G s)<=281474976710656;omega));go_in;go_wp2_with (go_at_call 157;refine (H.o _).m ?_;rintro e D ⟨rfl,a⟩);go_ret;exact ⟨rfl,a⟩
def Qp (c:UInt8) (r:By) (w:zW) (g:Env w) (k:¬ 6<G r+1) (f:fH (c::r)=none) :
  zC prog 91 #[Q (c::r)] w (kZ w 2 (c::r) 0 true):=by
 have h:=I g;have i:=I f;have j:=I (show (c::r).length<=1000 by simp;omega);clear g f;go_in;go_wp2_with (go_at_call 92;refine (xk (c::r) _ (h.o.next (bZ _))).m ?_;rw [i.o];rintro e E ⟨rfl,b⟩;apply Hid.o);apply I;go_wp2_with (go_at_call 126;refine mo (G2 (c::r) _ j.o) ?_;rintro e D ⟨rfl,d⟩);apply I;have a:=b.t (d.m b.size);obtain ⟨C,m⟩:=uA a;have l:w.heap.size<D.heap.size:=by have:=a.size;simp at this;omega
 go_wp2;exact aK (v:=zp #[zd #[J 2,J 0,Q (c::r),J 0],zF true]) (by simp [results,results91,go_sem,C]) rfl ⟨rfl,(((((bZ _).t (a.m (by simp))).setCell (aG _) _).setCell (aG _) _).setCell (aG _) _).setCell (aG _) _⟩
def ej (t:By):By:=if ae t then [] else eh t
def fw (t:By):Nat:=if ae t then cR t else 0
def uB (row:By):Int × By × Nat × Bool:=if di row then (fU row,ej row,fw row,true) else (0,[],0,false)
def pj (c:UInt8) (r:By) (n:fF c=false):(fH (c::r)).isSome=b5 (c::r) iV:=by
 by_cases h:b5 (c::r) iV=true
 .rw [h];simp only [b5,iV,pF,bQ,jA,iK] at h;rcases h with h|h|h|h|h|h|h|h|h|h<;>rw [h]<;>decide
 .have o:b5 (c::r) iV=false:=(by simpa using h);rw [o];have:fH (c::r)=none:=by
   apply se;intro j p m;have e:(dX[j])∈dX:=bt p;have i:∀ x,x∈dX->x.1=c::r->False:=by
    intro x l a;simp only [dX,bQ,jA,iK] at l;have b:∀ d s,d::s=c::r->fF d=true->False:=by
     intro d s f g;simp at f;rw [f.1,n] at g;cases g
    have k:∀ s,s=c::r->s∈iV->False:=by
     intro s f g;apply h;rw [<- f];simpa [b5] using g
    rcases l with rfl|rfl|rfl|rfl|rfl|rfl|rfl|rfl|rfl|rfl|rfl|rfl|rfl|rfl|rfl|rfl
    .exact b _ _ a (by decide)
    .exact b _ _ a (by decide)
    .exact b _ _ a (by decide)
    .exact b _ _ a (by decide)
    .exact b _ _ a (by decide)
    .exact b _ _ a (by decide)
    all_goals exact k _ a (by decide)
   exact i _ e m
  rw [this];rfl
def IM (c:UInt8) (r:By) (w:zW) (k:Int) (x:By) (nn:Int) (ok:Bool) (a:cT c=true) (b:∀ w',zB w w'->zC prog 90 #[Q (c::r)] w' (kZ w' k x nn ok)) :
  zC prog 60 #[Q (c::r)] w (kZ w k x nn ok):=by
 have f:dm (c.toNat:Int)=true:=a;have d:=I b;clear b a;go_in;go_wp2_with (first|(go_at_call 87;refine (jJ (c.toNat:Int) _).m ?_;rintro e w' ⟨rfl,rfl⟩)|(go_at_call 90;refine mo (d.o _ (bZ _)) ?_;rintro e E ⟨rfl,C⟩));apply I;obtain ⟨D,h⟩:=uA C;have g:w.heap.size<E.heap.size:=(by have:=C.size;simp at this;omega);go_wp2;exact aK (v:=zp #[zd #[J k,J 0,Q x,J nn],zF ok]) (by simp [results,results60,go_sem,D]) rfl ⟨rfl,(((((bZ _).t (C.m (by simp))).setCell (aG _) _).setCell (aG _) _).setCell (aG _) _).setCell (aG _) _⟩
def IP (c:UInt8) (r:By) (w:zW) (k:Int) (x:By) (nn:Int) (ok:Bool) (b:cT c=false) (a:fF c=true) (d:∀ w',zB w w'->zC prog 91 #[Q (c::r)] w' (kZ w' k x nn ok)) :
  zC prog 60 #[Q (c::r)] w (kZ w k x nn ok):=by
 have g:dm (c.toNat:Int)=false:=b;have h:jK (c.toNat:Int)=true:=a;have f:=I d;clear d b a;go_in;go_wp2_with (first|(go_at_call 87;refine (jJ (c.toNat:Int) _).m ?_;rintro e w' ⟨rfl,rfl⟩)|(go_at_call 88;refine (lB (c.toNat:Int) _).m ?_;rintro e w' ⟨rfl,rfl⟩)|(go_at_call 91;refine mo (f.o _ (bZ _)) ?_;rintro e E ⟨rfl,C⟩));apply I;obtain ⟨D,j⟩:=uA C;have i:w.heap.size<E.heap.size:=(by have:=C.size;simp at this;omega);go_wp2;exact aK (v:=zp #[zd #[J k,J 0,Q x,J nn],zF ok]) (by simp [results,results60,go_sem,D]) rfl ⟨rfl,(((((bZ _).t (C.m (by simp))).setCell (aG _) _).setCell (aG _) _).setCell (aG _) _).setCell (aG _) _⟩
def G3 (c:UInt8) (r:By) (w:zW) (f:Env w) (d:cT c=false) (a:fF c=false) :
  zC prog 60 #[Q (c::r)] w (kZ w ((fH (c::r)).getD 0) [] 0 (fH (c::r)).isSome):=by
 have i:dm (c.toNat:Int)=false:=d;have l:jK (c.toNat:Int)=false:=a;have j:=I f;clear f d a;generalize h:(fH (c::r)).getD 0=k;generalize g:(fH (c::r)).isSome=b;have n:=I h;have m:=I g;clear h g;go_in;go_wp2_with (first|(go_at_call 87;refine (jJ (c.toNat:Int) _).m ?_;rintro e E ⟨rfl,rfl⟩)|(go_at_call 88;refine (lB (c.toNat:Int) _).m ?_;rintro e E ⟨rfl,rfl⟩)|(go_at_call 92;refine (xk (c::r) _ (j.o.next (bZ _))).m ?_;rw [n.o,m.o];rintro e F ⟨rfl,C⟩;apply Hid.o));apply I;obtain ⟨D,p⟩:=uA C;have o:w.heap.size<F.heap.size:=(by have:=C.size;simp at this;omega);go_wp2;exact aK (v:=zp #[zd #[J k,J 0,Q [],J 0],zF b]) (by simp [results,results60,go_sem,D]) rfl ⟨rfl,(((((bZ _).t (C.m (by simp))).setCell (aG _) _).setCell (aG _) _).setCell (aG _) _).setCell (aG _) _⟩
def vd (c:UInt8) (r:By) (h:cT c=false):ej (c::r)=eh (c::r)/\fw (c::r)=0:=by
 have a:ae (c::r)=false:=h;unfold ej fw;rw [a];exact ⟨rfl,rfl⟩
def Dw (c:UInt8) (r:By) (w:zW) (l:Env w) (j:G r<=1000) (m:cT c=true->kv (c::r)) :
  zC prog 60 #[Q (c::r)] w (kZ w (uB (c::r)).1 (uB (c::r)).2.1 ((uB (c::r)).2.2.1:Int) (uB (c::r)).2.2.2):=by
 have D:ae (c::r)=cT c:=rfl;have f:j6 (c::r)=fF c:=rfl;cases C:cT c
 .cases a:fF c
  .have h:=G3 c r w l C a;rw [pj c r a] at h;unfold uB di;rw [D,f,C,a];simp only [sY,k8];cases b:b5 (c::r) iV
   .have p:fH (c::r)=none:=by
     have:=pj c r a;rw [b] at this;simpa using this
    rw [p,b] at h;exact h
   .have H:=pj c r a;rw [b] at H;obtain ⟨k,o⟩:=Option.isSome_iff_exists.1 H;rw [o,b] at h;have e1:fU (c::r)=k:=by unfold fU;rw [D,C,o];rfl
    have d:eh (c::r)=[]:=by unfold eh;rw [D,C,o];rfl
    simp only [jq];rw [e1,(vd c r C).1,(vd c r C).2,d];exact h
  .unfold uB di;rw [D,f,C,a];simp only [sY,k8,jq,gS];by_cases n:6<G r+1
   .rw [aA (by simp;omega)];exact IP c r w 0 [] 0 false C a λE _=>Qn c r E j n
   .rw [aB (by simp;omega)];cases F:fH (c::r) with
    | none=>
     have e1:fU (c::r)=2:=(by unfold fU;rw [D,C,F];rfl);have d:eh (c::r)=c::r:=(by unfold eh;rw [D,C,F];rfl);simp only;rw [e1,(vd c r C).1,(vd c r C).2,d];exact IP c r w 2 (c::r) 0 true C a λE g=>Qp c r E (l.next g) n F
    | some k=>
     have e1:fU (c::r)=k:=(by unfold fU;rw [D,C,F];rfl);have d:eh (c::r)=[]:=(by unfold eh;rw [D,C,F];rfl);simp only;rw [e1,(vd c r C).1,(vd c r C).2,d];exact IP c r w k [] 0 true C a λE g=>Qo c r E (l.next g) n k F
 .unfold uB di;rw [D,C];simp only [jq,gS,qA,pG];by_cases e:cR (c::r)<=gP
  .by_cases i:19<G r+1
   .rw [aA (by omega)];exact IM c r w 0 [] 0 false C λE _=>IL c r E j (m C) e i
   .rw [aB ⟨by omega,e⟩];have e1:fU (c::r)=1:=by unfold fU;rw [D,C];rfl
    have d:ej (c::r)=[]:=by unfold ej;rw [D,C];rfl
    have q:fw (c::r)=cR (c::r):=by unfold fw;rw [D,C];rfl
    simp only;rw [e1,d,q];exact IM c r w 1 _ _ true C λE _=>Qm c r E j (m C) e i
  .rw [aA (by intro h;exact e h.2)];exact IM c r w 0 [] 0 false C λE g=>Er c r E (l.next g) j (m C) e
def iY (K:List (By × Nat)):List zV:=K.flatMap λt=>[J (fU t.1),J (t.2:Int),Q (ej t.1),J (fw t.1:Int)]
def IU (K:List (By × Nat)) (t:By) (p:Nat):iY (K++[(t,p)])=iY K++[J (fU t),J p,Q (ej t),J (fw t:Int)]:=by simp [iY]
def sM (n:Nat):List zV:=[J 0,J n,Q [],J 0]
def G4:(prog.info? 134).map (λi=>(i.zero,i.size,i.bytes))=A (A (zd #[J 0,J 0,Q [],J 0]),4,40):=by kernel_rfl
def G5 (r:By):kv (r.take (r.takeWhile cT).length):=by
 induction r with
 | nil=>intro x a;simp at a
 | cons c r d=>
  cases b:cT c
  .simp [b];intro x a;simp at a
  .simp [b];intro x a;simp at a;rcases a with rfl|a
   .exact b
   .exact d x a
def vp (c:UInt8) (r:By):(c::r).take (rowLen (c::r))=c::r.take (rowLen (c::r) - 1):=by
 have:=nD c r;obtain ⟨n,a⟩:∃ n,rowLen (c::r)=n+1:=⟨rowLen (c::r) - 1,by omega⟩;rw [a];rfl
def FC (c:UInt8) (r:By) (b:cT c=true):kv (c::r.take (rowLen (c::r) - 1)):=by
 have d:fF c=false:=by
  have:=gq b;simp [fF,jK];omega
 rw [yT d b,Nat.add_sub_cancel_left];intro x a;simp only [bQ] at a;rcases a with rfl|a
 .exact b
 .exact G5 r x a
def Vc (s:By) (k:Nat) (h:k<G s):(ByteArray.mk s.toArray).extract k (G s)=⟨(s[k]::s.drop (k+1)).toArray⟩:=by
 rw [aE,<- jL h,qy (by simp)]
def Vd (f:Nat) (s:By) (k:Nat) (b:k<G s) (h:s[k]≠32) (a:di (s[k]::(s.drop (k+1)).take (rowLen (s[k]::s.drop (k+1)) - 1))=true) :
  bW (f+1) (s.drop k) k=((s[k]::(s.drop (k+1)).take (rowLen (s[k]::s.drop (k+1)) - 1),k)::(bW f (s.drop (k+rowLen (s[k]::s.drop (k+1)))) (k+rowLen (s[k]::s.drop (k+1)))).1,(bW f (s.drop (k+rowLen (s[k]::s.drop (k+1)))) (k+rowLen (s[k]::s.drop (k+1)))).2):=by
 rw [<- vp] at a ⊢;have c:s.drop (k+rowLen (s[k]::s.drop (k+1)))=(s[k]::s.drop (k+1)).drop (rowLen (s[k]::s.drop (k+1))):=by
  conv=>rhs;arg 2;rw [<- jL b]
  rw [List.drop_drop]
 rw [c,jL b]
 conv=>lhs;unfold bW
 rw [aA h,aB a]
def Et (f:Nat) (s:By) (k:Nat) (b:k<G s) (h:s[k]≠32) (a:di (s[k]::(s.drop (k+1)).take (rowLen (s[k]::s.drop (k+1)) - 1))=false) :
  bW (f+1) (s.drop k) k=([],A k):=by
 rw [<- vp] at a;rw [jL b]
 conv=>lhs;unfold bW
 rw [aA h,aA (by rw [a];simp)]
def Ve (s:By) (w:zW) (e:Ending) (w':zW):Prop:=
 (∀ p,(aI s).2=A p->e=zP (zp #[zN,J 2,J p])) /\
 ((aI s).2=none->∃ v,e=zP (zp #[v,J 0,J 0])/\w'.ownsRow w.heap.size 134 4 v ((aI s).1.length+1) (iY (aI s).1++sM (G s))) /\
 zB w w'
def Ds (s:By) (w:zW) (h:120<G s):zC prog 42 #[Q s] w λe C=>e=zP (zp #[zN,J 1,J 0])/\w=C:=by
 go_in;go_wp2
 go_ret3
 exact ⟨rfl,rfl⟩
def je (s:By) (w:zW) (Q5:Env w) (hl:G s<=120) :
  zC prog 42 #[Q s] w (Ve s w):=by
 obtain ⟨hb,hu,D,E,QV⟩:=fe G4;have HT:=I Q5;clear Q5;go_in;go_wp2;go_loopw [5,6] (λag i wr=>∃ (k f:Nat) (K:List (By × Nat)),k<=G s/\G s<=k+f/\i=J k/\wr.ownsRow w.heap.size 134 4 ag (G K) (iY K)/\zB w wr/\G K<=k /\
   Hid (aI s=(K++(bW f (s.drop k) k).1,(bW f (s.drop k) k).2))) (λ_ i _=>G s - (intOf i).toNat)
 case atStart=>exact ⟨0,G s,[],by omega,by omega,rfl,eW _ _ _ _,aM _ _,(by simp),rfl⟩
 case round=>
  obtain ⟨k,f,K,hk,hf,rfl,Z,V,am,Y⟩:=hrel;have y:=V.size;by_cases v:k<G s
  .obtain ⟨f,rfl⟩:∃ ad,f=ad+1:=⟨f - 1,by omega⟩;by_cases W:s[k]=32
   .have SI:=I (Y.o.t (by rw [JK f s k v W]));have ac:((s[k].toNat:Int) == 32)=true:=by simp [W]
    clear W;go_wp2;go_roundw
    case rel=>exact ⟨k+1,f,K,by omega,by omega,by go_num,Z,V,by omega,SI⟩
    case measure=>simp [intOf];omega
   .have ac:((s[k].toNat:Int) == 32)=false:=(by simp only [bo];intro ak;apply W;apply UInt8.toNat_inj.1;simp;omega);have R:=I (Vc s k v);have t:=I (vp s[k] (s.drop (k+1)));have x:=I (FC s[k] (s.drop (k+1)));have P:rowLen (s[k]::s.drop (k+1))<=G s - k:=by have:=Da (s[k]::s.drop (k+1));rw [gS,mG] at this;omega
    have O:=nD s[k] (s.drop (k+1));have F:=I (Vd f s k v W);have M:=I (Et f s k v W);have h:=I (show (s.drop (k+1)).length<=1000 by simp;omega);clear W;cases d:di (s[k]::(s.drop (k+1)).take (rowLen (s[k]::s.drop (k+1)) - 1))
    .have o:=I (show uB (s[k]::(s.drop (k+1)).take (rowLen (s[k]::s.drop (k+1)) - 1))=(0,[],0,false) by unfold uB;rw [d];rfl);have L:=I (M.o d);clear d;generalize s.drop (k+1)=r at *;generalize s[k]=c at R t x P O o;go_wp2_with (first|(go_at_call 59;rw [R.o];refine (Ac c r _ h.o).m ?_;rw [t.o];rintro e w' ⟨rfl,rfl⟩)|(go_at_call 60;refine (Dw c (r.take (rowLen (c::r) - 1)) _ (HT.o.next V) (by have:=h.o;rw [sF];omega) x.o).m ?_;rw [o.o];rintro e z ⟨rfl,l⟩))
     go_ret3
     refine ⟨λaf C=>?_,λH=>?_,(V.t (l.m y)).alloc (by have:=l.size;omega) _⟩
     .rw [Y.o,L.o] at C;simp at C;subst C;rfl
     .rw [Y.o,L.o] at H;simp at H
    .have o:=I (show uB (s[k]::(s.drop (k+1)).take (rowLen (s[k]::s.drop (k+1)) - 1))=(fU (s[k]::(s.drop (k+1)).take (rowLen (s[k]::s.drop (k+1)) - 1)),ej (s[k]::(s.drop (k+1)).take (rowLen (s[k]::s.drop (k+1)) - 1)),fw (s[k]::(s.drop (k+1)).take (rowLen (s[k]::s.drop (k+1)) - 1)),true) by unfold uB;rw [d];rfl);have L:=I (F.o d);have N:=I (show (s[k]::(s.drop (k+1)).take (rowLen (s[k]::s.drop (k+1)) - 1)).length=rowLen (s[k]::s.drop (k+1)) by rw [gS,sF,mG];omega);clear d F M;generalize s.drop (k+1)=r at *;generalize s[k]=c at R t x P O o L N;generalize H:rowLen (c::r)=n at *;have aa:=I H;clear H;go_wp2_with (go_at_call 59;rw [R.o];refine (Ac c r _ h.o).m ?_;rw [aa.o,t.o];rintro e w' ⟨rfl,rfl⟩;apply Hid.o);apply I;generalize w1:c::r.take (n - 1)=U at *;have m:=I w1;clear w1;go_wp2_with (go_at_call 60;rw [<- m.o];refine (Dw c (r.take (n - 1)) _ (HT.o.next V) (by have:=h.o;rw [sF];omega) (by rw [m.o];exact x.o)).m ?_;rw [m.o,o.o];rintro e z ⟨rfl,l⟩;apply Hid.o);apply I;have al:=l.size;have Q4:=N.o;have Q0:=I Q4;have Q6:(G U:Int)<=G s:=(by omega);clear Q4;go_wp2_with (at_builtin;refine km _ rfl (.tmp 37) (.tmp 39) 81 rfl w.heap.size 134 hb (zd #[J 0,J 0,Q [],J 0]) 4 40 underlying81 hu D E QV rfl (by decide) u5 (G K) (iY K) rfl (((aZ Z l).alloc _).alloc _) (yh (z.heap.size+1)) 1 1 [J (fU U),J k,Q (ej U),J (fw U:Int)] rfl rfl ?c1 (λu g=>by simp at g;rcases g with rfl|rfl|rfl|rfl<;>rfl) (by unfold maxLen;omega) (by omega) (by simp;omega) ?_;rotate_right;intro v' w2 a b _;apply Hid.o)
     case c1=>
      intro j u S;have:=bC (z.alloc (zM #[J (fU U),J k,Q (ej U),J (fw U:Int)] 134)) [J (fU U),J k,Q (ej U),J (fw U:Int)] 134 j u S;simpa using this
     have HO:=I a;have HG:=I b;clear a b;apply I;go_wp2;go_roundw
     case rel=>
      refine ⟨k+n,f,K++[(U,k)],by omega,by omega,by rw [Q0.o];go_num,?_,?_,by simp;omega,?_⟩
      .rw [IU,b6];exact HO.o
      .refine (((V.t (l.m y)).alloc (by omega) _).alloc (by simp;omega) _).grown HG.o (by simp;omega) (λq T=>?_);exact (fJ Z q T).1
      .refine Y.o.t ?_;rw [L.o];simp
     case measure=>rw [Q0.o];simp [intOf];omega
  .go_wp2_with (at_builtin;refine km _ rfl (.tmp 45) (.tmp 49) 81 rfl w.heap.size 134 hb (zd #[J 0,J 0,Q [],J 0]) 4 40 underlying81 hu D E QV rfl (by decide) u5 (G K) (iY K) rfl (Z.alloc _) (yh wr.heap.size) 1 1 (sM (G s)) rfl rfl (λj u S=>bC wr (sM (G s)) 134 j u S) (λu g=>by simp [sM] at g;rcases g with rfl|rfl|rfl|rfl<;>rfl) (by unfold maxLen;omega) (by omega) (by simp;omega) ?_;intro v' w2 a b _)
   go_ret3
   have QT:bW f (s.drop k) k=([],none):=by
    rw [nY (by omega)];cases f<;>rfl
   have p:=Y.o;rw [QT] at p;simp at p;refine ⟨λaf C=>?_,λ_=>?_,(V.alloc y _).grown b (by simp;omega) (λq T=>(fJ Z q T).1)⟩
   .rw [p] at C;simp at C
   .rw [p];exact ⟨_,rfl,a⟩
end
end Go.Proofs.YtihgojcfpnhelaaGreatDoor
