import Derived.Test.YtihgojcfpnhelaaGreatDoorJb
import Derived.Test.YtihgojcfpnhelaaGreatDoorShelf
set_option maxRecDepth 100000
set_option maxHeartbeats 4000000
set_option linter.all false
namespace Go.Proofs.YtihgojcfpnhelaaGreatDoor
open Go renaming World->zW,Value->zV,Calls->zC,Addr->zD
open Go.RowKit Go.Proofs.Tryz
open List renaming length→G
def kv (l:By):Prop:=∀ x,x∈l->cT x=true
def lq (n:Nat) (c:UInt8):Nat:=10*n+(c.toNat - 48)
def uz (l:By):cR l=l.foldl lq 0:=rfl
def Lk (l:By) (a:Nat):a<=l.foldl lq a:=by
 induction l generalizing a with
 | nil=>simp
 | cons c l b=>
  rw [wC];exact bf Gq (b (lq a c))
def afA (l:By) (a M:Nat) (k:M=18446744073709551615) (e:kv l) (i:a<=M) :
  Lib.parseUintM M a l=if l.foldl lq a<=M then .ok (l.foldl lq a) else .range:=by
 induction l generalizing a with
 | nil=>simp [Lib.parseUintM,i]
 | cons c l h=>
  have g:=gq (e c aq);have j:kv l:=λx hx=>e x iE;rw [wC];unfold Lib.parseUintM;rw [aB g];have hs:lq a c=a*10+(c.toNat - 48):=Gq;have f:=Lk l (lq a c);by_cases b:1844674407370955162<=a
  ·rw [aB b,aA ae]
  ·rw [aA b];by_cases d:M<a*10+(c.toNat - 48)
   ·rw [aB d,aA ae]
   ·rw [aA d,<- hs];exact h _ j ae
def Ll (c:UInt8) (r:By) (b:kv (c::r)) :
  Lib.parseIntB 64 (c::r)=if cR (c::r)<=gP then .ok (cR (c::r):Int) else .range:=by
 have e:=gq (b c aq);rw [Lib.parseIntB_plain 64 c r ae ae];unfold Lib.parseUintB;rw [aA aq,afA (c::r) 0 (2 ^ 64 - 1) Rl b ae,<- uz];have e1:(2:Nat) ^ 64 - 1=18446744073709551615:=Rl;have d:(2:Nat) ^ (64 - 1)=9223372036854775808:=Rl;rw [e1,d];unfold gP;by_cases h:cR (c::r)<=18446744073709551615
 ·rw [aB h];unfold Lib.signlessC;by_cases a:9223372036854775808<=cR (c::r)
  ·simp only [aB a];rw [aA ae]
  ·simp only [aA a];rw [aB ae]
 ·rw [aA h,aA ae];rfl
def zO {c:UInt8} (h:cT c=true):UInt8.ofNat (48+(c.toNat - 48))=c:=by
 have:=gq h;rw [show 48+(c.toNat - 48)=c.toNat from ae];simp
def Qj (l:By) (x:UInt8) (a:Nat):(l++[x]).foldl lq a=10*l.foldl lq a+(x.toNat - 48):=by
 simp [lq]
def Qk (n:Nat):∀ (c:UInt8) (r:By),G r=n->kv (c::r)->c≠48->Lib.decDigits (cR (c::r))=c::r:=by
 induction n with
 | zero=>
  intro c r hr hD g;obtain rfl:=zE.1 hr;have h:=gq (hD c aq);rw [uz];exact Xu
 | succ n o=>
  intro c r hr hD g;have d:r≠[]:=by intro h;rw [h] at hr;simp at hr
  obtain ⟨a,x,rfl⟩:∃ a x,r=a++[x]:=⟨r.dropLast,r.getLast d,(List.dropLast_concat_getLast d).symm⟩;have i:(G a)=n:=WY;have f:kv (c::a):=λy l=>hD y (by simp at l ⊢;rcases l with h|h<;>simp [h]);have k:=hD x aq;have p:=gq k;have e:=o c a i f g;have b:cR (c::(a++[x]))=10*cR (c::a)+(x.toNat - 48):=by
   rw [uz,uz,<- gT,Qj]
  have j:1<=cR (c::a):=by
   rw [uz,wC];refine bf ?_ (Lk a (lq 0 c));have m:=gq (hD c aq);have:c.toNat≠48:=by
    intro h;apply g;apply UInt8.toNat_inj.1;simpa using h
   unfold lq;omega
  rw [b,Lib.decDigits,dif_neg ae,show (10*cR (c::a)+(x.toNat - 48)) / 10=cR (c::a) from ae,show (10*cR (c::a)+(x.toNat - 48)) % 10=x.toNat - 48 from ae,e,zO k];rfl
def Ql (l:By) (b:l≠[]) (hD:kv l):Lib.decDigits (cR l)=dy l:=by
 induction l with
 | nil=>exact absurd rfl b
 | cons c r e=>
  match r,e,hD with
  | [],_,hD=>
   have h:=gq (hD c aq);exact Xu
  | d::r,e,hD=>
   by_cases a:c=48
   ·subst a;have g:cR (48::d::r)=cR (d::r):=rfl;have hs:dy (48::d::r)=dy (d::r):=by
     have:=hD d aq;simp [dy,this]
    rw [g,hs];exact e aq λx f=>hD x (by simp at f ⊢;rcases f with h|h<;>simp [h])
   ·have hs:dy (c::d::r)=c::d::r:=by simp [dy,a]
    rw [hs];exact Qk _ c (d::r) rfl hD a
def zr (c:UInt8) (r:By) (w:zW) (d:(G r)<=1000) (b:kv (c::r)) (a:cR (c::r)<=gP) :
  zC prog 125 #[.string ⟨(c::r).toArray⟩,zI 10,zI 64] w λe w'=>e=.returned (.tuple #[zI (cR (c::r):Int),.nilIface])/\zB w w':=
 (strconv_ParseInt_10_at64_ok ⟨(c::r).toArray⟩ (by show (c::r).length<=9223372036854775806;simp;omega) (cR (c::r):Int) ((Ll c r b).t (aB a)) w).m λe w' h=>⟨h.1,by
  rcases h.2 with rfl|⟨t,rfl⟩
  ·exact aM _ _
  ·exact Lib.bytesWorld_below _ _ _⟩
def IJ (c:UInt8) (r:By) (w:zW) (i:Env w) (k:(G r)<=1000) (f:kv (c::r)) (g:¬ cR (c::r)<=gP) :
  zC prog 125 #[.string ⟨(c::r).toArray⟩,zI 10,zI 64] w λe w'=>∃ z N,e=.returned (.tuple #[zI z,.iface 270 (zJ N)])/\zB w w':=by
 obtain ⟨d,p,a⟩:=i.range;exact (strconv_ParseInt_10_at64_range_var ⟨(c::r).toArray⟩ (by show (c::r).length<=281474976710656;simp;omega) ((Ll c r f).t (aA g)) d p w a).m λe w' h=>by
  obtain ⟨N,b,_,_,j⟩:=h;exact ⟨_,N,b,j⟩
def IK (w:zW) (k:Nat) (a:Array Obj):zB w (Sort.grow (w.drewN k) a):=by
 refine ⟨rfl,rfl,rfl,?_,λj b=>?_⟩
 ·show w.heap.size<=(w.heap++a).size;simp
 ·show (w.heap++a)[j]?=w.heap[j]?;rw [Array.getElem?_append_left b]
def U7 (n:Nat) (w:zW) (c:Env w) (d:n<=gP) :
  zC prog 132 #[zI n,zI 10] w λe w'=>e=.returned (.string ⟨(Lib.decDigits n).toArray⟩)/\zB w w':=
 (strconv_FormatInt_10 (n:Int) ae (by unfold gP at d;omega) w c.pow).m λe w' h=>by
  obtain ⟨a,k,b,rfl⟩:=h;rw [Lib.itoa_nonneg] at a;exact ⟨a,IK w k b⟩
def uA {W w1:zW} (a:zB W w1):(∀ b o,b<W.heap.size->w1.cell? ⟨b,o,none⟩=W.cell? ⟨b,o,none⟩)/\(∀ b o,b<W.heap.size->w1.frozen? ⟨b,o,none⟩=W.frozen? ⟨b,o,none⟩):=
 ⟨λb o h=>a.cell (p:=⟨b,o,none⟩) h,λb o h=>a.frozen (p:=⟨b,o,none⟩) h⟩
def kZ (w:zW) (k:Int) (x:By) (nn:Int) (ok:Bool) (e:Ending) (w':zW):Prop:=
 e=.returned (.tuple #[.agg #[zI k,zI 0,zG x,zI nn],.bool ok])/\zB w w'
def Er (c:UInt8) (r:By) (w:zW) (d:Env w) (i:(G r)<=1000) (a:kv (c::r)) (b:¬ cR (c::r)<=gP) :
  zC prog 90 #[.string ⟨(c::r).toArray⟩] w (kZ w 0 [] 0 false):=by
 have g:=I a;have h:=I b;have f:=I d;clear a b d;go_in;go_wp2_with (go_at_call 125;refine mo (IJ c r _ (f.o.next (bZ _)) i g.o h.o) ?_;rintro e w1 ⟨z,N,rfl,hb1⟩);apply I;obtain ⟨hc,k⟩:=uA hb1;have j:w.heap.size<w1.heap.size:=vM;go_wp2;exact aK (v:=.tuple #[.agg #[zI 0,zI 0,zG [],zI 0],.bool false]) Nz rfl ⟨rfl,(((((bZ _).t (hb1.m aq)).setCell (aG _) _).setCell (aG _) _).setCell (aG _) _).setCell (aG _) _⟩
def IL (c:UInt8) (r:By) (w:zW) (h:(G r)<=1000) (a:kv (c::r)) (b:cR (c::r)<=gP) (d:19<G r+1) :
  zC prog 90 #[.string ⟨(c::r).toArray⟩] w (kZ w 0 [] 0 false):=by
 have f:=I a;have g:=I b;clear a b;go_in;go_wp2_with (go_at_call 125;refine mo (zr c r _ h f.o g.o) ?_;rintro e w1 ⟨rfl,hb1⟩);apply I;obtain ⟨hc,j⟩:=uA hb1;have i:w.heap.size<w1.heap.size:=vM;go_wp2;exact aK (v:=.tuple #[.agg #[zI 0,zI 0,zG [],zI 0],.bool false]) Nz rfl ⟨rfl,(((((bZ _).t (hb1.m aq)).setCell (aG _) _).setCell (aG _) _).setCell (aG _) _).setCell (aG _) _⟩
def Qm (c:UInt8) (r:By) (w:zW) (j:(G r)<=1000) (b:kv (c::r)) (f:cR (c::r)<=gP) (g:¬ 19<G r+1) :
  zC prog 90 #[.string ⟨(c::r).toArray⟩] w (kZ w 1 [] (cR (c::r):Int) true):=by
 have h:=I b;have i:=I f;clear b f;generalize d:cR (c::r)=V at *;have a:=I d;clear d;go_in;go_wp2_with (go_at_call 125;refine (zr c r _ j h.o (a.o▸i.o)).m ?_;rw [a.o];rintro e w1 ⟨rfl,hb1⟩;apply Hid.o);apply I;obtain ⟨hc,l⟩:=uA hb1;have k:w.heap.size<w1.heap.size:=vM;go_wp2;exact aK (v:=.tuple #[.agg #[zI 1,zI 0,zG [],zI V],.bool true]) Nz rfl ⟨rfl,(((((bZ _).t (hb1.m aq)).setCell (aG _) _).setCell (aG _) _).setCell (aG _) _).setCell (aG _) _⟩
section
attribute [local go_sem] idx_eq app_eq
def Qn (c:UInt8) (r:By) (w:zW) (b:(G r)<=1000) (a:6<G r+1) :
  zC prog 91 #[.string ⟨(c::r).toArray⟩] w (kZ w 0 [] 0 false):=by
 go_in;go_wp2;exact aK (v:=.tuple #[.agg #[zI 0,zI 0,zG [],zI 0],.bool false]) (by simp [results,results91,go_sem]) rfl ⟨rfl,(aM _ _).alloc (aG _) _⟩
def Qo (c:UInt8) (r:By) (w:zW) (b:Env w) (g:¬ 6<G r+1) (k:Int) (a:fH (c::r)=some k) :
  zC prog 91 #[.string ⟨(c::r).toArray⟩] w (kZ w k [] 0 true):=by
 have d:=I b;have f:=I a;clear b a;go_in;go_wp2_with (go_at_call 92;refine (xk (c::r) _ (d.o.next (bZ _))).m ?_;rw [f.o];rintro e w1 ⟨rfl,hb1⟩;apply Hid.o);apply I;obtain ⟨hc,i⟩:=uA hb1;have h:w.heap.size<w1.heap.size:=vM;go_wp2;exact aK (v:=.tuple #[.agg #[zI k,zI 0,zG [],zI 0],.bool true]) aah rfl ⟨rfl,(((((bZ _).t (hb1.m aq)).setCell (aG _) _).setCell (aG _) _).setCell (aG _) _).setCell (aG _) _⟩
def acP (s:By) (w:zW) (b:(G s)<=1000) :
  zC prog 126 #[zG s] w λe w'=>e=.returned (zG s)/\zB w w':=by
 have H:=I (λw=>Go.Proofs.Any.stringslite_Clone laysM316 ⟨s.toArray⟩ w (by show (G s)<=281474976710656;omega));go_in;go_wp2_with (go_at_call 157;refine (H.o _).m ?_;rintro e w1 ⟨rfl,a⟩);go_ret;exact ⟨rfl,a⟩
def Qp (c:UInt8) (r:By) (w:zW) (g:Env w) (k:¬ 6<G r+1) (f:fH (c::r)=none) :
  zC prog 91 #[.string ⟨(c::r).toArray⟩] w (kZ w 2 (c::r) 0 true):=by
 have h:=I g;have i:=I f;have j:=I (show (c::r).length<=1000 from aN);clear g f;go_in;go_wp2_with (go_at_call 92;refine (xk (c::r) _ (h.o.next (bZ _))).m ?_;rw [i.o];rintro e w1 ⟨rfl,b⟩;apply Hid.o);apply I;go_wp2_with (go_at_call 126;refine mo (acP (c::r) _ j.o) ?_;rintro e w2 ⟨rfl,d⟩);apply I;have a:=b.t (d.m b.size);obtain ⟨hc,m⟩:=uA a;have l:w.heap.size<w2.heap.size:=by have:=a.size;simp at this;omega
 go_wp2;exact aK (v:=.tuple #[.agg #[zI 2,zI 0,.string ⟨(c::r).toArray⟩,zI 0],.bool true]) aah rfl ⟨rfl,(((((bZ _).t (a.m aq)).setCell (aG _) _).setCell (aG _) _).setCell (aG _) _).setCell (aG _) _⟩
def ej (t:By):By:=if headD t then [] else eh t
def fw (t:By):Nat:=if headD t then cR t else 0
def uB (row:By):Int × By × Nat × Bool:=if di row then (fU row,ej row,fw row,true) else (0,[],0,false)
def pj (c:UInt8) (r:By) (n:fF c=false):(fH (c::r)).isSome=b5 (c::r) iV:=by
 by_cases h:b5 (c::r) iV=true
 ·rw [h];simp only [b5,iV,pF,bQ,jA,iK] at h;rcases h with h|h|h|h|h|h|h|h|h|h<;>rw [h]<;>decide
 ·have o:b5 (c::r) iV=false:=jP;rw [o];have:fH (c::r)=none:=by
   apply se;intro j p m;have e:(dX[j])∈dX:=bt p;have i:∀ x,x∈dX->x.1=c::r->False:=by
    intro x l a;simp only [dX,bQ,jA,iK] at l;have b:∀ d s,d::s=c::r->fF d=true->False:=by
     intro d s f g;simp at f;rw [f.1,n] at g;cases g
    have k:∀ s,s=c::r->s∈iV->False:=by
     intro s f g;apply h;rw [<- f];simpa [b5] using g
    rcases l with rfl|rfl|rfl|rfl|rfl|rfl|rfl|rfl|rfl|rfl|rfl|rfl|rfl|rfl|rfl|rfl
    ·exact b _ _ a ai
    ·exact b _ _ a ai
    ·exact b _ _ a ai
    ·exact b _ _ a ai
    ·exact b _ _ a ai
    ·exact b _ _ a ai
    all_goals exact k _ a ai
   exact i _ e m
  rw [this];rfl
def IM (c:UInt8) (r:By) (w:zW) (k:Int) (x:By) (nn:Int) (ok:Bool) (a:cT c=true) (b:∀ w',zB w w'->zC prog 90 #[.string ⟨(c::r).toArray⟩] w' (kZ w' k x nn ok)) :
  zC prog 60 #[.string ⟨(c::r).toArray⟩] w (kZ w k x nn ok):=by
 have f:dm (c.toNat:Int)=true:=a;have d:=I b;clear b a;go_in;go_wp2_with (first|(go_at_call 87;refine (jJ (c.toNat:Int) _).m ?_;rintro e w' ⟨rfl,rfl⟩)|(go_at_call 90;refine mo (d.o _ (bZ _)) ?_;rintro e w1 ⟨rfl,hb1⟩));apply I;obtain ⟨hc,h⟩:=uA hb1;have g:w.heap.size<w1.heap.size:=vM;go_wp2;exact aK (v:=.tuple #[.agg #[zI k,zI 0,zG x,zI nn],.bool ok]) NA rfl ⟨rfl,(((((bZ _).t (hb1.m aq)).setCell (aG _) _).setCell (aG _) _).setCell (aG _) _).setCell (aG _) _⟩
def IP (c:UInt8) (r:By) (w:zW) (k:Int) (x:By) (nn:Int) (ok:Bool) (b:cT c=false) (a:fF c=true) (d:∀ w',zB w w'->zC prog 91 #[.string ⟨(c::r).toArray⟩] w' (kZ w' k x nn ok)) :
  zC prog 60 #[.string ⟨(c::r).toArray⟩] w (kZ w k x nn ok):=by
 have g:dm (c.toNat:Int)=false:=b;have h:jK (c.toNat:Int)=true:=a;have f:=I d;clear d b a;go_in;go_wp2_with (first|(go_at_call 87;refine (jJ (c.toNat:Int) _).m ?_;rintro e w' ⟨rfl,rfl⟩)|(go_at_call 88;refine (lB (c.toNat:Int) _).m ?_;rintro e w' ⟨rfl,rfl⟩)|(go_at_call 91;refine mo (f.o _ (bZ _)) ?_;rintro e w1 ⟨rfl,hb1⟩));apply I;obtain ⟨hc,j⟩:=uA hb1;have i:w.heap.size<w1.heap.size:=vM;go_wp2;exact aK (v:=.tuple #[.agg #[zI k,zI 0,zG x,zI nn],.bool ok]) NA rfl ⟨rfl,(((((bZ _).t (hb1.m aq)).setCell (aG _) _).setCell (aG _) _).setCell (aG _) _).setCell (aG _) _⟩
def afB (c:UInt8) (r:By) (w:zW) (f:Env w) (d:cT c=false) (a:fF c=false) :
  zC prog 60 #[.string ⟨(c::r).toArray⟩] w (kZ w ((fH (c::r)).getD 0) [] 0 (fH (c::r)).isSome):=by
 have i:dm (c.toNat:Int)=false:=d;have l:jK (c.toNat:Int)=false:=a;have j:=I f;clear f d a;generalize h:(fH (c::r)).getD 0=k;generalize g:(fH (c::r)).isSome=b;have n:=I h;have m:=I g;clear h g;go_in;go_wp2_with (first|(go_at_call 87;refine (jJ (c.toNat:Int) _).m ?_;rintro e w' ⟨rfl,rfl⟩)|(go_at_call 88;refine (lB (c.toNat:Int) _).m ?_;rintro e w' ⟨rfl,rfl⟩)|(go_at_call 92;refine (xk (c::r) _ (j.o.next (bZ _))).m ?_;rw [n.o,m.o];rintro e w1 ⟨rfl,hb1⟩;apply Hid.o));apply I;obtain ⟨hc,p⟩:=uA hb1;have o:w.heap.size<w1.heap.size:=vM;go_wp2;exact aK (v:=.tuple #[.agg #[zI k,zI 0,zG [],zI 0],.bool b]) NA rfl ⟨rfl,(((((bZ _).t (hb1.m aq)).setCell (aG _) _).setCell (aG _) _).setCell (aG _) _).setCell (aG _) _⟩
def vd (c:UInt8) (r:By) (h:cT c=false):ej (c::r)=eh (c::r)/\fw (c::r)=0:=by
 have a:headD (c::r)=false:=h;unfold ej fw;rw [a];exact ⟨rfl,rfl⟩
def Dw (c:UInt8) (r:By) (w:zW) (l:Env w) (j:(G r)<=1000) (m:cT c=true->kv (c::r)) :
  zC prog 60 #[.string ⟨(c::r).toArray⟩] w (kZ w (uB (c::r)).1 (uB (c::r)).2.1 ((uB (c::r)).2.2.1:Int) (uB (c::r)).2.2.2):=by
 have hh:headD (c::r)=cT c:=rfl;have f:j6 (c::r)=fF c:=rfl;cases hD:cT c
 ·cases a:fF c
  ·have h:=afB c r w l hD a;rw [pj c r a] at h;unfold uB di;rw [hh,f,hD,a];simp only [sY,k8];cases b:b5 (c::r) iV
   ·have p:fH (c::r)=none:=by
     have:=pj c r a;rw [b] at this;simpa using this
    rw [p,b] at h;exact h
   ·have hs:=pj c r a;rw [b] at hs;obtain ⟨k,o⟩:=Option.isSome_iff_exists.1 hs;rw [o,b] at h;have e1:fU (c::r)=k:=by unfold fU;rw [hh,hD,o];rfl
    have d:eh (c::r)=[]:=by unfold eh;rw [hh,hD,o];rfl
    simp only [jq];rw [e1,(vd c r hD).1,(vd c r hD).2,d];exact h
  ·unfold uB di;rw [hh,f,hD,a];simp only [sY,k8,jq,gS];by_cases n:6<G r+1
   ·rw [aA aN];exact IP c r w 0 [] 0 false hD a λw' _=>Qn c r w' j n
   ·rw [aB aN];cases hm:fH (c::r) with
    | none=>
     have e1:fU (c::r)=2:=aaO;have d:eh (c::r)=c::r:=aaP;simp only;rw [e1,(vd c r hD).1,(vd c r hD).2,d];exact IP c r w 2 (c::r) 0 true hD a λw' g=>Qp c r w' (l.next g) n hm
    | some k=>
     have e1:fU (c::r)=k:=aaO;have d:eh (c::r)=[]:=aaP;simp only;rw [e1,(vd c r hD).1,(vd c r hD).2,d];exact IP c r w k [] 0 true hD a λw' g=>Qo c r w' (l.next g) n k hm
 ·unfold uB di;rw [hh,hD];simp only [jq,gS,qA,pG];by_cases e:cR (c::r)<=gP
  ·by_cases i:19<G r+1
   ·rw [aA ae];exact IM c r w 0 [] 0 false hD λw' _=>IL c r w' j (m hD) e i
   ·rw [aB ⟨ae,e⟩];have e1:fU (c::r)=1:=by unfold fU;rw [hh,hD];rfl
    have d:ej (c::r)=[]:=by unfold ej;rw [hh,hD];rfl
    have q:fw (c::r)=cR (c::r):=by unfold fw;rw [hh,hD];rfl
    simp only;rw [e1,d,q];exact IM c r w 1 _ _ true hD λw' _=>Qm c r w' j (m hD) e i
  ·rw [aA (by intro h;exact e h.2)];exact IM c r w 0 [] 0 false hD λw' g=>Er c r w' (l.next g) j (m hD) e
def iY (ts:List (By × Nat)):List zV:=ts.flatMap λt=>[zI (fU t.1),zI (t.2:Int),.string ⟨(ej t.1).toArray⟩,zI (fw t.1:Int)]
def IU (ts:List (By × Nat)) (t:By) (p:Nat):iY (ts++[(t,p)])=iY ts++[zI (fU t),zI p,.string ⟨(ej t).toArray⟩,zI (fw t:Int)]:=by simp [iY]
def sM (n:Nat):List zV:=[zI 0,zI n,zG [],zI 0]
def afD:(prog.info? 134).map (λi=>(i.zero,i.size,i.bytes))=some (some (.agg #[zI 0,zI 0,zG [],zI 0]),4,40):=aD
def acQ (r:By):kv (r.take (r.takeWhile cT).length):=by
 induction r with
 | nil=>intro x a;simp at a
 | cons c r d=>
  cases b:cT c
  ·simp [b];intro x a;simp at a
  ·simp [b];intro x a;simp at a;rcases a with rfl|a
   ·exact b
   ·exact d x a
def vp (c:UInt8) (r:By):(c::r).take (rowLen (c::r))=c::r.take (rowLen (c::r) - 1):=by
 have:=nD c r;obtain ⟨n,a⟩:∃ n,rowLen (c::r)=n+1:=⟨rowLen (c::r) - 1,ae⟩;rw [a];rfl
def FC (c:UInt8) (r:By) (b:cT c=true):kv (c::r.take (rowLen (c::r) - 1)):=by
 have d:fF c=false:=by
  have:=gq b;simp [fF,jK];omega
 rw [yT d b,Nat.add_sub_cancel_left];intro x a;simp only [bQ] at a;rcases a with rfl|a
 ·exact b
 ·exact acQ r x a
def Vc (s:By) (k:Nat) (h:k<G s):(ByteArray.mk s.toArray).extract k (G s)=⟨(s[k]::s.drop (k+1)).toArray⟩:=by
 rw [ext_eq,<- jL h,qy aq]
def Vd (f:Nat) (s:By) (k:Nat) (b:k<G s) (h:s[k]≠32) (a:di (s[k]::(s.drop (k+1)).take (rowLen (s[k]::s.drop (k+1)) - 1))=true) :
  bW (f+1) (s.drop k) k=((s[k]::(s.drop (k+1)).take (rowLen (s[k]::s.drop (k+1)) - 1),k)::(bW f (s.drop (k+rowLen (s[k]::s.drop (k+1)))) (k+rowLen (s[k]::s.drop (k+1)))).1,(bW f (s.drop (k+rowLen (s[k]::s.drop (k+1)))) (k+rowLen (s[k]::s.drop (k+1)))).2):=by
 rw [<- vp] at a ⊢;have c:s.drop (k+rowLen (s[k]::s.drop (k+1)))=(s[k]::s.drop (k+1)).drop (rowLen (s[k]::s.drop (k+1))):=by
  conv=>rhs;arg 2;rw [<- jL b]
  rw [List.drop_drop]
 rw [c,jL b]
 conv=>lhs;unfold bW
 rw [aA h,aB a]
def Et (f:Nat) (s:By) (k:Nat) (b:k<G s) (h:s[k]≠32) (a:di (s[k]::(s.drop (k+1)).take (rowLen (s[k]::s.drop (k+1)) - 1))=false) :
  bW (f+1) (s.drop k) k=([],some k):=by
 rw [<- vp] at a;rw [jL b]
 conv=>lhs;unfold bW
 rw [aA h,aA (by rw [a];simp)]
def Ve (s:By) (w:zW) (e:Ending) (w':zW):Prop:=
 (∀ p,(aI s).2=some p->e=.returned (.tuple #[zN,zI 2,zI p])) /\
 ((aI s).2=none->∃ v,e=.returned (.tuple #[v,zI 0,zI 0])/\w'.ownsRow w.heap.size 134 4 v ((aI s).1.length+1) (iY (aI s).1++sM (G s))) /\
 zB w w'
def Ds (s:By) (w:zW) (h:120<G s):zC prog 42 #[zG s] w λe w'=>e=.returned (.tuple #[zN,zI 1,zI 0])/\w=w':=by
 go_in;go_wp2
 go_ret3
 exact ⟨rfl,rfl⟩
def acR (s:By) (w:zW) (Y:Env w) (hl:(G s)<=120) :
  zC prog 42 #[zG s] w (Ve s w):=by
 obtain ⟨U,W,D,E,J⟩:=fe afD;have V:=I Y;clear Y;go_in;go_wp2;go_loopw [5,6] (λv i wr=>∃ (k f:Nat) (ts:List (By × Nat)),k<=G s/\(G s)<=k+f/\i=zI k/\wr.ownsRow w.heap.size 134 4 v (G ts) (iY ts)/\zB w wr/\(G ts)<=k /\
   Hid (aI s=(ts++(bW f (s.drop k) k).1,(bW f (s.drop k) k).2))) (λ_ i _=>G s - (intOf i).toNat)
 case atStart=>exact X7
 case round=>
  obtain ⟨k,f,ts,hk,hf,rfl,hown,hb,hts,HT⟩:=hrel;have B:=hb.size;by_cases hlt:k<G s
  ·obtain ⟨f,rfl⟩:∃ g,f=g+1:=⟨f - 1,ae⟩;by_cases hsp:s[k]=32
   ·exact WV
   ·have agr:((s[k].toNat:Int) == 32)=false:=Ya;have R:=I (Vc s k hlt);have t:=I (vp s[k] (s.drop (k+1)));have x:=I (FC s[k] (s.drop (k+1)));have P:rowLen (s[k]::s.drop (k+1))<=G s - k:=by have:=Da (s[k]::s.drop (k+1));rw [gS,mG] at this;omega
    have O:=nD s[k] (s.drop (k+1));have F:=I (Vd f s k hlt hsp);have M:=I (Et f s k hlt hsp);have HLR:=I (show (s.drop (k+1)).length<=1000 from aN);clear hsp;cases d:di (s[k]::(s.drop (k+1)).take (rowLen (s[k]::s.drop (k+1)) - 1))
    ·have o:=I (show uB (s[k]::(s.drop (k+1)).take (rowLen (s[k]::s.drop (k+1)) - 1))=(0,[],0,false) by unfold uB;rw [d];rfl);have L:=I (M.o d);clear d;generalize s.drop (k+1)=r at *;generalize s[k]=c at R t x P O o;go_wp2_with (first|(go_at_call 59;rw [R.o];refine (Ac c r _ HLR.o).m ?_;rw [t.o];rintro e w' ⟨rfl,rfl⟩)|(go_at_call 60;refine (Dw c (r.take (rowLen (c::r) - 1)) _ (V.o.next hb) Z1 x.o).m ?_;rw [o.o];rintro e w1 ⟨rfl,l⟩))
     go_ret3
     refine ⟨λp C=>?_,λH=>?_,(hb.t (l.m B)).alloc (by have:=l.size;omega) _⟩
     ·rw [HT.o,L.o] at C;simp at C;subst C;rfl
     ·rw [HT.o,L.o] at H;simp at H
    ·have o:=I (show uB (s[k]::(s.drop (k+1)).take (rowLen (s[k]::s.drop (k+1)) - 1))=(fU (s[k]::(s.drop (k+1)).take (rowLen (s[k]::s.drop (k+1)) - 1)),ej (s[k]::(s.drop (k+1)).take (rowLen (s[k]::s.drop (k+1)) - 1)),fw (s[k]::(s.drop (k+1)).take (rowLen (s[k]::s.drop (k+1)) - 1)),true) by unfold uB;rw [d];rfl);have L:=I (F.o d);have N:=I (show (s[k]::(s.drop (k+1)).take (rowLen (s[k]::s.drop (k+1)) - 1)).length=rowLen (s[k]::s.drop (k+1)) by rw [gS,sF,mG];omega);clear d F M;generalize s.drop (k+1)=r at *;generalize s[k]=c at R t x P O o L N;generalize H:rowLen (c::r)=n at *;have Z:=I H;clear H;go_wp2_with (go_at_call 59;rw [R.o];refine (Ac c r _ HLR.o).m ?_;rw [Z.o,t.o];rintro e w' ⟨rfl,rfl⟩;apply Hid.o);apply I;generalize z:c::r.take (n - 1)=row at *;have m:=I z;clear z;go_wp2_with (go_at_call 60;rw [<- m.o];refine (Dw c (r.take (n - 1)) _ (V.o.next hb) Z1 (by rw [m.o];exact x.o)).m ?_;rw [m.o,o.o];rintro e w1 ⟨rfl,l⟩;apply Hid.o);apply I;have hs1:=l.size;have y:=N.o;have A:=I y;have X:((G row):Int)<=(G s):=ae;clear y;go_wp2_with (at_builtin;refine km _ rfl (.tmp 37) (.tmp 39) 81 rfl w.heap.size 134 U (.agg #[zI 0,zI 0,zG [],zI 0]) 4 40 underlying81 W D E J rfl ai u5 (G ts) (iY ts) rfl (((aZ hown l).alloc _).alloc _) ⟨w1.heap.size+1,0,none⟩ 1 1 [zI (fU row),zI k,.string ⟨(ej row).toArray⟩,zI (fw row:Int)] rfl rfl ?c1 (λu hu=>ZO) jM ae aN ?_;rotate_right;intro v' w2 a b _;apply Hid.o)
     case c1=>
      intro j u S;have:=bC (w1.alloc (.cells #[zI (fU row),zI k,.string ⟨(ej row).toArray⟩,zI (fw row:Int)] 134)) [zI (fU row),zI k,.string ⟨(ej row).toArray⟩,zI (fw row:Int)] 134 j u S;simpa using this
     have HO:=I a;have HG:=I b;clear a b;apply I;go_wp2;go_roundw
     case rel=>
      refine ⟨k+n,f,ts++[(row,k)],ae,ae,by rw [A.o];go_num,?_,?_,aN,?_⟩
      ·rw [IU,b6];exact HO.o
      ·refine (((hb.t (l.m B)).alloc ae _).alloc aN _).grown HG.o aN (λq T=>?_);exact (fJ hown q T).1
      ·refine HT.o.t ?_;rw [L.o];simp
     case measure=>rw [A.o];simp [intOf];omega
  ·go_wp2_with (at_builtin;refine km _ rfl (.tmp 45) (.tmp 49) 81 rfl w.heap.size 134 U (.agg #[zI 0,zI 0,zG [],zI 0]) 4 40 underlying81 W D E J rfl ai u5 (G ts) (iY ts) rfl (hown.alloc _) ⟨wr.heap.size,0,none⟩ 1 1 (sM (G s)) rfl rfl (λj u S=>bC wr (sM (G s)) 134 j u S) (λu hu=>by simp [sM] at hu;rcases hu with rfl|rfl|rfl|rfl<;>rfl) jM ae aN ?_;intro v' w2 a b _)
   go_ret3
   have K:bW f (s.drop k) k=([],none):=by
    rw [nY ae];cases f<;>rfl
   have Q:=HT.o;rw [K] at Q;simp at Q;refine ⟨λp C=>?_,λ_=>?_,(hb.alloc B _).grown b aN (λq T=>(fJ hown q T).1)⟩
   ·rw [Q] at C;simp at C
   ·rw [Q];exact ⟨_,rfl,a⟩
end
end Go.Proofs.YtihgojcfpnhelaaGreatDoor
