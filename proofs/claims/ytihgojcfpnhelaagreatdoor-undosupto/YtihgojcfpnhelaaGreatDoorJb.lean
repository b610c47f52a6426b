import Derived.Test.YtihgojcfpnhelaaGreatDoorAa
set_option maxRecDepth 100000
set_option maxHeartbeats 4000000
set_option linter.all false
namespace Go.Proofs.YtihgojcfpnhelaaGreatDoor
open Value renaming slice->B,agg->zd,tuple->zp,bool->zF,pointer->zK
open Obj renaming cells->zM
open Ending renaming returned->zP
open Option renaming some->A
open Or renaming inl->zR,inr->zZ
open Go renaming World->zW,Value->zV,Calls->zC,Addr->zD
open Go.RowKit Go.Proofs.Tryz
open List renaming length→G
section
def bZ {w:zW} (o:Obj):Go.RowKit.Below w.heap.size w (w.alloc o):=(Go.RowKit.Below.refl _ _).alloc (aG _) o
open Go.RowKit Go.Proofs.Tryz
open List renaming length→G
section
abbrev By:=List UInt8
def dm (n:Int):Bool:=decide (48<=n/\n<=57)
def jK (n:Int):Bool:=decide (97<=n/\n<=122)
def AB (n:Int):Bool:=jK n||dm n
def cT (c:UInt8):Bool:=dm (c.toNat:Int)
def fF (c:UInt8):Bool:=jK (c.toNat:Int)
def iO (c:UInt8):Bool:=AB (c.toNat:Int)
def b5 (t:By) (l:List By):Bool:=l.contains t
def JM:List By:=[[105,102],[97,110,100],[111,114],[110,111,116],[116,114,117,101],[102,97,108,115,101]]
def iV:List By:=[[40],[41],[44],[43],[45],[42],[47],[37],[61],[60]]
def j6 (t:By):Bool:=match t with|[]=>false|c::_=>fF c
def ae (t:By):Bool:=match t with|[]=>false|c::_=>cT c
def bm (t:By):Bool:=j6 t&&!b5 t JM
def rowLen (l:By):Nat:=
 match l with
 | []=>0
 | c::r=>if fF c then 1+(r.takeWhile iO).length else if cT c then 1+(r.takeWhile cT).length else 1
def cR (r:By):Nat:=r.foldl (λn c=>10*n+(c.toNat - 48)) 0
def gP:Nat:=9223372036854775807
def di (r:By):Bool:=
 if ae r then decide (G r<=19)&&decide (cR r<=gP)
 else if j6 r then decide (G r<=6)
 else b5 r iV
def bW:Nat->By->Nat->List (By × Nat) × Option Nat
 | 0,_,_=>([],none)
 | _+1,[],_=>([],none)
 | f+1,c::r,C=>
  if c=32 then bW f r (C+1)
  else if di ((c::r).take (rowLen (c::r))) then
   (((c::r).take (rowLen (c::r)),C)::(bW f ((c::r).drop (rowLen (c::r))) (C+rowLen (c::r))).1,
    (bW f ((c::r).drop (rowLen (c::r))) (C+rowLen (c::r))).2)
  else ([],A C)
def aI (s:By):List (By × Nat) × Option Nat:=bW (G s) s 0
def dy:By->By
 | []=>[]
 | [c]=>[c]
 | c::d::r=>if c=48&&cT d then dy (d::r) else c::d::r
def dX:List (By × Int):=
 [([105,102],3),([97,110,100],4),([111,114],5),([110,111,116],6),([116,114,117,101],7),([102,97,108,115,101],8),
  ([40],9),([41],10),([44],11),([43],12),([45],13),([42],15),([47],16),([37],17),([61],18),([60],19)]
def iA:List (By × Int)->By->Option Int
 | [],_=>none
 | (x,k)::r,t=>if x=t then A k else iA r t
def fH (t:By):Option Int:=iA dX t
def fU (t:By):Int:=if ae t then 1 else (fH t).getD 2
def eh (t:By):By:=if ae t then dy t else if (fH t).isSome then [] else t
def aH (k:UInt8) (o:Nat):By:=[63,k,48+UInt8.ofNat o]
def iF:By:=[78,79,78,69]
def fj:By:=[63,33]
def jX:By:=[63,40]
def cE:By:=[78,65,77,69]
def eT (t:By) (k:UInt8) (o:Nat):List By:=if 6<=o then [fj] else [t,aH k (o+1)]
def gz (t:By) (b:List By) (part:UInt8) (a:Option UInt8) (o:Nat):List By:=
 if b5 t b then (match a with|none=>[t,aH part o]|some g=>[t,aH part o,aH g o]) else []
def ey (t:By) (o:Nat):List By:=
 if t=[] then [iF]
 else if ae t||t=[116,114,117,101]||t=[102,97,108,115,101]||bm t then [t]
 else if t=[45] then eT t 65 o
 else if t=[40] then eT t 82 o++[[41]]
 else if t=[105,102]&&decide (6<=o) then [[105,102],jX]
 else if t=[105,102] then [[105,102],[40],aH 82 (o+1),[44],aH 82 (o+1),[44],aH 82 (o+1),[41]]
 else [iF]
def ku (k:UInt8) (o:Nat) (t:By):List By:=
 if k=82 then [aH 80 o,aH 114 o]
 else if k=114 then gz t [[111,114]] 80 (A 114) o
 else if k=80 then [aH 84 o,aH 112 o]
 else if k=112 then gz t [[97,110,100]] 84 (A 112) o
 else if k=84 then (if t=[110,111,116] then eT t 84 o else [aH 83 o,aH 99 o])
 else if k=99 then gz t [[61],[60]] 83 none o
 else if k=83 then [aH 77 o,aH 115 o]
 else if k=115 then gz t [[43],[45]] 77 (A 115) o
 else if k=77 then [aH 65 o,aH 109 o]
 else if k=109 then gz t [[42],[47],[37]] 65 (A 109) o
 else ey t o
def dT (s t:By):Option (List By):=
 match s with
 | [63,k,c]=>A (ku k (c.toNat - 48) t)
 | [63,40]=>A (if t=[40] then [fj] else [iF])
 | _=>none
def cF (len:Nat):Nat->List By->List (By × Nat)->Option (Int × Nat)
 | 0,_,_=>none
 | _+1,[],K=>match K with|[]=>A (0,0)|(_,p)::_=>A (3,p)
 | n+1,s::C,K=>
  let t:By:=match K with|[]=>[]|(t,_)::_=>t
  let p:Nat:=match K with|[]=>len|(_,p)::_=>p
  if s=fj then A (4,p)
  else match dT s t with
   | some m=>cF len n (m++C) K
   | none=>if (if s=cE then bm t else decide (t≠[])&&decide (s=t)) then cF len n C K.tail else A (3,p)
end
end
def I {p:Prop} (h:p):Hid p:=h
def mo {P f a w Q5} {b:Go.Ending->Go.World->Prop} (h:zC P f a w Q5) (k:∀ r w',Q5 r w'->Hid (b r w')):zC P f a w b:=h.m λr w' x=>(k r w' x).o
def jJ (n:Int) (w:zW) :
  zC prog 87 #[.int .u8 n] w λe C=>e=zP (zF (dm n))/\w=C:=by
 have a:dm n=(decide (48<=n)&&decide (n<=57)):=by simp [dm]
 rw [a];clear a;by_cases h:48<=n
 .by_cases D:n<=57
  all_goals
   go_in;go_wp2;go_ret;exact ⟨by simp<;>omega,rfl⟩
 .go_in;go_wp2;go_ret;exact ⟨by simp<;>omega,rfl⟩
def bR (n:Int) (w:zW) :
  zC prog 109 #[.int .u8 n] w λe C=>e=zP (zF (dm n))/\w=C:=by
 have a:dm n=(decide (48<=n)&&decide (n<=57)):=by simp [dm]
 rw [a];clear a;by_cases h:48<=n
 .by_cases D:n<=57
  all_goals
   go_in;go_wp2;go_ret;exact ⟨by simp<;>omega,rfl⟩
 .go_in;go_wp2;go_ret;exact ⟨by simp<;>omega,rfl⟩
def lB (n:Int) (w:zW) :
  zC prog 88 #[.int .u8 n] w λe C=>e=zP (zF (jK n))/\w=C:=by
 have a:jK n=(decide (97<=n)&&decide (n<=122)):=by simp [jK]
 rw [a];clear a;by_cases h:97<=n
 .by_cases D:n<=122
  all_goals
   go_in;go_wp2;go_ret;exact ⟨by simp<;>omega,rfl⟩
 .go_in;go_wp2;go_ret;exact ⟨by simp<;>omega,rfl⟩
def iI (n:Int) (w:zW) :
  zC prog 110 #[.int .u8 n] w λe C=>e=zP (zF (jK n))/\w=C:=by
 have a:jK n=(decide (97<=n)&&decide (n<=122)):=by simp [jK]
 rw [a];clear a;by_cases h:97<=n
 .by_cases D:n<=122
  all_goals
   go_in;go_wp2;go_ret;exact ⟨by simp<;>omega,rfl⟩
 .go_in;go_wp2;go_ret;exact ⟨by simp<;>omega,rfl⟩
def FX (n:Int) (w:zW) :
  zC prog 89 #[.int .u8 n] w λe C=>e=zP (zF (AB n))/\w=C:=by
 have a:AB n=(jK n||dm n):=rfl;rw [a];clear a;cases b:jK n
 all_goals
  go_in;go_wp2_with (first|(go_at_call 88;refine (lB _ _).m ?_;rintro e C ⟨rfl,rfl⟩)|(go_at_call 87;refine (jJ _ _).m ?_;rintro e C ⟨rfl,rfl⟩));go_ret;exact ⟨(by simp),rfl⟩
def xz (t:By) (l:List By) (a:zD) (c:Nat) (w:zW) (u:G l<=100)
  (r:∀ j (h:j<G l),w.cell? (a.add j)=A (Q (l[j]))) :
  zC prog 77 #[Q t,B (A a) (G l) c] w λe D=>e=zP (zF (b5 t l))/\w=D:=by
 go_in;go_wp2
 go_loop [5] (λi=>∃ k:Nat,k<=G l/\i=J k/\∀ j (h:j<G l),j<k->l[j]≠t) (λi=>G l - (intOf i).toNat)
 case atStart=>exact ⟨0,by omega,rfl,λ_ _ h=>by omega⟩
 case round=>
  obtain ⟨k,v,rfl,o⟩:=hrel;have n:=I o;clear o;by_cases d:k<G l
  .have s:=r k d;by_cases C:l[k]=t
   .have g:b5 t l=true:=by
     simp only [b5,pF];exact C▸bt d
    have f:(l[k] == t)=true:=(by simp [C]);clear C;go_wp2;go_ret;exact ⟨(by simp),rfl⟩
   .have f:(l[k] == t)=false:=(by simp [C]);have q:=I C;clear C;go_wp2
    go_round
    case rel=>
     refine ⟨k+1,by omega,by go_num,λj h p=>?_⟩;rcases cC j k with m|m
     .exact n.o j h m
     .obtain rfl:j=k:=(by omega);exact q.o
    case measure=>simp [intOf];omega
  .have g:b5 t l=false:=by
    simp only [b5];rw [Bool.eq_false_iff];intro b;rw [pF] at b;obtain ⟨j,p,rfl⟩:=e9 b;exact n.o j p (by omega) rfl
   go_wp2;go_ret;exact ⟨(by simp),rfl⟩
section
def ap (l:By) (i:Nat) (h:i<(ByteArray.mk l.toArray).size):(ByteArray.mk l.toArray)[i]'h=l[i]'(by simpa [ByteArray.size] using h):=by
 simp [ByteArray.getElem_eq_getElem_data]
attribute [local go_sem] ap
def fh (w:zW) (l:List By) (T:TypeId) (j:Nat) (h:j<G l) :
  (w.alloc (zM (l.map λx=>Q x).toArray T)).cell? (((yh w.heap.size):zD).add j)=A (Q (l[j])):=by
 rw [show ((yh w.heap.size):zD).add j=(X w.heap.size j) by simp [Addr.add];intro h;exact h.symm,World.cell?_alloc_new];simp [h]
def dD (t:By) (w:zW) :
  zC prog 76 #[Q t] w λe C=>e=zP (zF (bm t))/\zB w C:=by
 match t with
 | []=>
  go_in;go_wp2;go_ret;exact ⟨rfl,aM _ _⟩
 | c::r=>
  have d:bm (c::r)=(fF c&&!b5 (c::r) JM):=rfl;rw [d];clear d;by_cases a:fF c=true
  .have b:jK (c.toNat:Int)=true:=a;go_in;go_wp2_with (first|(go_at_call 110;refine (iI _ _).m ?_;rintro e C ⟨rfl,rfl⟩)|(go_at_call 77;refine (xz (c::r) JM (yh w.heap.size) 6 _ (by decide) (λj h=>fh w JM 9 j h)).m ?_;rintro e C ⟨rfl,rfl⟩));go_ret;exact ⟨by simp [a],(aM _ _).alloc (aG _) _⟩
  .have b:jK (c.toNat:Int)=false:=by simpa [fF] using a
   go_in;go_wp2_with (go_at_call 110;refine (iI _ _).m ?_;rintro e C ⟨rfl,rfl⟩);go_ret;exact ⟨by simp [a],aM _ _⟩
def zT (t:By):Bool:=bm t||decide (t=[41])||decide (t=[116,114,117,101])||decide (t=[102,97,108,115,101])||ae t
def EC (t:By) (w:zW) (n:t≠[]) :
  zC prog 78 #[Q t] w λe C=>e=zP (zF (zT t))/\zB w C:=by
 match t,n with
 | c::r,_=>
  have l:zT (c::r)=(bm (c::r)||decide (c::r=[41])||decide (c::r=[116,114,117,101])||decide (c::r=[102,97,108,115,101])||cT c):=rfl;have k:=I l;clear l;by_cases D:bm (c::r)=true
  .go_in;go_wp2_with (go_at_call 76;refine (dD _ _).m ?_;rintro e C ⟨rfl,b⟩);go_ret;exact ⟨by rw [k.o,D];simp,by assumption⟩
  .have a:bm (c::r)=false:=(by simpa using D);have g:decide ((c::r:By)=[41])=((c::r:By) == [41]):=(by rw [Bool.eq_iff_iff];simp);have d:decide ((c::r:By)=[116,114,117,101])=((c::r:By) == [116,114,117,101]):=(by rw [Bool.eq_iff_iff];simp);have f:decide ((c::r:By)=[102,97,108,115,101])=((c::r:By) == [102,97,108,115,101]):=(by rw [Bool.eq_iff_iff];simp);have i:=I (k.o.t (by rw [g,d,f]:_=(bm (c::r)||((c::r:By) == [41])||((c::r:By) == [116,114,117,101])||((c::r:By) == [102,97,108,115,101])||cT c)));clear k g d f D;cases h:((c::r:By) == [41])
   .cases j:((c::r:By) == [116,114,117,101])
    .cases m:((c::r:By) == [102,97,108,115,101])
     .go_in;go_wp2_with (first|(go_at_call 76;refine (dD _ _).m ?_;rintro e C ⟨rfl,b⟩)|(go_at_call 109;refine (bR (c.toNat:Int) _).m ?_;rintro e C ⟨rfl,rfl⟩));go_ret;exact ⟨by rw [i.o,a,h,j,m];rfl,by assumption⟩
     .go_in;go_wp2_with (go_at_call 76;refine (dD _ _).m ?_;rintro e C ⟨rfl,b⟩);go_ret;exact ⟨by rw [i.o,a,h,j,m];rfl,by assumption⟩
    .go_in;go_wp2_with (go_at_call 76;refine (dD _ _).m ?_;rintro e C ⟨rfl,b⟩);go_ret;exact ⟨by rw [i.o,a,h,j];rfl,by assumption⟩
   .go_in;go_wp2_with (go_at_call 76;refine (dD _ _).m ?_;rintro e C ⟨rfl,b⟩);go_ret;exact ⟨by rw [i.o,a,h];rfl,by assumption⟩
def aE (l:By) (a b:Nat):(ByteArray.mk l.toArray).extract a b=⟨((l.drop a).take (b - a)).toArray⟩:=by
 apply ByteArray.ext;rw [ByteArray.data_extract];apply yv.1;simp [List.extract_eq_take_drop]
def aq (a b:By):ByteArray.mk a.toArray++ByteArray.mk b.toArray=⟨(a++b).toArray⟩:=by
 apply ByteArray.ext;simp
def c7:zV->Nat|.string s=>s.size|_=>0
def Jm (t:By) (w:zW) (i:G t<=1000) :
  zC prog 79 #[Q t] w λe E=>e=zP (Q (dy t))/\w=E:=by
 go_in;go_wp2
 go_loop [0] (λv=>∃ u:By,G u<=1000/\v=Q u/\dy u=dy t) (λv=>c7 v)
 case atStart=>exact ⟨t,i,rfl,rfl⟩
 case round=>
  obtain ⟨u,f,rfl,F⟩:=hrel;have C:=I F;clear F
  match u,C,f with
  | [],C,_=>
   go_wp2;go_ret;exact ⟨by rw [<- C.o];rfl,rfl⟩
  | [c],C,_=>
   go_wp2;go_ret;exact ⟨by rw [<- C.o];rfl,rfl⟩
  | c::d::r,C,f=>
   have a:dy (c::d::r)=if c=48&&cT d then dy (d::r) else c::d::r:=rfl
   simp only [gS] at f;by_cases D:c=48
   .by_cases b:cT d=true
    .have g:dm (d.toNat:Int)=true:=b;subst D;go_wp2_with (go_at_call 109;refine (bR (d.toNat:Int) _).m ?_;rintro e E ⟨rfl,rfl⟩)
     go_round
     case rel=>
      refine ⟨d::r,by simp;omega,by rw [aE];simp,?_⟩;rw [<- C.o];simp [dy,b]
     case measure=>
      rw [aE];show (List.take _ (d::r)).toArray.size<(48::d::r).toArray.size;simp
    .have g:dm (d.toNat:Int)=false:=by simpa [cT] using b
     subst D;clear a;go_wp2_with (go_at_call 109;refine (bR (d.toNat:Int) _).m ?_;rintro e E ⟨rfl,rfl⟩);go_ret;exact ⟨by rw [<- C.o];simp [dy,b],rfl⟩
   .have j:((c.toNat:Int) == 48)=false:=(by simp only [bo];intro h;apply D;apply UInt8.toNat_inj.1;simp;omega);clear a;go_wp2;go_ret;exact ⟨by rw [<- C.o];simp [dy,D],rfl⟩
end
section
attribute [local go_sem] ap
def pN (p:UInt8->Bool) (r:By) (m:Nat) (C:m<=G r) (b:∀ j (h:j<G r),j<m->p r[j]=true)
  (d:m=G r\/∃ h:m<G r,p (r[m]'h)=false):(r.takeWhile p).length=m:=by
 induction r generalizing m with
 | nil=>simp at C;simp [C]
 | cons c r f=>
  cases m with
  | zero=>
   rcases d with h|⟨h,a⟩
   .simp at h
   .simp at a;simp [a]
  | succ m=>
   have e:p c=true:=b 0 (by simp) (by omega);simp [e];apply f m (by simpa using C)
   .intro j h g;exact b (j+1) (by simpa using h) (by omega)
   .rcases d with h|⟨h,a⟩
    .left;simpa using h
    .right;exact ⟨by simpa using h,by simpa using a⟩
def EO {c:UInt8} {r:By} (h:fF c=true):rowLen (c::r)=1+(r.takeWhile iO).length:=by simp [rowLen,h]
def yT {c:UInt8} {r:By} (h:fF c=false) (a:cT c=true):rowLen (c::r)=1+(r.takeWhile cT).length:=by simp [rowLen,h,a]
def EP {c:UInt8} {r:By} (h:fF c=false) (a:cT c=false):rowLen (c::r)=1:=by simp [rowLen,h,a]
def Ac (c:UInt8) (r:By) (w:zW) (p:G r<=1000) :
  zC prog 59 #[Q (c::r)] w λe C=>e=zP (Q ((c::r).take (rowLen (c::r))))/\w=C:=by
 cases f:fF c
 .have m:jK (c.toNat:Int)=false:=f;cases n:cT c
  .have g:dm (c.toNat:Int)=false:=n;have E:=I (EP (r:=r) f n);go_in;go_wp2_with (first|(go_at_call 88;refine (lB (c.toNat:Int) _).m ?_;rintro e C ⟨rfl,rfl⟩)|(go_at_call 87;refine (jJ (c.toNat:Int) _).m ?_;rintro e C ⟨rfl,rfl⟩));go_ret;exact ⟨by rw [E.o,aE];rfl,rfl⟩
  .have g:dm (c.toNat:Int)=true:=n;have E:=I (yT (r:=r) f n);go_in;go_wp2_with (first|(go_at_call 88;refine (lB (c.toNat:Int) _).m ?_;rintro e C ⟨rfl,rfl⟩)|(go_at_call 87;refine (jJ (c.toNat:Int) _).m ?_;rintro e C ⟨rfl,rfl⟩))
   go_loop [4] (λi=>∃ k:Nat,k<=G r/\i=J ((k:Int)+1)/\∀ j (h:j<G r),j<k->cT r[j]=true) (λi=>G r+1 - (intOf i).toNat)
   case atStart=>exact ⟨0,by omega,rfl,λ_ _ h=>by omega⟩
   case round=>
    obtain ⟨k,o,rfl,l⟩:=hrel;have D:=I l;clear l;by_cases b:k<G r
    .cases a:cT r[k]
     .have d:dm (r[k].toNat:Int)=false:=a;have F:=I (pN cT r k (by omega) D.o (zZ ⟨b,a⟩));go_wp2_with (go_at_call 87;refine (jJ (r[k].toNat:Int) _).m ?_;rintro e C ⟨rfl,rfl⟩);go_ret;exact ⟨by rw [E.o,F.o,aE,mP 1 k];rfl,rfl⟩
     .have d:dm (r[k].toNat:Int)=true:=a;have K:=I a;clear a;go_wp2_with (go_at_call 87;refine (jJ (r[k].toNat:Int) _).m ?_;rintro e C ⟨rfl,rfl⟩)
      go_round
      case rel=>
       refine ⟨k+1,by omega,by go_num,λj h L=>?_⟩;rcases cC j k with H|H
       .exact D.o j h H
       .obtain rfl:j=k:=(by omega);exact K.o
      case measure=>simp [intOf];omega
    .have F:=I (pN cT r k (by omega) D.o (zR (by omega)));go_wp2;go_ret;exact ⟨by rw [E.o,F.o,aE,mP 1 k];rfl,rfl⟩
 .have m:jK (c.toNat:Int)=true:=f
  .have g:AB (c.toNat:Int)=true:=by simp [AB,m]
   have E:=I (EO (r:=r) f);go_in;go_wp2_with (first|(go_at_call 88;refine (lB (c.toNat:Int) _).m ?_;rintro e C ⟨rfl,rfl⟩)|(go_at_call 89;refine (FX (c.toNat:Int) _).m ?_;rintro e C ⟨rfl,rfl⟩))
   go_loop [4] (λi=>∃ k:Nat,k<=G r/\i=J ((k:Int)+1)/\∀ j (h:j<G r),j<k->iO r[j]=true) (λi=>G r+1 - (intOf i).toNat)
   case atStart=>exact ⟨0,by omega,rfl,λ_ _ h=>by omega⟩
   case round=>
    obtain ⟨k,o,rfl,l⟩:=hrel;have D:=I l;clear l;by_cases b:k<G r
    .cases a:iO r[k]
     .have d:AB (r[k].toNat:Int)=false:=a;have F:=I (pN iO r k (by omega) D.o (zZ ⟨b,a⟩));go_wp2_with (go_at_call 89;refine (FX (r[k].toNat:Int) _).m ?_;rintro e C ⟨rfl,rfl⟩);go_ret;exact ⟨by rw [E.o,F.o,aE,mP 1 k];rfl,rfl⟩
     .have d:AB (r[k].toNat:Int)=true:=a;have K:=I a;clear a;go_wp2_with (go_at_call 89;refine (FX (r[k].toNat:Int) _).m ?_;rintro e C ⟨rfl,rfl⟩)
      go_round
      case rel=>
       refine ⟨k+1,by omega,by go_num,λj h L=>?_⟩;rcases cC j k with H|H
       .exact D.o j h H
       .obtain rfl:j=k:=(by omega);exact K.o
      case measure=>simp [intOf];omega
    .have F:=I (pN iO r k (by omega) D.o (zR (by omega)));go_wp2;go_ret;exact ⟨by rw [E.o,F.o,aE,mP 1 k];rfl,rfl⟩
end
section
attribute [local go_sem] ap aq aE
def Cr (t:By) (x:UInt8):cR (t++[x])=10*cR t+(x.toNat - 48):=by simp [cR]
def gq {x:UInt8} (h:cT x=true):48<=x.toNat/\x.toNat<=57:=by
 simp [cT,dm] at h;omega
def Um (t:By) (n:Nat) (h:∀ j (C:j<G t),cT t[j]=true):t.foldl (λn c=>10*n+(c.toNat - 48)) n<(n+1)*10 ^ (G t):=by
 induction t generalizing n with
 | nil=>simp
 | cons x t b=>
  have a:=b (10*n+(x.toNat - 48)) λj C=>by
   have:=h (j+1) (by simpa using C);simpa using this
  have d:=gq (x:=x) (h 0 (by simp));rw [wC,gS,Nat.pow_succ];refine bG a ?_;rw [show (n+1)*(10 ^ (G t)*10)=(10*n+10)*10 ^ (G t) by rw [Nat.mul_comm (10 ^ (G t)) 10,<- Nat.mul_assoc];congr 1;omega];exact Nat.mul_le_mul_right _ (by omega)
def AC (t:By) (h:∀ j (a:j<G t),cT t[j]=true):cR t<10 ^ (G t):=by
 have:=Um t 0 h;simpa [cR] using this
def Mt (l:By) (a m:Nat) (e:m<=18) (g:a+m<=G l) (h:∀ i (k:a+i<G l),i<m->cT l[a+i]=true):cR ((l.drop a).take m)<=999999999999999999:=by
 have c:=AC ((l.drop a).take m) λj C=>by
  have b:j<m:=(by simp at C;omega);have:=h j (by omega) b;simpa using this
 have d:((l.drop a).take m).length=m:=(by simp;omega);rw [d] at c;have n:10 ^ m<=10 ^ 18:=Nat.pow_le_pow_right (by omega) e;have f:(10:Nat) ^ 18=1000000000000000000:=(by decide +kernel);omega
def ia (l:By) (a:Nat):Int:=if di ((l.drop a).take (rowLen (l.drop a))) then ((a+rowLen (l.drop a):Nat):Int) else -1
def JJ (l:By) (a m:Nat) (h:a+m<G l):(l.drop a).take (m+1)=(l.drop a).take m++[l[a+m]]:=by
 rw [vJ (by simp;omega)];simp
def Un (l:By) (a j:Nat) (h:a<G l) (C:cT l[a]=true) (f:fF l[a]=false) (E:((l.drop (a+1)).takeWhile cT).length=j) :
  ia l a=if 19<j+1 then -1 else if 9223372036854775807<(cR ((l.drop a).take (j+1)):Int) then -1 else ((a+1+j:Nat):Int):=by
 have D:l.drop a=l[a]::l.drop (a+1):=jL h;have i:rowLen (l.drop a)=1+j:=by rw [D,yT f C,E]
 have c:j<=(l.drop (a+1)).length:=(by rw [<- E];exact (List.takeWhile_prefix _).length_le);simp at c;unfold ia di;rw [i,mP 1 j];have g:ae ((l.drop a).take (j+1))=true:=(by rw [D,yn];exact C);rw [aB g];have b:((l.drop a).take (j+1)).length=j+1:=(by simp;omega);rw [b];unfold gP;by_cases d:19<j+1
 .rw [aB d,aA (by simp;omega)]
 .rw [aA d];by_cases e:9223372036854775807<(cR ((l.drop a).take (j+1)):Int)
  .rw [aB e,aA (by simp;omega)]
  .rw [aA e,aB (by simp;omega)];omega
def AE (l:By) (a:Nat) (w:zW) (s:a<G l) (t:G l<=1000) (d:cT l[a]=true) (q:fF l[a]=false) :
  zC prog 74 #[Q l,J a] w λe K=>e=zP (J (ia l a))/\w=K:=by
 have p:dm (l[a].toNat:Int)=true:=d;have k:=I (λj=>Un l a j s d q);have N:=I d;clear d;go_in;go_wp2_with (go_at_call 109;refine (bR (l[a].toNat:Int) _).m ?_;rintro e K ⟨rfl,rfl⟩)
 go_loop [5] (λv=>∃ j:Nat,a+1+j<=G l/\v=J ((a:Int)+1+j)/\∀ i (h:a+1+i<G l),i<j->cT l[a+1+i]=true) (λv=>G l - (intOf v).toNat)
 case atStart=>exact ⟨0,by omega,(by simp),λ_ _ h=>by omega⟩
 case round=>
  obtain ⟨j,HN,rfl,o⟩:=hrel;have D:=I o;clear o;by_cases HJ:a+1+j<G l;cases c:cT l[a+1+j]
  focus
   have g:dm (l[a+1+j].toNat:Int)=false:=c;have f:=I (pN cT (l.drop (a+1)) j (by simp;omega) (λi F L=>by have:=D.o i (by simp at F;omega) L;simpa using this) (zZ ⟨by simp;omega,by simpa using c⟩));have C:=I (k.o j f.o);by_cases b:19<j+1<;>have E:=I b
   .go_wp2_with (go_at_call 109;refine (bR (l[a+1+j].toNat:Int) _).m ?_;rintro e K ⟨rfl,rfl⟩);go_ret;exact ⟨by rw [C.o,aB E.o];rfl,rfl⟩
   go_wp2_with (go_at_call 109;refine (bR (l[a+1+j].toNat:Int) _).m ?_;rintro e K ⟨rfl,rfl⟩)
  rotate_left
  .have g:dm (l[a+1+j].toNat:Int)=true:=c;have S:=I c;clear c;go_wp2_with (go_at_call 109;refine (bR (l[a+1+j].toNat:Int) _).m ?_;rintro e K ⟨rfl,rfl⟩)
   go_round
   case rel=>
    refine ⟨j+1,by omega,by go_num,λi h F=>?_⟩;rcases cC i j with O|O
    .exact D.o i h O
    .obtain rfl:i=j:=(by omega);exact S.o
   case measure=>simp [intOf];omega
  focus
   have f:=I (pN cT (l.drop (a+1)) j (by simp;omega) (λi F L=>by have:=D.o i (by simp at F;omega) L;simpa using this) (zR (by simp;omega)));have C:=I (k.o j f.o);by_cases b:19<j+1<;>have E:=I b
   .go_wp2;go_ret;exact ⟨by rw [C.o,aB E.o];rfl,rfl⟩
   go_wp2
  all_goals
   go_loop [6,7] (λn i=>∃ m:Nat,m<=j+1/\i=J ((a:Int)+m)/\n=.int .u64 (cR ((l.drop a).take m):Int)) (λ_ i=>a+j+1 - (intOf i).toNat)
   case atStart=>exact ⟨0,by omega,(by simp),rfl⟩
   case round=>
    obtain ⟨m,u,rfl,rfl⟩:=hrel;by_cases x:m<j+1
    .have Y:a+m<G l:=(by omega);have P:cT l[a+m]=true:=by
      cases m with
      | zero=>exact N.o
      | succ m=>
       have:=D.o m (by omega) (by omega);simpa [oJ,mP 1 m] using this
     have R:=gq P;have Z:=Mt l a m (by omega) (by omega) (λi F r=>by
      cases i with
      | zero=>exact N.o
      | succ i=>
       have:=D.o i (by omega) (by omega);simpa [oJ,mP 1 i] using this)
     have T:=I (show cR ((l.drop a).take (m+1))=10*cR ((l.drop a).take m)+(l[a+m].toNat - 48) by rw [JJ l a m Y,Cr]);have y:(48:Int)<=(l[a+m].toNat:Int):=(by omega);have z:(l[a+m].toNat:Int)<=57:=(by omega);clear P R;generalize H:cR ((l.drop a).take m)=V at *;have U:=I H;clear H;go_wp2
     go_round
     case rel=>exact ⟨m+1,by omega,by go_num,by rw [T.o];go_num⟩
     case measure=>simp [intOf];omega
    .obtain rfl:m=j+1:=(by omega);generalize H:cR ((l.drop a).take (j+1))=V at *;have U:=I H;clear H;by_cases W:9223372036854775807<(V:Int)<;>have M:=I W
     .go_wp2;go_ret;exact ⟨by rw [C.o,aA E.o,aB M.o];rfl,rfl⟩
     .go_wp2;go_ret;exact ⟨by rw [C.o,aA E.o,aA (by have:=M.o;omega)];go_num,rfl⟩
def Uu (l:By) (a j:Nat) (h:a<G l) (E:cT l[a]=false) (f:fF l[a]=true) (D:((l.drop (a+1)).takeWhile iO).length=j) :
  ia l a=if 6<j+1 then -1 else ((a+1+j:Nat):Int):=by
 have C:l.drop a=l[a]::l.drop (a+1):=jL h;have i:rowLen (l.drop a)=1+j:=by rw [C,EO f,D]
 have d:j<=(l.drop (a+1)).length:=(by rw [<- D];exact (List.takeWhile_prefix _).length_le);simp at d;unfold ia di;rw [i,mP 1 j];have g:ae ((l.drop a).take (j+1))=false:=(by rw [C,yn];exact E);have c:j6 ((l.drop a).take (j+1))=true:=by rw [C,yn];exact f
 rw [g,c];have b:((l.drop a).take (j+1)).length=j+1:=(by simp;omega);rw [b];by_cases e:6<j+1
 .rw [aB e];simp;omega
 .rw [aA e];simp;omega
def Uv (l:By) (a:Nat) (h:a<G l) (e:cT l[a]=false) (c:fF l[a]=false) :
  ia l a=if b5 [l[a]] iV then ((a+1:Nat):Int) else -1:=by
 have d:l.drop a=l[a]::l.drop (a+1):=jL h;have g:rowLen (l.drop a)=1:=by rw [d,EP c e]
 unfold ia di;rw [g,d];simp only [yn,List.take_zero];have f:ae [l[a]]=false:=e;have b:j6 [l[a]]=false:=c;simp [f,b]
def AF (l:By) (a:Nat) (w:zW) (s:a<G l) (t:G l<=1000) (f:cT l[a]=false) (d:fF l[a]=true) :
  zC prog 74 #[Q l,J a] w λe C=>e=zP (J (ia l a))/\w=C:=by
 have q:dm (l[a].toNat:Int)=false:=f;have p:jK (l[a].toNat:Int)=true:=d;have k:=I (λj=>Uu l a j s f d);clear f d;go_in;go_wp2_with (first|(go_at_call 109;refine (bR (l[a].toNat:Int) _).m ?_;rintro e C ⟨rfl,rfl⟩)|(go_at_call 110;refine (iI (l[a].toNat:Int) _).m ?_;rintro e C ⟨rfl,rfl⟩))
 go_loop [5] (λv=>∃ j:Nat,a+1+j<=G l/\v=J ((a:Int)+1+j)/\∀ i (h:a+1+i<G l),i<j->iO l[a+1+i]=true) (λv=>G l - (intOf v).toNat)
 case atStart=>exact ⟨0,by omega,(by simp),λ_ _ h=>by omega⟩
 case round=>
  obtain ⟨j,u,rfl,o⟩:=hrel;have K:=I o;clear o;by_cases r:a+1+j<G l
  .cases m:jK (l[a+1+j].toNat:Int)
   .cases n:dm (l[a+1+j].toNat:Int)
    .have b:iO l[a+1+j]=false:=by simp [iO,AB,m,n]
     have c:=I (pN iO (l.drop (a+1)) j (by simp;omega) (λi H M=>by have:=K.o i (by simp at H;omega) M;simpa using this) (zZ ⟨by simp;omega,by simpa using b⟩));clear b;have E:=I (k.o j c.o);by_cases g:6<j+1<;>have D:=I g
     .go_wp2_with (first|(go_at_call 110;refine (iI (l[a+1+j].toNat:Int) _).m ?_;rintro e C ⟨rfl,rfl⟩)|(go_at_call 109;refine (bR (l[a+1+j].toNat:Int) _).m ?_;rintro e C ⟨rfl,rfl⟩));go_ret;exact ⟨by rw [E.o,aB D.o];rfl,rfl⟩
     .go_wp2_with (first|(go_at_call 110;refine (iI (l[a+1+j].toNat:Int) _).m ?_;rintro e C ⟨rfl,rfl⟩)|(go_at_call 109;refine (bR (l[a+1+j].toNat:Int) _).m ?_;rintro e C ⟨rfl,rfl⟩));go_ret;exact ⟨by rw [E.o,aA (by have:=D.o;omega)];go_num,rfl⟩
    .have b:iO l[a+1+j]=true:=by simp [iO,AB,n]
     have L:=I b;clear b;go_wp2_with (first|(go_at_call 110;refine (iI (l[a+1+j].toNat:Int) _).m ?_;rintro e C ⟨rfl,rfl⟩)|(go_at_call 109;refine (bR (l[a+1+j].toNat:Int) _).m ?_;rintro e C ⟨rfl,rfl⟩))
     go_round
     case rel=>
      refine ⟨j+1,by omega,by go_num,λi h H=>?_⟩;rcases cC i j with F|F
      .exact K.o i h F
      .obtain rfl:i=j:=(by omega);exact L.o
     case measure=>simp [intOf];omega
   .have b:iO l[a+1+j]=true:=by simp [iO,AB,m]
    have L:=I b;clear b;go_wp2_with (go_at_call 110;refine (iI (l[a+1+j].toNat:Int) _).m ?_;rintro e C ⟨rfl,rfl⟩)
    go_round
    case rel=>
     refine ⟨j+1,by omega,by go_num,λi h H=>?_⟩;rcases cC i j with F|F
     .exact K.o i h F
     .obtain rfl:i=j:=(by omega);exact L.o
    case measure=>simp [intOf];omega
  .have c:=I (pN iO (l.drop (a+1)) j (by simp;omega) (λi H M=>by have:=K.o i (by simp at H;omega) M;simpa using this) (zR (by simp;omega)));have E:=I (k.o j c.o);by_cases g:6<j+1<;>have D:=I g
   .go_wp2;go_ret;exact ⟨by rw [E.o,aB D.o];rfl,rfl⟩
   .go_wp2;go_ret;exact ⟨by rw [E.o,aA (by have:=D.o;omega)];go_num,rfl⟩
def AM (l:By) (a:Nat) (w:zW) (f:a<G l) (o:G l<=1000) (c:cT l[a]=false) (b:fF l[a]=false) :
  zC prog 74 #[Q l,J a] w λe C=>e=zP (J (ia l a))/\zB w C:=by
 have i:dm (l[a].toNat:Int)=false:=c;have n:jK (l[a].toNat:Int)=false:=b;have k:=I (Uv l a f c b);clear c b;have g:=I (show (l.drop a).take 1=[l[a]] by rw [jL f];rfl);cases d:b5 ((l.drop a).take 1) iV
 all_goals
  have m:=I d;go_in;go_wp2_with (first|(go_at_call 109;refine (bR (l[a].toNat:Int) _).m ?_;rintro e C ⟨rfl,rfl⟩)|(go_at_call 110;refine (iI (l[a].toNat:Int) _).m ?_;rintro e C ⟨rfl,rfl⟩)|(go_at_call 77;refine (xz ((l.drop a).take 1) iV (yh w.heap.size) 10 _ (by decide) (λj h=>fh w iV 9 j h)).m ?_;rintro e C ⟨rfl,rfl⟩));go_ret;exact ⟨by rw [k.o,<- g.o,m.o];first|rfl|go_num,(aM _ _).alloc (aG _) _⟩
def KN (l:By) (a:Nat) (w:zW) (d:a<G l) (f:G l<=1000) :
  zC prog 74 #[Q l,J a] w λe C=>e=zP (J (ia l a))/\zB w C:=by
 cases c:cT l[a]
 .cases b:fF l[a]
  .exact AM l a w d f c b
  .exact (AF l a w d f c b).m λe C h=>⟨h.1,h.2▸aM _ _⟩
 .have b:fF l[a]=false:=by
   have:=gq c;simp [fF,jK];omega
  exact (AE l a w d f c b).m λe C h=>⟨h.1,h.2▸aM _ _⟩
end
section
attribute [local go_sem] ap aq
def p7:List By:=[[],[],[],[105,102],[32,97,110,100,32],[32,111,114,32],[110,111,116,32],[116,114,117,101],[102,97,108,115,101],[40],[41],[44,32],[32,43,32],[32,45,32],[45],[32,42,32],[32,47,32],[32,37,32],[32,61,32],[32,60,32]]
def kY:List Int:=[0,0,0,0,0,0,3,0,0,0,0,0,0,6,0,0,0,0,0,0]
def uv:List Int:=[0,0,0,0,2,1,0,0,0,0,0,0,4,4,0,5,5,5,3,3]
def tD:List By:=[[],[],[],[105,102,40],[],[],[110,111,116,32],[116,114,117,101],[102,97,108,115,101],[40],[],[],[],[],[45],[],[],[],[],[]]
def EF:List By:=[[],[],[],[44,32],[32,97,110,100,32],[32,111,114,32],[],[],[],[],[],[],[32,43,32],[32,45,32],[],[32,42,32],[32,47,32],[32,37,32],[32,61,32],[32,60,32]]
def tE:List By:=[[],[],[],[41],[],[],[],[],[],[41],[],[],[],[],[],[],[],[],[],[]]
def iP (k:Nat):By:=tD.getD k []
def lL (k:Nat):By:=EF.getD k []
def jO (k:Nat):By:=tE.getD k []
def Sc:Array zV:=((List.range 20).flatMap λk=>[Q (iP k),Q (lL k),Q (jO k)]).toArray
def Qe:Array zV:=(dX.flatMap λx=>[Q x.1,J x.2]).toArray
def IC:Array zV:=(kY.map λx=>Value.int .i64 x).toArray
def Qf:Array zV:=(uv.map λx=>Value.int .i64 x).toArray
structure Env (w:zW):Prop where
 spell:∃ t fr,w.heap[4]?=A (zM Sc t fr)
 ag1:∃ t fr,w.heap[1]?=A (zM Qe t fr)
 ahead:∃ t fr,w.heap[2]?=A (zM IC t fr)
 ag2:∃ t fr,w.heap[3]?=A (zM Qf t fr)
 range:∃ tp p,w.var? prog "strconv.ErrRange" = A #[.iface tp p]
 pow:Lib.TabIs prog w "internal/strconv.uint64pow10" .u64 Lib.pow10Tab
 size:11<=w.heap.size
def ID:prog.globalNamed "strconv.ErrRange" = A 8:=by kernel_rfl
def ir:prog.globalNamed "internal/strconv.uint64pow10" = A 5:=by kernel_rfl
def Dv {w w':zW} {Q4 g:Nat} {nm:String} (c:Below Q4 w w') (b:prog.globalNamed nm=A g) (a:g<Q4):w'.var? prog nm=w.var? prog nm:=by
 unfold World.var?;rw [b];simp only [Option.bind_some];rw [c.block g a]
def Env.below {w w':zW} {Q4:Nat} (h:Env w) (a:Below Q4 w w') (b:11<=Q4):Env w':=by
 refine ⟨?_,?_,?_,?_,?_,?_,bf h.size a.size⟩
 .rw [a.block 4 (by omega)];exact h.spell
 .rw [a.block 1 (by omega)];exact h.ag1
 .rw [a.block 2 (by omega)];exact h.ahead
 .rw [a.block 3 (by omega)];exact h.ag2
 .rw [Dv a ID (by omega)];exact h.range
 .exact (Dv a ir (by omega)).t h.pow
def Env.next {w w':zW} (h:Env w) (a:zB w w'):Env w':=h.below a h.size
def UZ (k:Nat) (h:k<16) (w:zW):(Instr.index 208 (zd Qe) (J k)).run prog w=.ok (zd #[Q ((dX[k]'h).1),J (dX[k]'h).2]) w:=by
 rcases (show k=0\/k=1\/k=2\/k=3\/k=4\/k=5\/k=6\/k=7\/k=8\/k=9\/k=10\/k=11\/k=12\/k=13\/k=14\/k=15 by omega) with h|h|h|h|h|h|h|h|h|h|h|h|h|h|h|h<;>subst h<;>kernel_rfl
def Qg (l:List (By × Int)) (t:By) (k:Nat) (h:k<G l) (a:∀ j (D:j<G l),j<k->l[j].1≠t) (C:l[k].1=t):iA l t=A l[k].2:=by
 induction l generalizing k with
 | nil=>simp at h
 | cons x l d=>
  obtain ⟨y,z⟩:=x;cases k with
  | zero=>
   simp at C;simp [iA,C]
  | succ k=>
   have b:y≠t:=a 0 (by simp) (by omega);simp only [iA,aA b];have:=d k (by simpa using h) (λj D c=>a (j+1) (by simpa using D) (by omega)) (by simpa using C);simpa using this
def se (l:List (By × Int)) (t:By) (a:∀ j (C:j<G l),l[j].1≠t):iA l t=none:=by
 induction l with
 | nil=>rfl
 | cons x l c=>
  obtain ⟨y,z⟩:=x;have b:y≠t:=a 0 (by simp);simp only [iA,aA b];exact c λj C=>a (j+1) (by simpa using C)
def xk (t:By) (w:zW) (q:Env w) :
  zC prog 92 #[Q t] w λe E=>e=zP (zp #[J ((fH t).getD 0),zF (fH t).isSome])/\zB w E:=by
 obtain ⟨s,D,p⟩:=q.ag1;have u:=I p;clear p q;go_in;go_wp2_with (refine wpList_load_row rfl 208 _ rfl 1 rfl s _ D _ u.o underlying208 rfl (by kernel_rfl) ?_);go_loopw [7] (λi wr=>∃ k:Nat,k<=16/\i=J k/\zB w wr/\Hid (∀ j (b:j<16),j<k->(dX[j]'b).1≠t)) (λi _=>16 - (intOf i).toNat)
 case atStart=>exact ⟨0,by omega,rfl,aM _ _,λ_ _ h=>by omega⟩
 case round=>
  obtain ⟨k,v,rfl,f,g⟩:=hrel;have c:=f.size;by_cases a:k<16
  .have r:=UZ k a;by_cases C:(dX[k]'a).1=t
   .have n:((dX[k]'a).1 == t)=true:=(by simp [C]);have l:=I (show fH t=A (dX[k]'a).2 from Qg dX t k a (λj b d=>g.o j b d) C);clear C;generalize (dX[k]'a).1=x at *;generalize (dX[k]'a).2=z at *;go_wp2;go_ret2;exact ⟨by rw [l.o];rfl,f.alloc c _⟩
   .have n:((dX[k]'a).1 == t)=false:=bo.2 C;have m:=I (show ∀ j (b:j<16),j<k+1->(dX[j]'b).1≠t from λj b d=>by
     rcases cC j k with o|o
     .exact g.o j b o
     .obtain rfl:j=k:=(by omega);exact C)
    clear C;generalize (dX[k]'a).1=x at *;generalize (dX[k]'a).2=z at *;go_wp2;go_roundw
    case rel=>exact ⟨k+1,by omega,by go_num,f.alloc c _,m⟩
    case measure=>simp [intOf];omega
  .go_wp2;go_ret2;have l:fH t=none:=se dX t λj b=>g.o j b (by have:j<16:=b;omega);exact ⟨by rw [l];rfl,f⟩
def dt (K:List (By × Nat)):List zV:=K.flatMap λt=>[Q t.1,J (t.2:Int)]
def Im (K:List (By × Nat)) (t:By) (p:Nat):dt (K++[(t,p)])=dt K++[Q t,J p]:=by simp [dt]
def AN:(prog.info? 118).map (λi=>(i.zero,i.size,i.bytes))=A (A (zd #[Q [],J 0]),2,24):=by kernel_rfl
def JK (f:Nat) (s:By) (k:Nat) (a:k<G s) (h:s[k]=32):bW (f+1) (s.drop k) k=bW f (s.drop (k+1)) (k+1):=by
 rw [jL a,h];rfl
def Ux (f:Nat) (s:By) (k:Nat) (c:k<G s) (h:s[k]≠32) (a:ia s k = -1):bW (f+1) (s.drop k) k=([],A k):=by
 have b:di ((s.drop k).take (rowLen (s.drop k)))=false:=by
  unfold ia at a;split at a
  .omega
  .simp_all
 rw [jL c] at b ⊢;unfold bW;rw [aA h,aA (by rw [b];simp)]
def nD (c:UInt8) (r:By):1<=rowLen (c::r):=by
 simp only [rowLen];split
 .omega
 .split<;>omega
def Da (l:By):rowLen l<=G l:=by
 cases l with
 | nil=>simp [rowLen]
 | cons c r=>
  have b:=(List.takeWhile_prefix (l:=r) iO).length_le;have a:=(List.takeWhile_prefix (l:=r) cT).length_le;unfold rowLen;simp only [gS];split
  .omega
  .split<;>omega
def Uy (f:Nat) (s:By) (k:Nat) (e:k<G s) (h:s[k]≠32) (b:ia s k ≠ -1) :
  ∃ n,1<=n/\k+n<=G s/\ia s k=((k+n:Nat):Int) /\
   bW (f+1) (s.drop k) k=(((s.drop k).take n,k)::(bW f (s.drop (k+n)) (k+n)).1,(bW f (s.drop (k+n)) (k+n)).2):=by
 have d:di ((s.drop k).take (rowLen (s.drop k)))=true:=by
  unfold ia at b;split at b
  .assumption
  .simp at b
 have c:=Da (s.drop k);have a:1<=rowLen (s.drop k):=by rw [jL e];exact nD _ _
 simp at c;refine ⟨rowLen (s.drop k),a,by omega,by unfold ia;rw [aB d],?_⟩;have g:s.drop (k+rowLen (s.drop k))=(s.drop k).drop (rowLen (s.drop k)):=(by simp);rw [g];have i:=jL e;generalize s.drop k=u at *;subst i
 conv=>lhs;unfold bW
 rw [aA h,aB d]
def Io {w w':zW} (h:zB w w'):w.grownBy w' none:=⟨h.os,h.tape,h.output,h.size,λk a _=>h.block k a⟩
def aZ {w w':zW} {Q4:Nat} {e:TypeId} {z:Nat} {v:zV} {n:Nat} {C:List zV} (h:w.ownsRow Q4 e z v n C) (a:zB w w'):w'.ownsRow Q4 e z v n C:=
 h.kept (Io a) (by cases b:v.ownBlock<;>simp)
def bC (w:zW) (cs:List zV) (T:TypeId) (j:Nat) (u:zV) (h:cs[j]?=A u):(w.alloc (zM cs.toArray T)).cell? (((yh w.heap.size):zD).add j)=A u:=by
 rw [show ((yh w.heap.size):zD).add j=(X w.heap.size j) by simp [Addr.add];intro h;exact h.symm,World.cell?_alloc_new];simpa using h
def AV (s:By) (w:zW) (e:Ending) (w':zW):Prop:=
 (∀ p,(aI s).2=A p->e=zP (zp #[zN,J p])) /\
 ((aI s).2=none->∃ v,e=zP (zp #[v,J (-1)])/\w'.ownsRow w.heap.size 118 2 v (aI s).1.length (dt (aI s).1)) /\
 zB w w'
def Fl (s:By) (w:zW) (E:G s<=1000) :
  zC prog 51 #[Q s] w (AV s w):=by
 obtain ⟨v,N,hb,w1,Y⟩:=fe AN;go_in;go_wp2;go_loopw [4,5] (λHT i wr=>∃ (k f:Nat) (K:List (By × Nat)),k<=G s/\G s<=k+f/\i=J k/\wr.ownsRow w.heap.size 118 2 HT (G K) (dt K)/\zB w wr/\G K<=k /\
   Hid (aI s=(K++(bW f (s.drop k) k).1,(bW f (s.drop k) k).2))) (λ_ i _=>G s - (intOf i).toNat)
 case atStart=>exact ⟨0,G s,[],by omega,by omega,rfl,eW _ _ _ _,aM _ _,(by simp),rfl⟩
 case round=>
  obtain ⟨k,f,K,SI,QV,rfl,V,T,Q4,M⟩:=hrel;have l:=T.size;by_cases U:k<G s
  .obtain ⟨f,rfl⟩:∃ g,f=g+1:=⟨f - 1,by omega⟩;by_cases L:s[k]=32
   .have y:=I (M.o.t (by rw [JK f s k U L]));have z:((s[k].toNat:Int) == 32)=true:=by simp [L]
    clear L;go_wp2;go_roundw
    case rel=>exact ⟨k+1,f,K,by omega,by omega,by go_num,V,T,by omega,y⟩
    case measure=>simp [intOf];omega
   .have z:((s[k].toNat:Int) == 32)=false:=(by simp only [bo];intro h;apply L;apply UInt8.toNat_inj.1;simp;omega);by_cases t:ia s k = -1
    .have H:=I (Ux f s k U L t);have C:=I t;clear t L;go_wp2_with (go_at_call 74;refine (KN s k _ U E).m ?_;rintro e W ⟨rfl,b⟩;rw [C.o]);go_ret2;refine ⟨λp d=>?_,λF=>?_,T.t (b.m l)⟩
     .rw [M.o,H.o] at d;simp at d;subst d;rfl
     .rw [M.o,H.o] at F;simp at F
    .obtain ⟨n,QT,Q5,r,m⟩:=Uy f s k U L t;have Z:=I m;have C:=I r;clear t L m r;go_wp2_with (go_at_call 74;refine (KN s k _ U E).m ?_;rintro e W ⟨rfl,b⟩;rw [C.o];apply Hid.o);apply I;have Q0:=b.size;go_wp2_with (at_builtin;refine km _ rfl (.tmp 23) (.tmp 30) 76 rfl w.heap.size 118 v (zd #[Q [],J 0]) 2 24 underlying76 N hb w1 Y rfl (by decide) u4 (G K) (dt K) rfl ?c0 (yh W.heap.size) 1 1 [.string ((ByteArray.mk s.toArray).extract k (k+n)),J k] rfl rfl ?c1 ?c2 ?c3 ?c4 ?c5 ?_)
     case c0=>exact (aZ V b).alloc _
     case c1=>exact λj u O=>bC W _ 118 j u O
     case c2=>intro u D;simp at D;rcases D with rfl|rfl<;>rfl
     case c3=>unfold maxLen;omega
     case c4=>omega
     case c5=>simp;omega
     intro v' w2 a c _;have P:=I a;have R:=I c;clear a c;go_wp2;go_roundw
     case rel=>
      refine ⟨k+n,f,K++[((s.drop k).take n,k)],by omega,by omega,by go_num,?_,?_,by simp;omega,?_⟩
      .have h:=P.o;rw [aE,show k+n - k=n by omega] at h;rw [Im,b6];exact h
      .refine ((T.t (b.m l)).alloc (by omega) _).grown R.o (by simp;omega) (λq S=>?_);exact (fJ V q S).1
      .refine M.o.t ?_;rw [Z.o];simp
     case measure=>simp [intOf];omega
  .go_wp2;go_ret2;have o:bW f (s.drop k) k=([],none):=by
    rw [nY (by omega)];cases f<;>rfl
   have x:=M.o;rw [o] at x;simp at x;refine ⟨λp d=>?_,λ_=>?_,T⟩
   .rw [x] at d;simp at d
   .rw [x];exact ⟨_,rfl,V⟩
end
section
section
abbrev PT:=Int × Nat × By × Nat
def IW (l:List PT):List zV:=l.flatMap λt=>[J t.1,J (t.2.1:Int),Q t.2.2.1,J (t.2.2.2:Int)]
def aj {w:zW} {b:Nat} {cs:Array zV} {t:TypeId} {fr:Nat × Nat} (h:w.heap[b]?=A (zM cs t fr)) (j:Nat) (u:zV):(w.setCell (X b j) u).heap[b]?=A (zM (cs.setIfInBounds j u) t fr):=by
 simp [World.setCell,Array.getElem?_modify,h]
structure Kp (b:Nat) (w w':zW):Prop where
 bS:Below b w w'
 up:∀ q,b<q->q<w.heap.size->w'.heap[q]?=w.heap[q]?
def Kp.size {b:Nat} {w w':zW} (h:Kp b w w'):w.heap.size<=w'.heap.size:=h.bS.size
def Kp.heap {b:Nat} {w w':zW} (h:Kp b w w') {q:Nat} (c:q≠b) (hs:q<w.heap.size):w'.heap[q]?=w.heap[q]?:=by
 rcases cC q b with a|a
 .exact h.bS.block q a
 .exact h.up q (by omega) hs
def Kp.refl (b:Nat) (w:zW):Kp b w w:=⟨aM _ _,λ_ _ _=>rfl⟩
def Kp.t {b:Nat} {w w' a:zW} (h:Kp b w w') (g:Kp b w' a):Kp b w a:=
 ⟨h.bS.t g.bS,λq c C=>(g.up q c (bG C h.size)).t (h.up q c C)⟩
def Kp.next {b:Nat} {w w' a:zW} (h:Kp b w w') (g:zB w' a) (c:b<w'.heap.size):Kp b w a:=
 h.t ⟨g.m (by omega),λq _ C=>g.block q C⟩
def Kp.of {b:Nat} {w w':zW} (g:zB w w') (a:b<w.heap.size):Kp b w w':=(Kp.refl b w).next g a
def Kp.here {b:Nat} (w:zW) (j:Nat) (u:zV):Kp b w (w.setCell (X b j) u):=
 ⟨(aM b w).setCell (p:=X b j) (aG _) _,λq a _=>cY _ _ _ _ (by show q≠b;omega)⟩
def Kp.there {b:Nat} {w w':zW} (h:Kp b w w') (g j:Nat) (u:zV) (c:w.heap.size<=g) (d:b<w.heap.size):Kp b w (w'.setCell (X g j) u):=
 ⟨h.bS.setCell (p:=X g j) (by show b<=g;omega) _,λq a C=>(cY _ _ _ _ (by show q≠g;omega)).t (h.up q a C)⟩
def Kp.drew {b:Nat} {w w':zW} (h:Kp b w w'):Kp b w w'.drew:=⟨h.bS.drew,h.up⟩
def Kp.blk {b q:Nat} {w w':zW} {o:Obj} (h:Kp b w w') (a:w.heap[q]?=A o) (c:q≠b):w'.heap[q]?=A o:=
 (h.heap c (cz.1 a).1).t a
def bF {w:zW} {q:Nat} {cs:Array zV} {t:TypeId} (h:w.heap[q]?=A (zM cs t (0,0))) (o:Nat):w.frozen? (X q o)=false:=by
 simp [World.frozen?,h]
def aX {w:zW} {q:Nat} {v0 v1 v2 v3:zV} {t:TypeId} (h:w.heap[q]?=A (zM #[v0,v1,v2,v3] t (0,0))) :
  (w.cell? (yh q)=A v0/\w.cell? (X q 1)=A v1/\w.cell? (X q 2)=A v2/\w.cell? (X q 3)=A v3)/\(w.frozen? (yh q)=false/\w.frozen? (X q 1)=false/\w.frozen? (X q 2)=false/\w.frozen? (X q 3)=false)/\q<w.heap.size:=
 ⟨⟨(bq w q 0 _ _ _ h).t rfl,(bq w q 1 _ _ _ h).t rfl,(bq w q 2 _ _ _ h).t rfl,(bq w q 3 _ _ _ h).t rfl⟩,⟨bF h 0,bF h 1,bF h 2,bF h 3⟩,(cz.1 h).1⟩
def Aq {w:zW} {q:Nat} {v0:zV} {t:TypeId} (h:w.heap[q]?=A (zM #[v0] t (0,0))) :
  w.cell? (yh q)=A v0/\w.frozen? (yh q)=false/\q<w.heap.size:=
 ⟨(bq w q 0 _ _ _ h).t rfl,bF h 0,(cz.1 h).1⟩
structure cX (w:zW) (b bl cp:Nat) (Z:List PT) (i:Nat) (d e:Int):Prop where
 own:w.heap[b]?=A (zM #[B (A (X bl (i*4))) (G Z - i) (cp - i),J d,J e] 138 (0,0))
 blk:bl<b
 lt:i<G Z
 cap:G Z<=cp
 many:G Z<=200
 W7:∀ t,t∈Z->0<=t.1/\t.1<20
 left:∀ j (h:j<G Z),w.cell? (X bl (j*4))=A (J Z[j].1)/\w.cell? (X bl (j*4+1))=A (J (Z[j].2.1:Int))/\w.cell? (X bl (j*4+2))=A (Q Z[j].2.2.1)/\w.cell? (X bl (j*4+3))=A (J (Z[j].2.2.2:Int))
section
variable {w:zW} {b bl cp:Nat} {Z:List PT} {i:Nat} {d e:Int}
def cX.size (h:cX w b bl cp Z i d e):b<w.heap.size:=(cz.1 h.own).1
def cX.cell (h:cX w b bl cp Z i d e):w.cell? (yh b)=A (B (A (X bl (i*4))) (G Z - i) (cp - i))/\w.cell? (X b 1)=A (J d)/\w.cell? (X b 2)=A (J e)/\∀ j,w.frozen? (X b j)=false:=by
 have a:=h.own;refine ⟨?_,?_,?_,λj=>?_⟩
 .rw [bq w b 0 _ _ _ a];rfl
 .rw [bq w b 1 _ _ _ a];rfl
 .rw [bq w b 2 _ _ _ a];rfl
 .simp [World.frozen?,a]
def cX.next (h:cX w b bl cp Z i d e) {w':zW} (a:zB w w'):cX w' b bl cp Z i d e:=by
 have C:=h.size;refine ⟨(a.block b C).t h.own,h.blk,h.lt,h.cap,h.many,h.W7,λj f=>?_⟩;have c:bl<w.heap.size:=wF h.blk C;rw [a.cell c,a.cell c,a.cell c,a.cell c];exact h.left j f
def cX.apart (h:cX w b bl cp Z i d e) {w':zW} (g:w'.heap[b]?=w.heap[b]?) (c:w'.heap[bl]?=w.heap[bl]?):cX w' b bl cp Z i d e:=by
 refine ⟨g.t h.own,h.blk,h.lt,h.cap,h.many,h.W7,λj f=>?_⟩;have a:∀ o,w'.cell? (X bl o)=w.cell? (X bl o):=λo=>by simp only [World.cell?,c]
 rw [a,a,a,a];exact h.left j f
def cX.store (h:cX w b bl cp Z i d e) {g j:Nat} {u:zV} (a:g≠b) (c:g≠bl):cX (w.setCell (X g j) u) b bl cp Z i d e:=
 h.apart (cY _ _ _ _ (by show b≠g;omega)) (cY _ _ _ _ (by show bl≠g;omega))
def cX.drew (h:cX w b bl cp Z i d e):cX w.drew b bl cp Z i d e:=⟨h.own,h.blk,h.lt,h.cap,h.many,h.W7,h.left⟩
def cX.Ay (h:cX w b bl cp Z i d e) (d':Int):cX (w.setCell (X b 1) (J d')) b bl cp Z i d' e/\Kp b w (w.setCell (X b 1) (J d')):=by
 have C:=Kp.here (b:=b) w 1 (J d');refine ⟨⟨?_,h.blk,h.lt,h.cap,h.many,h.W7,λj D=>?_⟩,C⟩
 .rw [aj h.own];rfl
 .rw [C.bS.cell h.blk,C.bS.cell h.blk,C.bS.cell h.blk,C.bS.cell h.blk];exact h.left j D
def cX.ahg (h:cX w b bl cp Z i d e) (a:Int):cX (w.setCell (X b 2) (J a)) b bl cp Z i d a/\Kp b w (w.setCell (X b 2) (J a)):=by
 have C:=Kp.here (b:=b) w 2 (J a);refine ⟨⟨?_,h.blk,h.lt,h.cap,h.many,h.W7,λj D=>?_⟩,C⟩
 .rw [aj h.own];rfl
 .rw [C.bS.cell h.blk,C.bS.cell h.blk,C.bS.cell h.blk,C.bS.cell h.blk];exact h.left j D
def cX.step (h:cX w b bl cp Z i d e) (a:i+1<G Z):cX (w.setCell (yh b) (B (A (X bl (i*4+4))) (G Z - i - 1) (cp - i - 1))) b bl cp Z (i+1) d e/\Kp b w (w.setCell (yh b) (B (A (X bl (i*4+4))) (G Z - i - 1) (cp - i - 1))):=by
 have C:=Kp.here (b:=b) w 0 (B (A (X bl (i*4+4))) (G Z - i - 1) (cp - i - 1));refine ⟨⟨?_,h.blk,a,h.cap,h.many,h.W7,λj D=>?_⟩,C⟩
 .rw [aj h.own,show (i+1)*4=i*4+4 by omega,show (G Z) - (i+1)=G Z - i - 1 by omega,show cp - (i+1)=cp - i - 1 by omega];rfl
 .rw [C.bS.cell h.blk,C.bS.cell h.blk,C.bS.cell h.blk,C.bS.cell h.blk];exact h.left j D
end
def lx (w:zW) (g:Nat) (v0 v1 v2 v3:zV) {q:Nat} (h:q≠g):((((w.setCell (yh g) v0).setCell (X g 1) v1).setCell (X g 2) v2).setCell (X g 3) v3).heap[q]?=w.heap[q]?:=by
 rw [cY _ _ _ _ h,cY _ _ _ _ h,cY _ _ _ _ h,cY _ _ _ _ h]
def cX.ep {w:zW} {b bl cp:Nat} {Z:List PT} {i:Nat} {d e:Int} (h:cX w b bl cp Z i d e) (g:Nat) (v0 v1 v2 v3:zV) (a:b<g):cX ((((w.setCell (yh g) v0).setCell (X g 1) v1).setCell (X g 2) v2).setCell (X g 3) v3) b bl cp Z i d e:=
 h.apart (lx w g v0 v1 v2 v3 (by omega)) (lx w g v0 v1 v2 v3 (by have:=h.blk;omega))
def Kp.dF {b:Nat} {w w':zW} (h:Kp b w w') (g:Nat) (v0 v1 v2 v3:zV) (a:w.heap.size<=g) (c:b<w.heap.size):Kp b w ((((w'.setCell (yh g) v0).setCell (X g 1) v1).setCell (X g 2) v2).setCell (X g 3) v3):=
 (((h.there g 0 v0 a c).there g 1 v1 a c).there g 2 v2 a c).there g 3 v3 a c
def tC (w:zW) (a b:Obj) {q:Nat} (h:q<w.heap.size):((w.alloc a).alloc b).heap[q]?=w.heap[q]?:=by
 rw [cj _ _ _ (by simp;omega),cj _ _ _ h]
def aY (w:zW) (a b:Obj):zB w ((w.alloc a).alloc b):=(bZ _).alloc (by simp) _
def js (w:zW) (g:Nat) (v0 v1 v2 v3:zV):((((w.setCell (yh g) v0).setCell (X g 1) v1).setCell (X g 2) v2).setCell (X g 3) v3).heap.size=w.heap.size:=by simp
def ou (w:zW) (b bl cp:Nat) (Z:List PT) (i:Nat) (d e:Int) (h:cX w b bl cp Z i d e) :
  zC prog 127 #[zJ b] w λr C=>r=zP (J (Z[i]'h.lt).1)/\w=C:=by
 have c0:=h.cell.1;have c:=(h.left i h.lt).1;have a:=h.lt;have f:(0:Int)<((G Z - i:Nat):Int):=(by omega);generalize (Z[i]'h.lt).1=k at *;generalize (G Z) - i=n at *;clear h a;go_in;go_wp2;go_ret;exact ⟨rfl,rfl⟩
def Bn (w:zW) (b bl cp:Nat) (Z:List PT) (i:Nat) (d e k:Int) (h:cX w b bl cp Z i d e) (a:(Z[i]'h.lt).1=k) :
  zC prog 94 #[zJ b,J k] w λr C=>r=zP (zF true)/\w=C:=by
 have H:=I (ou w b bl cp Z i d e h);have c:=I a;have f:(k != k)=false:=(by simp);clear a;go_in;go_wp2_with (go_at_call 127;refine H.o.m ?_;rw [c.o];rintro e C ⟨rfl,rfl⟩);go_ret;exact ⟨rfl,rfl⟩
def P9 (w:zW) (b bl cp:Nat) (Z:List PT) (i:Nat) (d e k:Int) (h:cX w b bl cp Z i d e) (g:(Z[i]'h.lt).1≠k) :
  zC prog 94 #[zJ b,J k] w λr C=>r=zP (zF false)/\cX C b bl cp Z i d 3/\Kp b w C:=by
 have H:=I (ou w b bl cp Z i d e h);have j:=I (h.ahg 3);obtain ⟨_,_,c2,c⟩:=h.cell;have l:=c 2;clear c;generalize (Z[i]'h.lt).1=z at *;have a:(z == k)=false:=bo.2 g;have f:(z != k)=true:=by simp [bne,a]
 clear g h;go_in;go_wp2_with (go_at_call 127;refine H.o.m ?_;rintro e C ⟨rfl,rfl⟩);go_ret;exact ⟨rfl,j.o⟩
def ye (w:zW) (b bl cp:Nat) (Z:List PT) (i:Nat) (d e:Int) (h:cX w b bl cp Z i d e) (C:i+1<G Z) :
  zC prog 130 #[zJ b] w λr K=>r=zP (zd #[J (Z[i]'h.lt).1,J ((Z[i]'h.lt).2.1:Int),.string ⟨(Z[i]'h.lt).2.2.1.toArray⟩,J ((Z[i]'h.lt).2.2.2:Int)])/\cX K b bl cp Z (i+1) d e/\Kp b w K:=by
 obtain ⟨c0,_,_,s⟩:=h.cell;have t:=s 0;obtain ⟨D,F,E,H⟩:=h.left i h.lt;have c:=h.cap;have M:=h.size;have O:bl<w.heap.size:=wF h.blk M;have f:=I (λK (g:cX K b bl cp Z i d e)=>g.step C);have l:=I h;obtain ⟨n,q⟩:∃ n,G Z - i=n+2:=⟨G Z - i - 2,by omega⟩;obtain ⟨m,o⟩:∃ m,cp - i=m+2:=⟨cp - i - 2,by omega⟩;have y:n<=m:=(by omega);rw [q,o] at c0 f;have j:=h.many;have N:(0:Int)<(n:Int)+2:=(by omega);have z:(0:Int)<=(n:Int):=(by omega);have u:(n:Int)<=(m:Int):=(by omega);generalize (Z[i]'h.lt).1=k at *;generalize (Z[i]'h.lt).2.1=p at *;generalize (Z[i]'h.lt).2.2.1=x at *;generalize (Z[i]'h.lt).2.2.2=L at *;clear s h c q o;go_in;go_wp2;refine aK (v:=zd #[J k,J p,Q x,J L]) (by simp [results,results130,go_sem]) rfl ?_;have a:=((aM _ (w.setCell (yh b) (B (A (X bl (i*4+4))) (n+1) (m+1)))).alloc (aG _) (zM #[J k,J p,Q x,J L] 134)).alloc (by simp) (zM #[J k,J p,Q x,J L] 134);exact ⟨rfl,(f.o w l.o).1.next a,(f.o w l.o).2.next a (by simp;omega)⟩
def FI (w:zW) (b bl cp:Nat) (Z:List PT) (i:Nat) (d e k:Int) (h:cX w b bl cp Z i d e) (c:(Z[i]'h.lt).1=k) (j:i+1<G Z) :
  zC prog 188 #[zJ b,J k] w λr C=>r=zP (zF true)/\cX C b bl cp Z (i+1) d e/\Kp b w C:=by
 have H:=I (Bn w b bl cp Z i d e k h c);have f:=I (ye w b bl cp Z i d e h j);clear c;go_in;go_wp2_with (first|(go_at_call 94;refine H.o.m ?_;rintro e C ⟨rfl,rfl⟩)|(go_at_call 130;refine f.o.m ?_;rintro e C ⟨rfl,g,a⟩));go_ret;exact ⟨rfl,g,a⟩
def LB (w:zW) (b bl cp:Nat) (Z:List PT) (i:Nat) (d e k:Int) (h:cX w b bl cp Z i d e) (c:(Z[i]'h.lt).1≠k) :
  zC prog 188 #[zJ b,J k] w λr C=>r=zP (zF false)/\cX C b bl cp Z i d 3/\Kp b w C:=by
 have H:=I (P9 w b bl cp Z i d e k h c);clear c;go_in;go_wp2_with (go_at_call 94;refine H.o.m ?_;rintro e C ⟨rfl,f,a⟩);go_ret;exact ⟨rfl,f,a⟩
def FJ (w:zW) (b bl cp:Nat) (Z:List PT) (i:Nat) (e:Int) (h:cX w b bl cp Z i 6 e) :
  zC prog 158 #[zJ b] w λr C=>r=zP (zp #[zd #[J 0,J 0,Q [],J 0],zF false])/\cX C b bl cp Z i 6 4/\Kp b w C:=by
 have D:=h.size;have d:=I (h.ahg 4);obtain ⟨_,c2,c3,c⟩:=h.cell;have f:=c 2;clear c h;go_in;go_wp2;refine aK (v:=zp #[zd #[J 0,J 0,Q [],J 0],zF false]) (by simp [results,results158,go_sem]) rfl ?_;have a:=(aM _ (w.setCell (X b 2) (J 4))).alloc (aG _) (zM #[J 0,J 0,Q [],J 0] 134);exact ⟨rfl,d.o.1.next a,d.o.2.next a (by simp;omega)⟩
def DG (w:zW) (b bl cp:Nat) (Z:List PT) (i:Nat) (d:Nat) (e:Int) (h:cX w b bl cp Z i d e) (D:d<6) (C:i+1<G Z) :
  zC prog 158 #[zJ b] w λr F=>r=zP (zp #[zd #[J (Z[i]'h.lt).1,J ((Z[i]'h.lt).2.1:Int),.string ⟨(Z[i]'h.lt).2.2.1.toArray⟩,J ((Z[i]'h.lt).2.2.2:Int)],zF true])/\cX F b bl cp Z (i+1) ((d:Int)+1) e/\Kp b w F:=by
 have k:=I (h.Ay ((d:Int)+1));obtain ⟨_,c2,c3,n⟩:=h.cell;have y:=n 1;have E:=h.size;have m:=h.blk;have z:=I (λw1 (g:cX w1 b bl cp Z i ((d:Int)+1) e)=>ye w1 b bl cp Z i _ e g C);have x:((d:Int) == 6)=false:=bo.2 (by omega);have c:=h.lt;clear n;go_in;go_wp2_with (go_at_call 130;refine mo (z.o _ (k.o.1.next (bZ _))) ?_;rintro e F ⟨rfl,l,f⟩);have a:=f.blk (q:=w.heap.size) (by have:=bL (w.setCell (X b 1) (J ((d:Int)+1))) (zM #[J 0,J 0,Q [],J 0] 134);simpa using this) (by omega);obtain ⟨⟨o,p,s,K⟩,⟨f0,f1,f2,f3⟩,t⟩:=aX a;clear a;have H:=I f;have u:=I l;clear l f;apply I;go_wp2;refine aK (v:=zp #[zd #[J (Z[i]'c).1,J ((Z[i]'c).2.1:Int),.string ⟨(Z[i]'c).2.2.1.toArray⟩,J ((Z[i]'c).2.2.2:Int)],zF true]) (by simp [results,results158,go_sem,o,p,s,K]) rfl ?_;have j:Kp b w F:=(k.o.2.next (bZ _) (by simp;omega)).t H.o;exact ⟨rfl,(((u.o.store (by omega) (by omega)).store (by omega) (by omega)).store (by omega) (by omega)).store (by omega) (by omega),(((j.there _ _ _ (aG _) E).there _ _ _ (aG _) E).there _ _ _ (aG _) E).there _ _ _ (aG _) E⟩
end
end
section
attribute [local go_sem] ap aq
def kq:List By:=[[111,114],[97,110,100],[61],[60],[43],[45],[42],[47],[37]]
def tK:Option By->Bool|none=>false|some q=>zT q
def cM (a:Option By) (t:By):By:=
 if b5 t kq&&tK a then [32]++t++[32]
 else if t=[44]||t=[110,111,116] then t++[32]
 else dy t
def pq (K:List (By × Nat)) (k:Nat):Option By:=if k=0 then none else (K[k - 1]?).map (·.1)
def bV (K:List (By × Nat)):Nat->By
 | 0=>[]
 | k+1=>bV K k++cM (pq K k) ((K[k]?).map (·.1) |>.getD [])
def tv (t:By):(dy t).length<=G t:=by
 induction t with
 | nil=>simp [dy]
 | cons c r a=>
  cases r with
  | nil=>simp [dy]
  | cons d r=>
   unfold dy;split
   .simp only [gS] at a ⊢;omega
   .simp
def K5 (q:Option By) (t:By):(cM q t).length<=G t+2:=by
 have:=tv t;unfold cM;split
 .simp
 .split
  .simp
  .omega
def pW (f:Nat) (l:By) (k:Nat) (t:By) (p:Nat) (h:(t,p)∈(bW f l k).1):G t<=19:=by
 induction f generalizing l k with
 | zero=>simp [bW] at h
 | succ f b=>
  match l with
  | []=>simp [bW] at h
  | c::r=>
   unfold bW at h;split at h
   .exact b _ _ h
   .split at h
    .rename_i a;simp only [bQ,mI] at h;rcases h with ⟨rfl,rfl⟩|h
     .unfold di at a;split at a
      .simp only [qA,pG] at a;omega
      .split at a
       .simp only [pG] at a;omega
       .simp only [b5,iV,pF,bQ,jA,iK] at a;rcases a with h|h|h|h|h|h|h|h|h|h<;>rw [h]<;>simp
     .exact b _ _ h
    .simp at h
def pZ (K:List (By × Nat)) (h:∀ t p,(t,p)∈K->G t<=19) (k:Nat):(bV K k).length<=21*k:=by
 induction k with
 | zero=>simp [bV]
 | succ k e=>
  have c:=K5 (pq K k) ((K[k]?).map (·.1) |>.getD []);have d:((K[k]?).map (·.1) |>.getD []).length<=19:=by
   cases b:K[k]? with
   | none=>simp
   | some x=>
    obtain ⟨a,rfl⟩:=fI.1 b;exact h _ _ (bt a)
  unfold bV;rw [b6];omega
def x8 (K:List (By × Nat)) (k:Nat) (h:k<G K):bV K (k+1)=bV K k++cM (pq K k) K[k].1:=by
 conv=>lhs;unfold bV
 rw [cU h];rfl
def K6 (K:List (By × Nat)):pq K 0=none:=rfl
def Ap (K:List (By × Nat)) (k:Nat) (h:k+1<=G K):pq K (k+1)=A (K[k]'(by omega)).1:=by
 unfold pq;rw [aA (by omega)];simp [cU (show k<(G K) by omega)]
end
def w9 {w:zW} {base z n q j:Nat} {e:TypeId} {v u:zV} {C:List zV} (h:w.ownsRow base e z v n C) (f:v.ownBlock≠A q):(w.setCell (X q j) u).ownsRow base e z v n C:=by
 obtain ⟨c,d⟩:=h;refine ⟨c,d.imp id ?_⟩;rintro ⟨g,a,b,rfl,i,l,k⟩;exact ⟨g,a,b,rfl,i,(cY _ _ _ _ (by show g≠q;intro e;exact f (by rw [e];rfl))).t l,k⟩
def Ba (e:Nat) (d:Fn) (cs:Array zV) (w:zW) (D:Ending->zW->Prop) (g:w.cell? (X e 4)=A (zF false))
  (a:zC prog 100 #[zK (A (X e 1)),.func d #[] cs] w λr C=>r=zP (zp #[])/\D r C) :
  zC prog 99 #[zK (A (X e 1)),.func d #[] cs] w λr C=>r=zP (zp #[])/\D r C:=by
 have b:=I a;clear a;go_in;go_wp2_with (go_at_call 100;refine mo b.o ?_;rintro r E ⟨rfl,c⟩);have f:=I c;clear c b;apply I;go_wp2
 go_end0
 exact ⟨rfl,f.o⟩
def bM:Obj:=zM #[J 0,J 0,Q [],zN,J 0,J 0] 39 (0,0)
def Ik (er at_:Int) (tx:By) (bn:Option zD) (ln cn:Nat) (kd nn:Int):zV:=zd #[J er,J at_,Q tx,B bn ln cn,J kd,J nn]
def jx (e:Int) (b:Option zD) (ln cn:Nat) (k:Int) (nm:By) (n:Int) (c:Option zD) (d a:Nat):Obj:=zM #[J e,B b ln cn,J k,Q nm,J n,B c d a] 97 (0,0)
def Bd (M:Nat) (a:M<=6) (w:zW) :
  zC prog 45 #[J M] w λr C=>r=zP (zp #[zJ w.heap.size,J 0])/\C=w.alloc (zM #[zN,J M,zN,zN,zF false,zN] 108):=by
 have b:¬ (M:Int)<0:=(by omega);have c:¬ (6:Int)<(M:Int):=(by omega);clear a;go_in;go_wp2;go_ret2;exact ⟨rfl,rfl⟩
def j7 (e:Int) (b:Option zD) (ln cn:Nat) (k:Int) (nm:By) (n:Int) (c:Option zD) (d a:Nat):zV:=zd #[J e,B b ln cn,J k,Q nm,J n,B c d a]
section
attribute [local go_sem] ap aq
def R6 (w:zW) (b:Nat) (r:By):Prop:=
 ∃ (s:By) (k:Nat),w.heap[b]?=A (zM #[Q s,J k] 28 (0,0))/\k<=G s/\s.drop k=r/\G s<=9223372036854775807
structure lA (b:Nat) (w w':zW):Prop where
 below:Below b w w'
 other:∀ i,i<w.heap.size->i≠b->w'.heap[i]?=w.heap[i]?
def lA.refl (b:Nat) (w:zW):lA b w w:=⟨aM _ _,λ_ _ _=>rfl⟩
def lA.t {b:Nat} {w w' a:zW} (h:lA b w w') (k:lA b w' a):lA b w a:=
 ⟨h.below.t k.below,λi d c=>(k.other i (bG d h.below.size) c).t (h.other i d c)⟩
def lA.drewN {b:Nat} {w w':zW} (h:lA b w w') (n:Nat):lA b w (w'.drewN n):=
 h.t ⟨lG (aM _ _) n,λ_ _ _=>rfl⟩
def lA.cell {b:Nat} {w w':zW} (h:lA b w w') {p:zD} (a:p.block<w.heap.size) (c:p.block≠b):w'.cell? p=w.cell? p:=nu (w:=w) (h.other p.block a c)
def lA.lit {b:Nat} {w w':zW} {cs:Array zV} {T:TypeId} (h:lA b (w.alloc (zM cs T)) w') (a:b<w.heap.size) (j:Nat):w'.cell? (X w.heap.size j)=cs[j]?:=by
 rw [h.cell (p:=X w.heap.size j) (by simp) (by simp;omega),World.cell?_alloc_new]
def R6.size {w:zW} {b:Nat} {r:By} (h:R6 w b r):b<w.heap.size:=by
 obtain ⟨s,k,C,_⟩:=h;exact (cz.1 C).1
end
def lA.lt {b:Nat} {w w':zW} (h:lA b w w'):w.heap.size<=w'.heap.size:=h.below.size
def Lit (w:zW) (q:Nat) (cs:List zV):Prop:=q<w.heap.size/\∀ j,w.cell? (X q j)=cs[j]?
def Bm (l:List By) (k:Nat):By:=l.getD k []
section
attribute [local go_sem] ap aq
def wY (c:Int) (n:Nat):Nat:=(if c<0 then -(c+1) else c).toNat % n
def Ui (c:Int) (n:Nat) (h:0<n):wY c n<n:=Nat.mod_lt _ h
end
end Go.Proofs.YtihgojcfpnhelaaGreatDoor
