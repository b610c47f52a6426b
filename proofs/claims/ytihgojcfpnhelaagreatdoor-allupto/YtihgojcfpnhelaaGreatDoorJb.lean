import Derived.Test.YtihgojcfpnhelaaGreatDoorAa
set_option maxRecDepth 100000
set_option maxHeartbeats 4000000
set_option linter.all false
namespace Go.Proofs.YtihgojcfpnhelaaGreatDoor
open Go renaming World->zW,Value->zV,Calls->zC,Addr->zD
open Go.RowKit Go.Proofs.Tryz
open List renaming length→G
section
def bZ {w:zW} (o:Obj):Go.RowKit.Below w.heap.size w (w.alloc o):=(Go.RowKit.Below.refl _ _).alloc (aG _) o
open Go.RowKit Go.Proofs.Tryz
open List renaming length→G
section
abbrev By:=List UInt8
def dm (n:Int):Bool:=decide (48<=n/\n<=57)
def jK (n:Int):Bool:=decide (97<=n/\n<=122)
def AB (n:Int):Bool:=jK n||dm n
def cT (c:UInt8):Bool:=dm (c.toNat:Int)
def fF (c:UInt8):Bool:=jK (c.toNat:Int)
def iO (c:UInt8):Bool:=AB (c.toNat:Int)
def b5 (t:By) (l:List By):Bool:=l.contains t
def JM:List By:=[[105,102],[97,110,100],[111,114],[110,111,116],[116,114,117,101],[102,97,108,115,101]]
def iV:List By:=[[40],[41],[44],[43],[45],[42],[47],[37],[61],[60]]
def j6 (t:By):Bool:=match t with|[]=>false|c::_=>fF c
def headD (t:By):Bool:=match t with|[]=>false|c::_=>cT c
def bm (t:By):Bool:=j6 t&&!b5 t JM
def rowLen (l:By):Nat:=
 match l with
 | []=>0
 | c::r=>if fF c then 1+(r.takeWhile iO).length else if cT c then 1+(r.takeWhile cT).length else 1
def cR (r:By):Nat:=r.foldl (λn c=>10*n+(c.toNat - 48)) 0
def gP:Nat:=9223372036854775807
def di (r:By):Bool:=
 if headD r then decide (G r<=19)&&decide (cR r<=gP)
 else if j6 r then decide (G r<=6)
 else b5 r iV
def bW:Nat->By->Nat->List (By × Nat) × Option Nat
 | 0,_,_=>([],none)
 | _+1,[],_=>([],none)
 | f+1,c::r,at_=>
  if c=32 then bW f r (at_+1)
  else if di ((c::r).take (rowLen (c::r))) then
   (((c::r).take (rowLen (c::r)),at_)::(bW f ((c::r).drop (rowLen (c::r))) (at_+rowLen (c::r))).1,
    (bW f ((c::r).drop (rowLen (c::r))) (at_+rowLen (c::r))).2)
  else ([],some at_)
def aI (s:By):List (By × Nat) × Option Nat:=bW (G s) s 0
def dy:By->By
 | []=>[]
 | [c]=>[c]
 | c::d::r=>if c=48&&cT d then dy (d::r) else c::d::r
def dX:List (By × Int):=
 [([105,102],3),([97,110,100],4),([111,114],5),([110,111,116],6),([116,114,117,101],7),([102,97,108,115,101],8),
  ([40],9),([41],10),([44],11),([43],12),([45],13),([42],15),([47],16),([37],17),([61],18),([60],19)]
def iA:List (By × Int)->By->Option Int
 | [],_=>none
 | (x,k)::r,t=>if x=t then some k else iA r t
def fH (t:By):Option Int:=iA dX t
def fU (t:By):Int:=if headD t then 1 else (fH t).getD 2
def eh (t:By):By:=if headD t then dy t else if (fH t).isSome then [] else t
def aH (k:UInt8) (o:Nat):By:=[63,k,48+UInt8.ofNat o]
def iF:By:=[78,79,78,69]
def fj:By:=[63,33]
def jX:By:=[63,40]
def cE:By:=[78,65,77,69]
def eT (t:By) (k:UInt8) (o:Nat):List By:=if 6<=o then [fj] else [t,aH k (o+1)]
def gz (t:By) (b:List By) (part:UInt8) (a:Option UInt8) (o:Nat):List By:=
 if b5 t b then (match a with|none=>[t,aH part o]|some g=>[t,aH part o,aH g o]) else []
def ey (t:By) (o:Nat):List By:=
 if t=[] then [iF]
 else if headD t||t=[116,114,117,101]||t=[102,97,108,115,101]||bm t then [t]
 else if t=[45] then eT t 65 o
 else if t=[40] then eT t 82 o++[[41]]
 else if t=[105,102]&&decide (6<=o) then [[105,102],jX]
 else if t=[105,102] then [[105,102],[40],aH 82 (o+1),[44],aH 82 (o+1),[44],aH 82 (o+1),[41]]
 else [iF]
def ku (k:UInt8) (o:Nat) (t:By):List By:=
 if k=82 then [aH 80 o,aH 114 o]
 else if k=114 then gz t [[111,114]] 80 (some 114) o
 else if k=80 then [aH 84 o,aH 112 o]
 else if k=112 then gz t [[97,110,100]] 84 (some 112) o
 else if k=84 then (if t=[110,111,116] then eT t 84 o else [aH 83 o,aH 99 o])
 else if k=99 then gz t [[61],[60]] 83 none o
 else if k=83 then [aH 77 o,aH 115 o]
 else if k=115 then gz t [[43],[45]] 77 (some 115) o
 else if k=77 then [aH 65 o,aH 109 o]
 else if k=109 then gz t [[42],[47],[37]] 65 (some 109) o
 else ey t o
def dT (s t:By):Option (List By):=
 match s with
 | [63,k,c]=>some (ku k (c.toNat - 48) t)
 | [63,40]=>some (if t=[40] then [fj] else [iF])
 | _=>none
def cF (len:Nat):Nat->List By->List (By × Nat)->Option (Int × Nat)
 | 0,_,_=>none
 | _+1,[],ts=>match ts with|[]=>some (0,0)|(_,p)::_=>some (3,p)
 | n+1,s::K,ts=>
  let t:By:=match ts with|[]=>[]|(t,_)::_=>t
  let p:Nat:=match ts with|[]=>len|(_,p)::_=>p
  if s=fj then some (4,p)
  else match dT s t with
   | some m=>cF len n (m++K) ts
   | none=>if (if s=cE then bm t else decide (t≠[])&&decide (s=t)) then cF len n K ts.tail else some (3,p)
end
end
def I {p:Prop} (h:p):Hid p:=h
def mo {P f a w Q} {b:Go.Ending->Go.World->Prop} (h:zC P f a w Q) (k:∀ r w',Q r w'->Hid (b r w')):zC P f a w b:=h.m λr w' x=>(k r w' x).o
def jJ (n:Int) (w:zW) :
  zC prog 87 #[.int .u8 n] w λe w'=>e=.returned (.bool (dm n))/\w=w':=by
 have a:dm n=(decide (48<=n)&&decide (n<=57)):=by simp [dm]
 rw [a];clear a;by_cases h:48<=n
 ·exact VW
 ·exact FW
def bR (n:Int) (w:zW) :
  zC prog 109 #[.int .u8 n] w λe w'=>e=.returned (.bool (dm n))/\w=w':=by
 have a:dm n=(decide (48<=n)&&decide (n<=57)):=by simp [dm]
 rw [a];clear a;by_cases h:48<=n
 ·exact VW
 ·exact FW
def lB (n:Int) (w:zW) :
  zC prog 88 #[.int .u8 n] w λe w'=>e=.returned (.bool (jK n))/\w=w':=by
 have a:jK n=(decide (97<=n)&&decide (n<=122)):=by simp [jK]
 rw [a];clear a;by_cases h:97<=n
 ·exact VX
 ·exact FW
def iI (n:Int) (w:zW) :
  zC prog 110 #[.int .u8 n] w λe w'=>e=.returned (.bool (jK n))/\w=w':=by
 have a:jK n=(decide (97<=n)&&decide (n<=122)):=by simp [jK]
 rw [a];clear a;by_cases h:97<=n
 ·exact VX
 ·exact FW
def FX (n:Int) (w:zW) :
  zC prog 89 #[.int .u8 n] w λe w'=>e=.returned (.bool (AB n))/\w=w':=by
 have a:AB n=(jK n||dm n):=rfl;rw [a];clear a;cases b:jK n
 all_goals
  go_in;go_wp2_with (first|(go_at_call 88;refine (lB _ _).m ?_;rintro e w' ⟨rfl,rfl⟩)|(go_at_call 87;refine (jJ _ _).m ?_;rintro e w' ⟨rfl,rfl⟩));go_ret;exact ⟨aq,rfl⟩
def xz (t:By) (l:List By) (a:zD) (c:Nat) (w:zW) (u:(G l)<=100)
  (r:∀ j (h:j<G l),w.cell? (a.add j)=some (.string ⟨(l[j]).toArray⟩)) :
  zC prog 77 #[zG t,.slice (some a) (G l) c] w λe w'=>e=.returned (.bool (b5 t l))/\w=w':=by
 go_in;go_wp2
 go_loop [5] (λi=>∃ k:Nat,k<=G l/\i=zI k/\∀ j (h:j<G l),j<k->l[j]≠t) (λi=>G l - (intOf i).toNat)
 case atStart=>exact Mg
 case round=>
  obtain ⟨k,v,rfl,o⟩:=hrel;have n:=I o;clear o;by_cases d:k<G l
  ·have s:=r k d;by_cases he:l[k]=t
   ·have g:b5 t l=true:=by
     simp only [b5,pF];exact he▸bt d
    have f:(l[k] == t)=true:=rh;clear he;exact FY
   ·have f:(l[k] == t)=false:=rh;have q:=I he;clear he;go_wp2
    go_round
    case rel=>
     refine ⟨k+1,ae,ez,λj h p=>?_⟩;rcases cC j k with m|m
     ·exact n.o j h m
     ·obtain rfl:j=k:=ae;exact q.o
    case measure=>simp [intOf];omega
  ·have g:b5 t l=false:=by
    simp only [b5];rw [Bool.eq_false_iff];intro b;rw [pF] at b;obtain ⟨j,p,rfl⟩:=e9 b;exact n.o j p ae rfl
   exact FY
section
def idx_eq (l:By) (i:Nat) (h:i<(ByteArray.mk l.toArray).size):(ByteArray.mk l.toArray)[i]'h=l[i]'(by simpa [ByteArray.size] using h):=by
 simp [ByteArray.getElem_eq_getElem_data]
attribute [local go_sem] idx_eq
def fh (w:zW) (l:List By) (T:TypeId) (j:Nat) (h:j<G l) :
  (w.alloc (.cells (l.map λx=>Value.string ⟨x.toArray⟩).toArray T)).cell? ((⟨w.heap.size,0,none⟩:zD).add j)=some (.string ⟨(l[j]).toArray⟩):=by
 rw [show (⟨w.heap.size,0,none⟩:zD).add j=⟨w.heap.size,j,none⟩ from aae,World.cell?_alloc_new];simp [h]
def dD (t:By) (w:zW) :
  zC prog 76 #[zG t] w λe w'=>e=.returned (.bool (bm t))/\zB w w':=by
 match t with
 | []=>
  go_in;go_wp2;go_ret;exact ⟨rfl,aM _ _⟩
 | c::r=>
  have d:bm (c::r)=(fF c&&!b5 (c::r) JM):=rfl;rw [d];clear d;by_cases a:fF c=true
  ·have b:jK (c.toNat:Int)=true:=a;go_in;go_wp2_with (first|(go_at_call 110;refine (iI _ _).m ?_;rintro e w' ⟨rfl,rfl⟩)|(go_at_call 77;refine (xz (c::r) JM ⟨w.heap.size,0,none⟩ 6 _ ai (λj h=>fh w JM 9 j h)).m ?_;rintro e w' ⟨rfl,rfl⟩));go_ret;exact ⟨by simp [a],(aM _ _).alloc (aG _) _⟩
  ·have b:jK (c.toNat:Int)=false:=by simpa [fF] using a
   go_in;go_wp2_with (go_at_call 110;refine (iI _ _).m ?_;rintro e w' ⟨rfl,rfl⟩);go_ret;exact ⟨by simp [a],aM _ _⟩
def zT (t:By):Bool:=bm t||decide (t=[41])||decide (t=[116,114,117,101])||decide (t=[102,97,108,115,101])||headD t
def EC (t:By) (w:zW) (n:t≠[]) :
  zC prog 78 #[zG t] w λe w'=>e=.returned (.bool (zT t))/\zB w w':=by
 match t,n with
 | c::r,_=>
  have l:zT (c::r)=(bm (c::r)||decide (c::r=[41])||decide (c::r=[116,114,117,101])||decide (c::r=[102,97,108,115,101])||cT c):=rfl;have k:=I l;clear l;by_cases hn:bm (c::r)=true
  ·go_in;go_wp2_with (go_at_call 76;refine (dD _ _).m ?_;rintro e w' ⟨rfl,b⟩);go_ret;exact ⟨by rw [k.o,hn];simp,kM⟩
  ·have a:bm (c::r)=false:=Oo;have g:decide ((c::r:By)=[41])=((c::r:By) == [41]):=NQ;have d:decide ((c::r:By)=[116,114,117,101])=((c::r:By) == [116,114,117,101]):=NQ;have f:decide ((c::r:By)=[102,97,108,115,101])=((c::r:By) == [102,97,108,115,101]):=NQ;have i:=I (k.o.t (by rw [g,d,f]:_=(bm (c::r)||((c::r:By) == [41])||((c::r:By) == [116,114,117,101])||((c::r:By) == [102,97,108,115,101])||cT c)));clear k g d f hn;cases h:((c::r:By) == [41])
   ·cases j:((c::r:By) == [116,114,117,101])
    ·cases m:((c::r:By) == [102,97,108,115,101])
     ·go_in;go_wp2_with (first|(go_at_call 76;refine (dD _ _).m ?_;rintro e w' ⟨rfl,b⟩)|(go_at_call 109;refine (bR (c.toNat:Int) _).m ?_;rintro e w' ⟨rfl,rfl⟩));go_ret;exact ⟨by rw [i.o,a,h,j,m];rfl,kM⟩
     ·go_in;go_wp2_with (go_at_call 76;refine (dD _ _).m ?_;rintro e w' ⟨rfl,b⟩);go_ret;exact ⟨by rw [i.o,a,h,j,m];rfl,kM⟩
    ·go_in;go_wp2_with (go_at_call 76;refine (dD _ _).m ?_;rintro e w' ⟨rfl,b⟩);go_ret;exact ⟨by rw [i.o,a,h,j];rfl,kM⟩
   ·go_in;go_wp2_with (go_at_call 76;refine (dD _ _).m ?_;rintro e w' ⟨rfl,b⟩);go_ret;exact ⟨by rw [i.o,a,h];rfl,kM⟩
def ext_eq (l:By) (a b:Nat):(ByteArray.mk l.toArray).extract a b=⟨((l.drop a).take (b - a)).toArray⟩:=by
 apply ByteArray.ext;rw [ByteArray.data_extract];apply yv.1;simp [List.extract_eq_take_drop]
def app_eq (a b:By):ByteArray.mk a.toArray++ByteArray.mk b.toArray=⟨(a++b).toArray⟩:=by
 apply ByteArray.ext;simp
def lenOf:zV->Nat|.string s=>s.size|_=>0
def Jm (t:By) (w:zW) (i:(G t)<=1000) :
  zC prog 79 #[zG t] w λe w'=>e=.returned (.string ⟨(dy t).toArray⟩)/\w=w':=by
 go_in;go_wp2
 go_loop [0] (λv=>∃ u:By,G u<=1000/\v=zG u/\dy u=dy t) (λv=>lenOf v)
 case atStart=>exact ⟨t,i,rfl,rfl⟩
 case round=>
  obtain ⟨u,f,rfl,hs⟩:=hrel;have HS:=I hs;clear hs
  match u,HS,f with
  | [],HS,_=>
   exact Zl
  | [c],HS,_=>
   exact Zl
  | c::d::r,HS,f=>
   have a:dy (c::d::r)=if c=48&&cT d then dy (d::r) else c::d::r:=rfl
   simp only [gS] at f;by_cases hc:c=48
   ·by_cases b:cT d=true
    ·have g:dm (d.toNat:Int)=true:=b;subst hc;go_wp2_with (go_at_call 109;refine (bR (d.toNat:Int) _).m ?_;rintro e w' ⟨rfl,rfl⟩)
     go_round
     case rel=>
      refine ⟨d::r,aN,by rw [ext_eq];simp,?_⟩;rw [<- HS.o];simp [dy,b]
     case measure=>
      rw [ext_eq];show (List.take _ (d::r)).toArray.size<(48::d::r).toArray.size;simp
    ·have g:dm (d.toNat:Int)=false:=by simpa [cT] using b
     subst hc;clear a;go_wp2_with (go_at_call 109;refine (bR (d.toNat:Int) _).m ?_;rintro e w' ⟨rfl,rfl⟩);go_ret;exact ⟨by rw [<- HS.o];simp [dy,b],rfl⟩
   ·have j:((c.toNat:Int) == 48)=false:=Yf;clear a;go_wp2;go_ret;exact ⟨by rw [<- HS.o];simp [dy,hc],rfl⟩
end
section
attribute [local go_sem] idx_eq
def pN (p:UInt8->Bool) (r:By) (m:Nat) (hm:m<=G r) (b:∀ j (h:j<G r),j<m->p r[j]=true)
  (d:m=G r\/∃ h:m<G r,p (r[m]'h)=false):(r.takeWhile p).length=m:=by
 induction r generalizing m with
 | nil=>simp at hm;simp [hm]
 | cons c r f=>
  cases m with
  | zero=>
   rcases d with h|⟨h,a⟩
   ·simp at h
   ·simp at a;simp [a]
  | succ m=>
   have e:p c=true:=b 0 aq ae;simp [e];apply f m Oy
   ·intro j h g;exact b (j+1) jP ae
   ·rcases d with h|⟨h,a⟩
    ·left;simpa using h
    ·right;exact ⟨jP,by simpa using a⟩
def EO {c:UInt8} {r:By} (h:fF c=true):rowLen (c::r)=1+(r.takeWhile iO).length:=by simp [rowLen,h]
def yT {c:UInt8} {r:By} (h:fF c=false) (a:cT c=true):rowLen (c::r)=1+(r.takeWhile cT).length:=by simp [rowLen,h,a]
def EP {c:UInt8} {r:By} (h:fF c=false) (a:cT c=false):rowLen (c::r)=1:=by simp [rowLen,h,a]
def Ac (c:UInt8) (r:By) (w:zW) (p:(G r)<=1000) :
  zC prog 59 #[.string ⟨(c::r).toArray⟩] w λe w'=>e=.returned (.string ⟨((c::r).take (rowLen (c::r))).toArray⟩)/\w=w':=by
 cases f:fF c
 ·have m:jK (c.toNat:Int)=false:=f;cases n:cT c
  ·have g:dm (c.toNat:Int)=false:=n;have HR:=I (EP (r:=r) f n);go_in;go_wp2_with (first|(go_at_call 88;refine (lB (c.toNat:Int) _).m ?_;rintro e w' ⟨rfl,rfl⟩)|(go_at_call 87;refine (jJ (c.toNat:Int) _).m ?_;rintro e w' ⟨rfl,rfl⟩));go_ret;exact ⟨by rw [HR.o,ext_eq];rfl,rfl⟩
  ·have g:dm (c.toNat:Int)=true:=n;have HR:=I (yT (r:=r) f n);go_in;go_wp2_with (first|(go_at_call 88;refine (lB (c.toNat:Int) _).m ?_;rintro e w' ⟨rfl,rfl⟩)|(go_at_call 87;refine (jJ (c.toNat:Int) _).m ?_;rintro e w' ⟨rfl,rfl⟩))
   go_loop [4] (λi=>∃ k:Nat,k<=G r/\i=zI ((k:Int)+1)/\∀ j (h:j<G r),j<k->cT r[j]=true) (λi=>G r+1 - (intOf i).toNat)
   case atStart=>exact Mg
   case round=>
    obtain ⟨k,o,rfl,l⟩:=hrel;have HN:=I l;clear l;by_cases b:k<G r
    ·cases a:cT r[k]
     ·have d:dm (r[k].toNat:Int)=false:=a;have HT:=I (pN cT r k ae HN.o (Or.inr ⟨b,a⟩));go_wp2_with (go_at_call 87;refine (jJ (r[k].toNat:Int) _).m ?_;rintro e w' ⟨rfl,rfl⟩);go_ret;exact ⟨Rk,rfl⟩
     ·have d:dm (r[k].toNat:Int)=true:=a;have HD:=I a;clear a;go_wp2_with (go_at_call 87;refine (jJ (r[k].toNat:Int) _).m ?_;rintro e w' ⟨rfl,rfl⟩)
      go_round
      case rel=>
       exact Xr
      case measure=>simp [intOf];omega
    ·have HT:=I (pN cT r k ae HN.o (Or.inl ae));go_wp2;go_ret;exact ⟨Rk,rfl⟩
 ·have m:jK (c.toNat:Int)=true:=f
  ·have g:AB (c.toNat:Int)=true:=by simp [AB,m]
   have HR:=I (EO (r:=r) f);go_in;go_wp2_with (first|(go_at_call 88;refine (lB (c.toNat:Int) _).m ?_;rintro e w' ⟨rfl,rfl⟩)|(go_at_call 89;refine (FX (c.toNat:Int) _).m ?_;rintro e w' ⟨rfl,rfl⟩))
   go_loop [4] (λi=>∃ k:Nat,k<=G r/\i=zI ((k:Int)+1)/\∀ j (h:j<G r),j<k->iO r[j]=true) (λi=>G r+1 - (intOf i).toNat)
   case atStart=>exact Mg
   case round=>
    obtain ⟨k,o,rfl,l⟩:=hrel;have HN:=I l;clear l;by_cases b:k<G r
    ·cases a:iO r[k]
     ·have d:AB (r[k].toNat:Int)=false:=a;have HT:=I (pN iO r k ae HN.o (Or.inr ⟨b,a⟩));go_wp2_with (go_at_call 89;refine (FX (r[k].toNat:Int) _).m ?_;rintro e w' ⟨rfl,rfl⟩);go_ret;exact ⟨Rk,rfl⟩
     ·have d:AB (r[k].toNat:Int)=true:=a;have HD:=I a;clear a;go_wp2_with (go_at_call 89;refine (FX (r[k].toNat:Int) _).m ?_;rintro e w' ⟨rfl,rfl⟩)
      go_round
      case rel=>
       exact Xr
      case measure=>simp [intOf];omega
    ·have HT:=I (pN iO r k ae HN.o (Or.inl ae));go_wp2;go_ret;exact ⟨Rk,rfl⟩
end
section
attribute [local go_sem] idx_eq app_eq ext_eq
def Cr (t:By) (x:UInt8):cR (t++[x])=10*cR t+(x.toNat - 48):=by simp [cR]
def gq {x:UInt8} (h:cT x=true):48<=x.toNat/\x.toNat<=57:=by
 simp [cT,dm] at h;omega
def Um (t:By) (n:Nat) (h:∀ j (hj:j<G t),cT t[j]=true):t.foldl (λn c=>10*n+(c.toNat - 48)) n<(n+1)*10 ^ (G t):=by
 induction t generalizing n with
 | nil=>simp
 | cons x t b=>
  have a:=b (10*n+(x.toNat - 48)) λj hj=>by
   have:=h (j+1) oT;simpa using this
  have d:=gq (x:=x) (h 0 aq);rw [wC,gS,Nat.pow_succ];refine bG a ?_;rw [show (n+1)*(10 ^ (G t)*10)=(10*n+10)*10 ^ (G t) by rw [Nat.mul_comm (10 ^ (G t)) 10,<- Nat.mul_assoc];congr 1;omega];exact Nat.mul_le_mul_right _ ae
def abV (t:By) (h:∀ j (a:j<G t),cT t[j]=true):cR t<10 ^ (G t):=by
 have:=Um t 0 h;simpa [cR] using this
def Mt (l:By) (a m:Nat) (e:m<=18) (g:a+m<=G l) (h:∀ i (k:a+i<G l),i<m->cT l[a+i]=true):cR ((l.drop a).take m)<=999999999999999999:=by
 have c:=abV ((l.drop a).take m) λj hj=>by
  have b:j<m:=G0;have:=h j ae b;simpa using this
 have d:((l.drop a).take m).length=m:=aN;rw [d] at c;have n:10 ^ m<=10 ^ 18:=Nat.pow_le_pow_right ae e;have f:(10:Nat) ^ 18=1000000000000000000:=Rl;omega
def ia (l:By) (a:Nat):Int:=if di ((l.drop a).take (rowLen (l.drop a))) then ((a+rowLen (l.drop a):Nat):Int) else -1
def JJ (l:By) (a m:Nat) (h:a+m<G l):(l.drop a).take (m+1)=(l.drop a).take m++[l[a+m]]:=by
 rw [vJ aN];simp
def Un (l:By) (a j:Nat) (h:a<G l) (hD:cT l[a]=true) (f:fF l[a]=false) (hj:((l.drop (a+1)).takeWhile cT).length=j) :
  ia l a=if 19<j+1 then -1 else if 9223372036854775807<(cR ((l.drop a).take (j+1)):Int) then -1 else ((a+1+j:Nat):Int):=by
 have hc:l.drop a=l[a]::l.drop (a+1):=jL h;have i:rowLen (l.drop a)=1+j:=by rw [hc,yT f hD,hj]
 have c:j<=(l.drop (a+1)).length:=ZI;simp at c;unfold ia di;rw [i,mP 1 j];have g:headD ((l.drop a).take (j+1))=true:=aag;rw [aB g];have b:((l.drop a).take (j+1)).length=j+1:=aN;rw [b];unfold gP;by_cases d:19<j+1
 ·rw [aB d,aA aN]
 ·rw [aA d];by_cases e:9223372036854775807<(cR ((l.drop a).take (j+1)):Int)
  ·rw [aB e,aA aN]
  ·rw [aA e,aB aN];omega
def abW (l:By) (a:Nat) (w:zW) (s:a<G l) (t:(G l)<=1000) (d:cT l[a]=true) (q:fF l[a]=false) :
  zC prog 74 #[zG l,zI a] w λe w'=>e=.returned (zI (ia l a))/\w=w':=by
 have p:dm (l[a].toNat:Int)=true:=d;have k:=I (λj=>Un l a j s d q);have HD:=I d;clear d;go_in;go_wp2_with (go_at_call 109;refine (bR (l[a].toNat:Int) _).m ?_;rintro e w' ⟨rfl,rfl⟩)
 go_loop [5] (λv=>∃ j:Nat,a+1+j<=G l/\v=zI ((a:Int)+1+j)/\∀ i (h:a+1+i<G l),i<j->cT l[a+1+i]=true) (λv=>G l - (intOf v).toNat)
 case atStart=>exact ⟨0,ae,aq,λ_ _ h=>ae⟩
 case round=>
  obtain ⟨j,u,rfl,o⟩:=hrel;have HN:=I o;clear o;by_cases r:a+1+j<G l
  ·cases c:cT l[a+1+j]
   ·have g:dm (l[a+1+j].toNat:Int)=false:=c;have f:=I (pN cT (l.drop (a+1)) j aN (λi hi Zo=>Rf) (Or.inr ⟨aN,by simpa using c⟩));have HJ:=I (k.o j f.o);by_cases b:19<j+1<;>have ZE:=I b
    ·go_wp2_with (go_at_call 109;refine (bR (l[a+1+j].toNat:Int) _).m ?_;rintro e w' ⟨rfl,rfl⟩);go_ret;exact ⟨by rw [HJ.o,aB ZE.o];rfl,rfl⟩
    ·go_wp2_with (go_at_call 109;refine (bR (l[a+1+j].toNat:Int) _).m ?_;rintro e w' ⟨rfl,rfl⟩)
     go_loop [6,7] (λn i=>∃ m:Nat,m<=j+1/\i=zI ((a:Int)+m)/\n=.int .u64 (cR ((l.drop a).take m):Int)) (λ_ i=>a+j+1 - (intOf i).toNat)
     case atStart=>exact ⟨0,ae,aq,rfl⟩
     case round=>
      exact Wo
   ·have g:dm (l[a+1+j].toNat:Int)=true:=c;have HE:=I c;clear c;go_wp2_with (go_at_call 109;refine (bR (l[a+1+j].toNat:Int) _).m ?_;rintro e w' ⟨rfl,rfl⟩)
    go_round
    case rel=>
     exact Mw
    case measure=>simp [intOf];omega
  ·have f:=I (pN cT (l.drop (a+1)) j aN (λi hi Zo=>Rf) (Or.inl aN));have HJ:=I (k.o j f.o);by_cases b:19<j+1<;>have ZE:=I b
   ·go_wp2;go_ret;exact ⟨by rw [HJ.o,aB ZE.o];rfl,rfl⟩
   ·go_wp2
    go_loop [6,7] (λn i=>∃ m:Nat,m<=j+1/\i=zI ((a:Int)+m)/\n=.int .u64 (cR ((l.drop a).take m):Int)) (λ_ i=>a+j+1 - (intOf i).toNat)
    case atStart=>exact ⟨0,ae,aq,rfl⟩
    case round=>
     exact Wo
def Uu (l:By) (a j:Nat) (h:a<G l) (hD:cT l[a]=false) (f:fF l[a]=true) (hj:((l.drop (a+1)).takeWhile iO).length=j) :
  ia l a=if 6<j+1 then -1 else ((a+1+j:Nat):Int):=by
 have hc:l.drop a=l[a]::l.drop (a+1):=jL h;have i:rowLen (l.drop a)=1+j:=by rw [hc,EO f,hj]
 have d:j<=(l.drop (a+1)).length:=ZI;simp at d;unfold ia di;rw [i,mP 1 j];have g:headD ((l.drop a).take (j+1))=false:=aag;have c:j6 ((l.drop a).take (j+1))=true:=by rw [hc,yn];exact f
 rw [g,c];have b:((l.drop a).take (j+1)).length=j+1:=aN;rw [b];by_cases e:6<j+1
 ·rw [aB e];simp;omega
 ·rw [aA e];simp;omega
def Uv (l:By) (a:Nat) (h:a<G l) (e:cT l[a]=false) (c:fF l[a]=false) :
  ia l a=if b5 [l[a]] iV then ((a+1:Nat):Int) else -1:=by
 have d:l.drop a=l[a]::l.drop (a+1):=jL h;have g:rowLen (l.drop a)=1:=by rw [d,EP c e]
 unfold ia di;rw [g,d];simp only [yn,List.take_zero];have f:headD [l[a]]=false:=e;have b:j6 [l[a]]=false:=c;simp [f,b]
def abY (l:By) (a:Nat) (w:zW) (s:a<G l) (t:(G l)<=1000) (f:cT l[a]=false) (d:fF l[a]=true) :
  zC prog 74 #[zG l,zI a] w λe w'=>e=.returned (zI (ia l a))/\w=w':=by
 have q:dm (l[a].toNat:Int)=false:=f;have p:jK (l[a].toNat:Int)=true:=d;have k:=I (λj=>Uu l a j s f d);clear f d;go_in;go_wp2_with (first|(go_at_call 109;refine (bR (l[a].toNat:Int) _).m ?_;rintro e w' ⟨rfl,rfl⟩)|(go_at_call 110;refine (iI (l[a].toNat:Int) _).m ?_;rintro e w' ⟨rfl,rfl⟩))
 go_loop [5] (λv=>∃ j:Nat,a+1+j<=G l/\v=zI ((a:Int)+1+j)/\∀ i (h:a+1+i<G l),i<j->iO l[a+1+i]=true) (λv=>G l - (intOf v).toNat)
 case atStart=>exact ⟨0,ae,aq,λ_ _ h=>ae⟩
 case round=>
  obtain ⟨j,u,rfl,o⟩:=hrel;have HN:=I o;clear o;by_cases r:a+1+j<G l
  ·cases m:jK (l[a+1+j].toNat:Int)
   ·cases n:dm (l[a+1+j].toNat:Int)
    ·have b:iO l[a+1+j]=false:=by simp [iO,AB,m,n]
     have c:=I (pN iO (l.drop (a+1)) j aN (λi hi Zo=>Rf) (Or.inr ⟨aN,by simpa using b⟩));clear b;have HJ:=I (k.o j c.o);by_cases g:6<j+1<;>have H6:=I g
     ·go_wp2_with (first|(go_at_call 110;refine (iI (l[a+1+j].toNat:Int) _).m ?_;rintro e w' ⟨rfl,rfl⟩)|(go_at_call 109;refine (bR (l[a+1+j].toNat:Int) _).m ?_;rintro e w' ⟨rfl,rfl⟩));go_ret;exact ⟨by rw [HJ.o,aB H6.o];rfl,rfl⟩
     ·go_wp2_with (first|(go_at_call 110;refine (iI (l[a+1+j].toNat:Int) _).m ?_;rintro e w' ⟨rfl,rfl⟩)|(go_at_call 109;refine (bR (l[a+1+j].toNat:Int) _).m ?_;rintro e w' ⟨rfl,rfl⟩));go_ret;exact ⟨ZU,rfl⟩
    ·have b:iO l[a+1+j]=true:=by simp [iO,AB,n]
     have HE:=I b;clear b;go_wp2_with (first|(go_at_call 110;refine (iI (l[a+1+j].toNat:Int) _).m ?_;rintro e w' ⟨rfl,rfl⟩)|(go_at_call 109;refine (bR (l[a+1+j].toNat:Int) _).m ?_;rintro e w' ⟨rfl,rfl⟩))
     go_round
     case rel=>
      exact Mw
     case measure=>simp [intOf];omega
   ·have b:iO l[a+1+j]=true:=by simp [iO,AB,m]
    have HE:=I b;clear b;go_wp2_with (go_at_call 110;refine (iI (l[a+1+j].toNat:Int) _).m ?_;rintro e w' ⟨rfl,rfl⟩)
    go_round
    case rel=>
     exact Mw
    case measure=>simp [intOf];omega
  ·have c:=I (pN iO (l.drop (a+1)) j aN (λi hi Zo=>Rf) (Or.inl aN));have HJ:=I (k.o j c.o);by_cases g:6<j+1<;>have H6:=I g
   ·go_wp2;go_ret;exact ⟨by rw [HJ.o,aB H6.o];rfl,rfl⟩
   ·go_wp2;go_ret;exact ⟨ZU,rfl⟩
def abZ (l:By) (a:Nat) (w:zW) (f:a<G l) (o:(G l)<=1000) (c:cT l[a]=false) (b:fF l[a]=false) :
  zC prog 74 #[zG l,zI a] w λe w'=>e=.returned (zI (ia l a))/\zB w w':=by
 have i:dm (l[a].toNat:Int)=false:=c;have n:jK (l[a].toNat:Int)=false:=b;have k:=I (Uv l a f c b);clear c b;have g:=I (show (l.drop a).take 1=[l[a]] by rw [jL f];rfl);cases d:b5 ((l.drop a).take 1) iV
 all_goals
  have m:=I d;go_in;go_wp2_with (first|(go_at_call 109;refine (bR (l[a].toNat:Int) _).m ?_;rintro e w' ⟨rfl,rfl⟩)|(go_at_call 110;refine (iI (l[a].toNat:Int) _).m ?_;rintro e w' ⟨rfl,rfl⟩)|(go_at_call 77;refine (xz ((l.drop a).take 1) iV ⟨w.heap.size,0,none⟩ 10 _ ai (λj h=>fh w iV 9 j h)).m ?_;rintro e w' ⟨rfl,rfl⟩));go_ret;exact ⟨by rw [k.o,<- g.o,m.o];first|rfl|go_num,(aM _ _).alloc (aG _) _⟩
def KN (l:By) (a:Nat) (w:zW) (d:a<G l) (f:(G l)<=1000) :
  zC prog 74 #[zG l,zI a] w λe w'=>e=.returned (zI (ia l a))/\zB w w':=by
 cases c:cT l[a]
 ·cases b:fF l[a]
  ·exact abZ l a w d f c b
  ·exact (abY l a w d f c b).m λe w' h=>⟨h.1,h.2▸aM _ _⟩
 ·have b:fF l[a]=false:=by
   have:=gq c;simp [fF,jK];omega
  exact (abW l a w d f c b).m λe w' h=>⟨h.1,h.2▸aM _ _⟩
end
section
attribute [local go_sem] idx_eq app_eq
def p7:List By:=[[],[],[],[105,102],[32,97,110,100,32],[32,111,114,32],[110,111,116,32],[116,114,117,101],[102,97,108,115,101],[40],[41],[44,32],[32,43,32],[32,45,32],[45],[32,42,32],[32,47,32],[32,37,32],[32,61,32],[32,60,32]]
def kY:List Int:=[0,0,0,0,0,0,3,0,0,0,0,0,0,6,0,0,0,0,0,0]
def uv:List Int:=[0,0,0,0,2,1,0,0,0,0,0,0,4,4,0,5,5,5,3,3]
def tD:List By:=[[],[],[],[105,102,40],[],[],[110,111,116,32],[116,114,117,101],[102,97,108,115,101],[40],[],[],[],[],[45],[],[],[],[],[]]
def EF:List By:=[[],[],[],[44,32],[32,97,110,100,32],[32,111,114,32],[],[],[],[],[],[],[32,43,32],[32,45,32],[],[32,42,32],[32,47,32],[32,37,32],[32,61,32],[32,60,32]]
def tE:List By:=[[],[],[],[41],[],[],[],[],[],[41],[],[],[],[],[],[],[],[],[],[]]
def iP (k:Nat):By:=tD.getD k []
def lL (k:Nat):By:=EF.getD k []
def jO (k:Nat):By:=tE.getD k []
def Sc:Array zV:=((List.range 20).flatMap λk=>[Value.string ⟨(iP k).toArray⟩,.string ⟨(lL k).toArray⟩,.string ⟨(jO k).toArray⟩]).toArray
def Qe:Array zV:=(dX.flatMap λx=>[Value.string ⟨x.1.toArray⟩,zI x.2]).toArray
def IC:Array zV:=(kY.map λx=>Value.int .i64 x).toArray
def Qf:Array zV:=(uv.map λx=>Value.int .i64 x).toArray
structure Env (w:zW):Prop where
 spell:∃ t fr,w.heap[4]?=some (.cells Sc t fr)
 ag1:∃ t fr,w.heap[1]?=some (.cells Qe t fr)
 ahead:∃ t fr,w.heap[2]?=some (.cells IC t fr)
 ag2:∃ t fr,w.heap[3]?=some (.cells Qf t fr)
 range:∃ tp p,w.var? prog "strconv.ErrRange" = some #[.iface tp p]
 pow:Lib.TabIs prog w "internal/strconv.uint64pow10" .u64 Lib.pow10Tab
 size:11<=w.heap.size
def ID:prog.globalNamed "strconv.ErrRange" = some 8:=aD
def ag3:prog.globalNamed "internal/strconv.uint64pow10" = some 5:=aD
def Dv {w w':zW} {B g:Nat} {nm:String} (c:Below B w w') (b:prog.globalNamed nm=some g) (a:g<B):w'.var? prog nm=w.var? prog nm:=by
 unfold World.var?;rw [b];simp only [Option.bind_some];rw [c.block g a]
def Env.below {w w':zW} {B:Nat} (h:Env w) (a:Below B w w') (b:11<=B):Env w':=by
 refine ⟨?_,?_,?_,?_,?_,?_,bf h.size a.size⟩
 ·rw [a.block 4 ae];exact h.spell
 ·rw [a.block 1 ae];exact h.ag1
 ·rw [a.block 2 ae];exact h.ahead
 ·rw [a.block 3 ae];exact h.ag2
 ·rw [Dv a ID ae];exact h.range
 ·exact (Dv a ag3 ae).t h.pow
def Env.next {w w':zW} (h:Env w) (a:zB w w'):Env w':=h.below a h.size
def UZ (k:Nat) (h:k<16) (w:zW):(Instr.index 208 (.agg Qe) (zI k)).run prog w=.ok (.agg #[.string ⟨((dX[k]'h).1).toArray⟩,zI (dX[k]'h).2]) w:=by
 rcases (show k=0\/k=1\/k=2\/k=3\/k=4\/k=5\/k=6\/k=7\/k=8\/k=9\/k=10\/k=11\/k=12\/k=13\/k=14\/k=15 from ae) with h|h|h|h|h|h|h|h|h|h|h|h|h|h|h|h<;>subst h<;>kernel_rfl
def Qg (l:List (By × Int)) (t:By) (k:Nat) (h:k<G l) (a:∀ j (hj:j<G l),j<k->l[j].1≠t) (h2:l[k].1=t):iA l t=some l[k].2:=by
 induction l generalizing k with
 | nil=>simp at h
 | cons x l d=>
  obtain ⟨y,z⟩:=x;cases k with
  | zero=>
   simp at h2;simp [iA,h2]
  | succ k=>
   have b:y≠t:=a 0 aq ae;simp only [iA,aA b];have:=d k jP (λj hj c=>a (j+1) oT ae) tI;simpa using this
def se (l:List (By × Int)) (t:By) (a:∀ j (hj:j<G l),l[j].1≠t):iA l t=none:=by
 induction l with
 | nil=>rfl
 | cons x l c=>
  obtain ⟨y,z⟩:=x;have b:y≠t:=a 0 aq;simp only [iA,aA b];exact c λj hj=>a (j+1) oT
def xk (t:By) (w:zW) (q:Env w) :
  zC prog 92 #[zG t] w λe w'=>e=.returned (.tuple #[zI ((fH t).getD 0),.bool (fH t).isSome])/\zB w w':=by
 obtain ⟨s,fr,p⟩:=q.ag1;have u:=I p;clear p q;go_in;go_wp2_with (refine wpList_load_row rfl 208 _ rfl 1 rfl s _ fr _ u.o underlying208 rfl aD ?_);go_loopw [7] (λi wr=>∃ k:Nat,k<=16/\i=zI k/\zB w wr/\Hid (∀ j (b:j<16),j<k->(dX[j]'b).1≠t)) (λi _=>16 - (intOf i).toNat)
 case atStart=>exact ⟨0,ae,rfl,aM _ _,λ_ _ h=>ae⟩
 case round=>
  obtain ⟨k,v,rfl,f,g⟩:=hrel;have c:=f.size;by_cases a:k<16
  ·have r:=UZ k a;by_cases he:(dX[k]'a).1=t
   ·have n:((dX[k]'a).1 == t)=true:=rh;have l:=I (show fH t=some (dX[k]'a).2 from Qg dX t k a (λj b d=>g.o j b d) he);clear he;generalize (dX[k]'a).1=x at *;generalize (dX[k]'a).2=z at *;go_wp2;go_ret2;exact ⟨by rw [l.o];rfl,f.alloc c _⟩
   ·have n:((dX[k]'a).1 == t)=false:=bo.2 he;have m:=I (show ∀ j (b:j<16),j<k+1->(dX[j]'b).1≠t from λj b d=>by
     rcases cC j k with o|o
     ·exact g.o j b o
     ·obtain rfl:j=k:=ae;exact he)
    clear he;generalize (dX[k]'a).1=x at *;generalize (dX[k]'a).2=z at *;go_wp2;go_roundw
    case rel=>exact ⟨k+1,ae,ez,f.alloc c _,m⟩
    case measure=>simp [intOf];omega
  ·go_wp2;go_ret2;have l:fH t=none:=se dX t λj b=>g.o j b (by have:j<16:=b;omega);exact ⟨by rw [l];rfl,f⟩
def dt (ts:List (By × Nat)):List zV:=ts.flatMap λt=>[.string ⟨t.1.toArray⟩,zI (t.2:Int)]
def Im (ts:List (By × Nat)) (t:By) (p:Nat):dt (ts++[(t,p)])=dt ts++[zG t,zI p]:=by simp [dt]
def ae7:(prog.info? 118).map (λi=>(i.zero,i.size,i.bytes))=some (some (.agg #[zG [],zI 0]),2,24):=aD
def JK (f:Nat) (s:By) (k:Nat) (a:k<G s) (h:s[k]=32):bW (f+1) (s.drop k) k=bW f (s.drop (k+1)) (k+1):=by
 rw [jL a,h];rfl
def Ux (f:Nat) (s:By) (k:Nat) (c:k<G s) (h:s[k]≠32) (a:ia s k = -1):bW (f+1) (s.drop k) k=([],some k):=by
 have b:di ((s.drop k).take (rowLen (s.drop k)))=false:=by
  unfold ia at a;split at a
  ·omega
  ·simp_all
 rw [jL c] at b ⊢;unfold bW;rw [aA h,aA (by rw [b];simp)]
def nD (c:UInt8) (r:By):1<=rowLen (c::r):=by
 simp only [rowLen];split
 ·omega
 ·split<;>omega
def Da (l:By):rowLen l<=(G l):=by
 cases l with
 | nil=>simp [rowLen]
 | cons c r=>
  have b:=(List.takeWhile_prefix (l:=r) iO).length_le;have a:=(List.takeWhile_prefix (l:=r) cT).length_le;unfold rowLen;simp only [gS];split
  ·omega
  ·split<;>omega
def Uy (f:Nat) (s:By) (k:Nat) (e:k<G s) (h:s[k]≠32) (b:ia s k ≠ -1) :
  ∃ n,1<=n/\k+n<=G s/\ia s k=((k+n:Nat):Int) /\
   bW (f+1) (s.drop k) k=(((s.drop k).take n,k)::(bW f (s.drop (k+n)) (k+n)).1,(bW f (s.drop (k+n)) (k+n)).2):=by
 have d:di ((s.drop k).take (rowLen (s.drop k)))=true:=by
  unfold ia at b;split at b
  ·assumption
  ·simp at b
 have c:=Da (s.drop k);have a:1<=rowLen (s.drop k):=by rw [jL e];exact nD _ _
 simp at c;refine ⟨rowLen (s.drop k),a,ae,by unfold ia;rw [aB d],?_⟩;have g:s.drop (k+rowLen (s.drop k))=(s.drop k).drop (rowLen (s.drop k)):=aq;rw [g];have i:=jL e;generalize s.drop k=u at *;subst i
 conv=>lhs;unfold bW
 rw [aA h,aB d]
def Io {w w':zW} (h:zB w w'):w.grownBy w' none:=⟨h.os,h.tape,h.output,h.size,λk a _=>h.block k a⟩
def aZ {w w':zW} {B:Nat} {e:TypeId} {z:Nat} {v:zV} {n:Nat} {xs:List zV} (h:w.ownsRow B e z v n xs) (a:zB w w'):w'.ownsRow B e z v n xs:=
 h.kept (Io a) (by cases b:v.ownBlock<;>simp)
def bC (w:zW) (cs:List zV) (T:TypeId) (j:Nat) (u:zV) (h:cs[j]?=some u):(w.alloc (.cells cs.toArray T)).cell? ((⟨w.heap.size,0,none⟩:zD).add j)=some u:=by
 rw [show (⟨w.heap.size,0,none⟩:zD).add j=⟨w.heap.size,j,none⟩ from aae,World.cell?_alloc_new];simpa using h
def acg (s:By) (w:zW) (e:Ending) (w':zW):Prop:=
 (∀ p,(aI s).2=some p->e=.returned (.tuple #[zN,zI p])) /\
 ((aI s).2=none->∃ v,e=.returned (.tuple #[v,zI (-1)])/\w'.ownsRow w.heap.size 118 2 v (aI s).1.length (dt (aI s).1)) /\
 zB w w'
def Fl (s:By) (w:zW) (E:(G s)<=1000) :
  zC prog 51 #[zG s] w (acg s w):=by
 obtain ⟨J,N,y,z,A⟩:=fe ae7;go_in;go_wp2;go_loopw [4,5] (λv i wr=>∃ (k f:Nat) (ts:List (By × Nat)),k<=G s/\(G s)<=k+f/\i=zI k/\wr.ownsRow w.heap.size 118 2 v (G ts) (dt ts)/\zB w wr/\(G ts)<=k /\
   Hid (aI s=(ts++(bW f (s.drop k) k).1,(bW f (s.drop k) k).2))) (λ_ i _=>G s - (intOf i).toNat)
 case atStart=>exact X7
 case round=>
  obtain ⟨k,f,ts,U,T,rfl,hown,hb,M,HT⟩:=hrel;have l:=hb.size;by_cases hlt:k<G s
  ·obtain ⟨f,rfl⟩:∃ g,f=g+1:=⟨f - 1,ae⟩;by_cases hsp:s[k]=32
   ·exact WV
   ·have agr:((s[k].toNat:Int) == 32)=false:=Ya;by_cases t:ia s k = -1
    ·have H:=I (Ux f s k hlt hsp t);have C:=I t;clear t hsp;go_wp2_with (go_at_call 74;refine (KN s k _ hlt E).m ?_;rintro e w1 ⟨rfl,b⟩;rw [C.o]);go_ret2;refine ⟨λp d=>?_,λF=>?_,hb.t (b.m l)⟩
     ·rw [HT.o,H.o] at d;simp at d;subst d;rfl
     ·rw [HT.o,H.o] at F;simp at F
    ·obtain ⟨n,K,Q,r,m⟩:=Uy f s k hlt hsp t;have B:=I m;have C:=I r;clear t hsp m r;go_wp2_with (go_at_call 74;refine (KN s k _ hlt E).m ?_;rintro e w1 ⟨rfl,b⟩;rw [C.o];apply Hid.o);apply I;have L:=b.size;go_wp2_with (at_builtin;refine km _ rfl (.tmp 23) (.tmp 30) 76 rfl w.heap.size 118 J (.agg #[zG [],zI 0]) 2 24 underlying76 N y z A rfl ai u4 (G ts) (dt ts) rfl ?c0 ⟨w1.heap.size,0,none⟩ 1 1 [.string ((ByteArray.mk s.toArray).extract k (k+n)),zI k] rfl rfl ?c1 ?c2 ?c3 ?c4 ?c5 ?_)
     case c0=>exact (aZ hown b).alloc _
     case c1=>exact λj u O=>bC w1 _ 118 j u O
     case c2=>intro u D;simp at D;rcases D with rfl|rfl<;>rfl
     case c3=>unfold maxLen;omega
     case c4=>omega
     case c5=>simp;omega
     intro v' w2 a c _;have P:=I a;have R:=I c;clear a c;go_wp2;go_roundw
     case rel=>
      refine ⟨k+n,f,ts++[((s.drop k).take n,k)],ae,ae,ez,?_,?_,aN,?_⟩
      ·have h:=P.o;rw [ext_eq,show k+n - k=n from ae] at h;rw [Im,b6];exact h
      ·refine ((hb.t (b.m l)).alloc ae _).grown R.o aN (λq S=>?_);exact (fJ hown q S).1
      ·refine HT.o.t ?_;rw [B.o];simp
     case measure=>simp [intOf];omega
  ·go_wp2;go_ret2;have o:bW f (s.drop k) k=([],none):=by
    rw [nY ae];cases f<;>rfl
   have x:=HT.o;rw [o] at x;simp at x;refine ⟨λp d=>?_,λ_=>?_,hb⟩
   ·rw [x] at d;simp at d
   ·rw [x];exact ⟨_,rfl,hown⟩
end
section
section
abbrev PT:=Int × Nat × By × Nat
def IW (l:List PT):List zV:=l.flatMap λt=>[zI t.1,zI (t.2.1:Int),.string ⟨t.2.2.1.toArray⟩,zI (t.2.2.2:Int)]
def aj {w:zW} {b:Nat} {cs:Array zV} {t:TypeId} {fr:Nat × Nat} (h:w.heap[b]?=some (.cells cs t fr)) (j:Nat) (u:zV):(w.setCell ⟨b,j,none⟩ u).heap[b]?=some (.cells (cs.setIfInBounds j u) t fr):=by
 simp [World.setCell,Array.getElem?_modify,h]
structure Kp (b:Nat) (w w':zW):Prop where
 bS:Below b w w'
 up:∀ q,b<q->q<w.heap.size->w'.heap[q]?=w.heap[q]?
def Kp.size {b:Nat} {w w':zW} (h:Kp b w w'):w.heap.size<=w'.heap.size:=h.bS.size
def Kp.heap {b:Nat} {w w':zW} (h:Kp b w w') {q:Nat} (c:q≠b) (hs:q<w.heap.size):w'.heap[q]?=w.heap[q]?:=by
 rcases cC q b with a|a
 ·exact h.bS.block q a
 ·exact h.up q ae hs
def Kp.refl (b:Nat) (w:zW):Kp b w w:=⟨aM _ _,λ_ _ _=>rfl⟩
def Kp.t {b:Nat} {w w' a:zW} (h:Kp b w w') (g:Kp b w' a):Kp b w a:=
 ⟨h.bS.t g.bS,λq c hs=>(g.up q c (bG hs h.size)).t (h.up q c hs)⟩
def Kp.next {b:Nat} {w w' a:zW} (h:Kp b w w') (g:zB w' a) (c:b<w'.heap.size):Kp b w a:=
 h.t ⟨g.m ae,λq _ hs=>g.block q hs⟩
def Kp.of {b:Nat} {w w':zW} (g:zB w w') (a:b<w.heap.size):Kp b w w':=(Kp.refl b w).next g a
def Kp.here {b:Nat} (w:zW) (j:Nat) (u:zV):Kp b w (w.setCell ⟨b,j,none⟩ u):=
 ⟨(aM b w).setCell (p:=⟨b,j,none⟩) (aG _) _,λq a _=>cY _ _ _ _ Xw⟩
def Kp.there {b:Nat} {w w':zW} (h:Kp b w w') (g j:Nat) (u:zV) (c:w.heap.size<=g) (d:b<w.heap.size):Kp b w (w'.setCell ⟨g,j,none⟩ u):=
 ⟨h.bS.setCell (p:=⟨g,j,none⟩) (by show b<=g;omega) _,λq a hs=>(cY _ _ _ _ (by show q≠g;omega)).t (h.up q a hs)⟩
def Kp.drew {b:Nat} {w w':zW} (h:Kp b w w'):Kp b w w'.drew:=⟨h.bS.drew,h.up⟩
def Kp.blk {b q:Nat} {w w':zW} {o:Obj} (h:Kp b w w') (a:w.heap[q]?=some o) (c:q≠b):w'.heap[q]?=some o:=
 (h.heap c (cz.1 a).1).t a
def bF {w:zW} {q:Nat} {cs:Array zV} {t:TypeId} (h:w.heap[q]?=some (.cells cs t (0,0))) (o:Nat):w.frozen? ⟨q,o,none⟩=false:=by
 simp [World.frozen?,h]
def aX {w:zW} {q:Nat} {v0 v1 v2 v3:zV} {t:TypeId} (h:w.heap[q]?=some (.cells #[v0,v1,v2,v3] t (0,0))) :
  (w.cell? ⟨q,0,none⟩=some v0/\w.cell? ⟨q,1,none⟩=some v1/\w.cell? ⟨q,2,none⟩=some v2/\w.cell? ⟨q,3,none⟩=some v3)/\(w.frozen? ⟨q,0,none⟩=false/\w.frozen? ⟨q,1,none⟩=false/\w.frozen? ⟨q,2,none⟩=false/\w.frozen? ⟨q,3,none⟩=false)/\q<w.heap.size:=
 ⟨⟨(bq w q 0 _ _ _ h).t rfl,(bq w q 1 _ _ _ h).t rfl,(bq w q 2 _ _ _ h).t rfl,(bq w q 3 _ _ _ h).t rfl⟩,⟨bF h 0,bF h 1,bF h 2,bF h 3⟩,(cz.1 h).1⟩
def Aq {w:zW} {q:Nat} {v0:zV} {t:TypeId} (h:w.heap[q]?=some (.cells #[v0] t (0,0))) :
  w.cell? ⟨q,0,none⟩=some v0/\w.frozen? ⟨q,0,none⟩=false/\q<w.heap.size:=
 ⟨(bq w q 0 _ _ _ h).t rfl,bF h 0,(cz.1 h).1⟩
structure cX (w:zW) (b bl cp:Nat) (Z:List PT) (i:Nat) (d e:Int):Prop where
 own:w.heap[b]?=some (.cells #[.slice (some ⟨bl,i*4,none⟩) (G Z - i) (cp - i),zI d,zI e] 138 (0,0))
 blk:bl<b
 lt:i<G Z
 cap:(G Z)<=cp
 many:(G Z)<=200
 W7:∀ t,t∈Z->0<=t.1/\t.1<20
 left:∀ j (h:j<G Z),w.cell? ⟨bl,j*4,none⟩=some (zI Z[j].1)/\w.cell? ⟨bl,j*4+1,none⟩=some (zI (Z[j].2.1:Int))/\w.cell? ⟨bl,j*4+2,none⟩=some (.string ⟨Z[j].2.2.1.toArray⟩)/\w.cell? ⟨bl,j*4+3,none⟩=some (zI (Z[j].2.2.2:Int))
section
variable {w:zW} {b bl cp:Nat} {Z:List PT} {i:Nat} {d e:Int}
def cX.size (h:cX w b bl cp Z i d e):b<w.heap.size:=(cz.1 h.own).1
def cX.cell (h:cX w b bl cp Z i d e):w.cell? ⟨b,0,none⟩=some (.slice (some ⟨bl,i*4,none⟩) (G Z - i) (cp - i))/\w.cell? ⟨b,1,none⟩=some (zI d)/\w.cell? ⟨b,2,none⟩=some (zI e)/\∀ j,w.frozen? ⟨b,j,none⟩=false:=by
 have a:=h.own;refine ⟨?_,?_,?_,λj=>?_⟩
 ·rw [bq w b 0 _ _ _ a];rfl
 ·rw [bq w b 1 _ _ _ a];rfl
 ·rw [bq w b 2 _ _ _ a];rfl
 ·simp [World.frozen?,a]
def cX.next (h:cX w b bl cp Z i d e) {w':zW} (a:zB w w'):cX w' b bl cp Z i d e:=by
 have hs:=h.size;refine ⟨(a.block b hs).t h.own,h.blk,h.lt,h.cap,h.many,h.W7,λj f=>?_⟩;have c:bl<w.heap.size:=wF h.blk hs;rw [a.cell c,a.cell c,a.cell c,a.cell c];exact h.left j f
def cX.apart (h:cX w b bl cp Z i d e) {w':zW} (g:w'.heap[b]?=w.heap[b]?) (c:w'.heap[bl]?=w.heap[bl]?):cX w' b bl cp Z i d e:=by
 refine ⟨g.t h.own,h.blk,h.lt,h.cap,h.many,h.W7,λj f=>?_⟩;have a:∀ o,w'.cell? ⟨bl,o,none⟩=w.cell? ⟨bl,o,none⟩:=λo=>by simp only [World.cell?,c]
 rw [a,a,a,a];exact h.left j f
def cX.store (h:cX w b bl cp Z i d e) {g j:Nat} {u:zV} (a:g≠b) (c:g≠bl):cX (w.setCell ⟨g,j,none⟩ u) b bl cp Z i d e:=
 h.apart (cY _ _ _ _ (by show b≠g;omega)) (cY _ _ _ _ (by show bl≠g;omega))
def cX.drew (h:cX w b bl cp Z i d e):cX w.drew b bl cp Z i d e:=⟨h.own,h.blk,h.lt,h.cap,h.many,h.W7,h.left⟩
def cX.Ay (h:cX w b bl cp Z i d e) (d':Int):cX (w.setCell ⟨b,1,none⟩ (zI d')) b bl cp Z i d' e/\Kp b w (w.setCell ⟨b,1,none⟩ (zI d')):=by
 have hk:=Kp.here (b:=b) w 1 (zI d');exact W6
def cX.ahg (h:cX w b bl cp Z i d e) (a:Int):cX (w.setCell ⟨b,2,none⟩ (zI a)) b bl cp Z i d a/\Kp b w (w.setCell ⟨b,2,none⟩ (zI a)):=by
 have hk:=Kp.here (b:=b) w 2 (zI a);exact W6
def cX.step (h:cX w b bl cp Z i d e) (a:i+1<G Z):cX (w.setCell ⟨b,0,none⟩ (.slice (some ⟨bl,i*4+4,none⟩) (G Z - i - 1) (cp - i - 1))) b bl cp Z (i+1) d e/\Kp b w (w.setCell ⟨b,0,none⟩ (.slice (some ⟨bl,i*4+4,none⟩) (G Z - i - 1) (cp - i - 1))):=by
 have hk:=Kp.here (b:=b) w 0 (.slice (some ⟨bl,i*4+4,none⟩) (G Z - i - 1) (cp - i - 1));refine ⟨⟨?_,h.blk,a,h.cap,h.many,h.W7,λj hj=>?_⟩,hk⟩
 ·rw [aj h.own,show (i+1)*4=i*4+4 from ae,show (G Z) - (i+1)=G Z - i - 1 from ae,show cp - (i+1)=cp - i - 1 from ae];rfl
 ·exact W8
end
def lx (w:zW) (g:Nat) (v0 v1 v2 v3:zV) {q:Nat} (h:q≠g):((((w.setCell ⟨g,0,none⟩ v0).setCell ⟨g,1,none⟩ v1).setCell ⟨g,2,none⟩ v2).setCell ⟨g,3,none⟩ v3).heap[q]?=w.heap[q]?:=by
 rw [cY _ _ _ _ h,cY _ _ _ _ h,cY _ _ _ _ h,cY _ _ _ _ h]
def cX.ep {w:zW} {b bl cp:Nat} {Z:List PT} {i:Nat} {d e:Int} (h:cX w b bl cp Z i d e) (g:Nat) (v0 v1 v2 v3:zV) (a:b<g):cX ((((w.setCell ⟨g,0,none⟩ v0).setCell ⟨g,1,none⟩ v1).setCell ⟨g,2,none⟩ v2).setCell ⟨g,3,none⟩ v3) b bl cp Z i d e:=
 h.apart (lx w g v0 v1 v2 v3 ae) (lx w g v0 v1 v2 v3 (by have:=h.blk;omega))
def Kp.dF {b:Nat} {w w':zW} (h:Kp b w w') (g:Nat) (v0 v1 v2 v3:zV) (a:w.heap.size<=g) (c:b<w.heap.size):Kp b w ((((w'.setCell ⟨g,0,none⟩ v0).setCell ⟨g,1,none⟩ v1).setCell ⟨g,2,none⟩ v2).setCell ⟨g,3,none⟩ v3):=
 (((h.there g 0 v0 a c).there g 1 v1 a c).there g 2 v2 a c).there g 3 v3 a c
def tC (w:zW) (a b:Obj) {q:Nat} (h:q<w.heap.size):((w.alloc a).alloc b).heap[q]?=w.heap[q]?:=by
 rw [cj _ _ _ aN,cj _ _ _ h]
def aY (w:zW) (a b:Obj):zB w ((w.alloc a).alloc b):=(bZ _).alloc aq _
def js (w:zW) (g:Nat) (v0 v1 v2 v3:zV):((((w.setCell ⟨g,0,none⟩ v0).setCell ⟨g,1,none⟩ v1).setCell ⟨g,2,none⟩ v2).setCell ⟨g,3,none⟩ v3).heap.size=w.heap.size:=aq
def ou (w:zW) (b bl cp:Nat) (Z:List PT) (i:Nat) (d e:Int) (h:cX w b bl cp Z i d e) :
  zC prog 127 #[zJ b] w λr w'=>r=.returned (zI (Z[i]'h.lt).1)/\w=w':=by
 have c0:=h.cell.1;have c:=(h.left i h.lt).1;have a:=h.lt;have f:(0:Int)<((G Z - i:Nat):Int):=ae;generalize (Z[i]'h.lt).1=k at *;generalize (G Z) - i=n at *;clear h a;go_in;go_wp2;go_ret;exact ⟨rfl,rfl⟩
def Bn (w:zW) (b bl cp:Nat) (Z:List PT) (i:Nat) (d e k:Int) (h:cX w b bl cp Z i d e) (a:(Z[i]'h.lt).1=k) :
  zC prog 94 #[zJ b,zI k] w λr w'=>r=.returned (.bool true)/\w=w':=by
 have H:=I (ou w b bl cp Z i d e h);have c:=I a;have f:(k != k)=false:=aq;clear a;go_in;go_wp2_with (go_at_call 127;refine H.o.m ?_;rw [c.o];rintro e w' ⟨rfl,rfl⟩);go_ret;exact ⟨rfl,rfl⟩
def P9 (w:zW) (b bl cp:Nat) (Z:List PT) (i:Nat) (d e k:Int) (h:cX w b bl cp Z i d e) (g:(Z[i]'h.lt).1≠k) :
  zC prog 94 #[zJ b,zI k] w λr w'=>r=.returned (.bool false)/\cX w' b bl cp Z i d 3/\Kp b w w':=by
 have H:=I (ou w b bl cp Z i d e h);have j:=I (h.ahg 3);obtain ⟨_,_,c2,c⟩:=h.cell;have l:=c 2;clear c;generalize (Z[i]'h.lt).1=z at *;have a:(z == k)=false:=bo.2 g;have f:(z != k)=true:=by simp [bne,a]
 clear g h;go_in;go_wp2_with (go_at_call 127;refine H.o.m ?_;rintro e w' ⟨rfl,rfl⟩);go_ret;exact ⟨rfl,j.o⟩
def ye (w:zW) (b bl cp:Nat) (Z:List PT) (i:Nat) (d e:Int) (h:cX w b bl cp Z i d e) (C:i+1<G Z) :
  zC prog 130 #[zJ b] w λr w'=>r=.returned (.agg #[zI (Z[i]'h.lt).1,zI ((Z[i]'h.lt).2.1:Int),.string ⟨(Z[i]'h.lt).2.2.1.toArray⟩,zI ((Z[i]'h.lt).2.2.2:Int)])/\cX w' b bl cp Z (i+1) d e/\Kp b w w':=by
 obtain ⟨c0,_,_,s⟩:=h.cell;have t:=s 0;obtain ⟨D,F,E,H⟩:=h.left i h.lt;have c:=h.cap;have hs:=h.size;have B:bl<w.heap.size:=wF h.blk hs;have f:=I (λw' (g:cX w' b bl cp Z i d e)=>g.step C);have l:=I h;obtain ⟨n,q⟩:∃ n,G Z - i=n+2:=⟨G Z - i - 2,ae⟩;obtain ⟨m,o⟩:∃ m,cp - i=m+2:=⟨cp - i - 2,ae⟩;have y:n<=m:=ae;rw [q,o] at c0 f;have j:=h.many;have A:(0:Int)<(n:Int)+2:=ae;have z:(0:Int)<=(n:Int):=ae;have u:(n:Int)<=(m:Int):=ae;generalize (Z[i]'h.lt).1=k at *;generalize (Z[i]'h.lt).2.1=p at *;generalize (Z[i]'h.lt).2.2.1=x at *;generalize (Z[i]'h.lt).2.2.2=nn at *;clear s h c q o;go_in;go_wp2;refine aK (v:=.agg #[zI k,zI p,zG x,zI nn]) (by simp [results,results130,go_sem]) rfl ?_;have a:=((aM _ (w.setCell ⟨b,0,none⟩ (.slice (some ⟨bl,i*4+4,none⟩) (n+1) (m+1)))).alloc (aG _) (.cells #[zI k,zI p,zG x,zI nn] 134)).alloc aq (.cells #[zI k,zI p,zG x,zI nn] 134);exact ⟨rfl,(f.o w l.o).1.next a,(f.o w l.o).2.next a aN⟩
def FI (w:zW) (b bl cp:Nat) (Z:List PT) (i:Nat) (d e k:Int) (h:cX w b bl cp Z i d e) (c:(Z[i]'h.lt).1=k) (j:i+1<G Z) :
  zC prog 188 #[zJ b,zI k] w λr w'=>r=.returned (.bool true)/\cX w' b bl cp Z (i+1) d e/\Kp b w w':=by
 have H:=I (Bn w b bl cp Z i d e k h c);have f:=I (ye w b bl cp Z i d e h j);clear c;go_in;go_wp2_with (first|(go_at_call 94;refine H.o.m ?_;rintro e w' ⟨rfl,rfl⟩)|(go_at_call 130;refine f.o.m ?_;rintro e w' ⟨rfl,g,a⟩));go_ret;exact ⟨rfl,g,a⟩
def LB (w:zW) (b bl cp:Nat) (Z:List PT) (i:Nat) (d e k:Int) (h:cX w b bl cp Z i d e) (c:(Z[i]'h.lt).1≠k) :
  zC prog 188 #[zJ b,zI k] w λr w'=>r=.returned (.bool false)/\cX w' b bl cp Z i d 3/\Kp b w w':=by
 have H:=I (P9 w b bl cp Z i d e k h c);clear c;go_in;go_wp2_with (go_at_call 94;refine H.o.m ?_;rintro e w' ⟨rfl,f,a⟩);go_ret;exact ⟨rfl,f,a⟩
def FJ (w:zW) (b bl cp:Nat) (Z:List PT) (i:Nat) (e:Int) (h:cX w b bl cp Z i 6 e) :
  zC prog 158 #[zJ b] w λr w'=>r=.returned (.tuple #[.agg #[zI 0,zI 0,zG [],zI 0],.bool false])/\cX w' b bl cp Z i 6 4/\Kp b w w':=by
 have hs:=h.size;have d:=I (h.ahg 4);obtain ⟨_,c2,c3,c⟩:=h.cell;have f:=c 2;clear c h;go_in;go_wp2;refine aK (v:=.tuple #[.agg #[zI 0,zI 0,zG [],zI 0],.bool false]) (by simp [results,results158,go_sem]) rfl ?_;have a:=(aM _ (w.setCell ⟨b,2,none⟩ (zI 4))).alloc (aG _) (.cells #[zI 0,zI 0,zG [],zI 0] 134);exact ⟨rfl,d.o.1.next a,d.o.2.next a aN⟩
def DG (w:zW) (b bl cp:Nat) (Z:List PT) (i:Nat) (d:Nat) (e:Int) (h:cX w b bl cp Z i d e) (D:d<6) (C:i+1<G Z) :
  zC prog 158 #[zJ b] w λr w'=>r=.returned (.tuple #[.agg #[zI (Z[i]'h.lt).1,zI ((Z[i]'h.lt).2.1:Int),.string ⟨(Z[i]'h.lt).2.2.1.toArray⟩,zI ((Z[i]'h.lt).2.2.2:Int)],.bool true])/\cX w' b bl cp Z (i+1) ((d:Int)+1) e/\Kp b w w':=by
 have k:=I (h.Ay ((d:Int)+1));obtain ⟨_,c2,c3,n⟩:=h.cell;have y:=n 1;have hs:=h.size;have m:=h.blk;have z:=I (λw1 (g:cX w1 b bl cp Z i ((d:Int)+1) e)=>ye w1 b bl cp Z i _ e g C);have x:((d:Int) == 6)=false:=bo.2 ae;have c:=h.lt;clear n;go_in;go_wp2_with (go_at_call 130;refine mo (z.o _ (k.o.1.next (bZ _))) ?_;rintro e w' ⟨rfl,l,f⟩);have a:=f.blk (q:=w.heap.size) (by have:=bL (w.setCell ⟨b,1,none⟩ (zI ((d:Int)+1))) (.cells #[zI 0,zI 0,zG [],zI 0] 134);simpa using this) ae;obtain ⟨⟨o,p,s,B⟩,⟨f0,f1,f2,f3⟩,t⟩:=aX a;clear a;have A:=I f;have u:=I l;clear l f;apply I;go_wp2;refine aK (v:=.tuple #[.agg #[zI (Z[i]'c).1,zI ((Z[i]'c).2.1:Int),.string ⟨(Z[i]'c).2.2.1.toArray⟩,zI ((Z[i]'c).2.2.2:Int)],.bool true]) (by simp [results,results158,go_sem,o,p,s,B]) rfl ?_;have j:Kp b w w':=(k.o.2.next (bZ _) aN).t A.o;exact ⟨rfl,(((u.o.store ae ae).store ae ae).store ae ae).store ae ae,(((j.there _ _ _ (aG _) hs).there _ _ _ (aG _) hs).there _ _ _ (aG _) hs).there _ _ _ (aG _) hs⟩
end
end
section
attribute [local go_sem] idx_eq app_eq
def kq:List By:=[[111,114],[97,110,100],[61],[60],[43],[45],[42],[47],[37]]
def tK:Option By->Bool|none=>false|some q=>zT q
def cM (a:Option By) (t:By):By:=
 if b5 t kq&&tK a then [32]++t++[32]
 else if t=[44]||t=[110,111,116] then t++[32]
 else dy t
def pq (ts:List (By × Nat)) (k:Nat):Option By:=if k=0 then none else (ts[k - 1]?).map (·.1)
def bV (ts:List (By × Nat)):Nat->By
 | 0=>[]
 | k+1=>bV ts k++cM (pq ts k) ((ts[k]?).map (·.1) |>.getD [])
def tv (t:By):(dy t).length<=(G t):=by
 induction t with
 | nil=>simp [dy]
 | cons c r a=>
  cases r with
  | nil=>simp [dy]
  | cons d r=>
   unfold dy;split
   ·simp only [gS] at a ⊢;omega
   ·simp
def K5 (q:Option By) (t:By):(cM q t).length<=G t+2:=by
 have:=tv t;unfold cM;split
 ·simp
 ·split
  ·simp
  ·omega
def pW (f:Nat) (l:By) (k:Nat) (t:By) (p:Nat) (h:(t,p)∈(bW f l k).1):(G t)<=19:=by
 induction f generalizing l k with
 | zero=>simp [bW] at h
 | succ f b=>
  match l with
  | []=>simp [bW] at h
  | c::r=>
   unfold bW at h;split at h
   ·exact b _ _ h
   ·split at h
    ·rename_i a;simp only [bQ,mI] at h;rcases h with ⟨rfl,rfl⟩|h
     ·unfold di at a;split at a
      ·simp only [qA,pG] at a;omega
      ·split at a
       ·simp only [pG] at a;omega
       ·simp only [b5,iV,pF,bQ,jA,iK] at a;rcases a with h|h|h|h|h|h|h|h|h|h<;>rw [h]<;>simp
     ·exact b _ _ h
    ·simp at h
def pZ (ts:List (By × Nat)) (h:∀ t p,(t,p)∈ts->G t<=19) (k:Nat):(bV ts k).length<=21*k:=by
 induction k with
 | zero=>simp [bV]
 | succ k e=>
  have c:=K5 (pq ts k) ((ts[k]?).map (·.1) |>.getD []);have d:((ts[k]?).map (·.1) |>.getD []).length<=19:=by
   cases b:ts[k]? with
   | none=>simp
   | some x=>
    obtain ⟨a,rfl⟩:=fI.1 b;exact h _ _ (bt a)
  unfold bV;rw [b6];omega
def x8 (ts:List (By × Nat)) (k:Nat) (h:k<G ts):bV ts (k+1)=bV ts k++cM (pq ts k) ts[k].1:=by
 conv=>lhs;unfold bV
 rw [cU h];rfl
def K6 (ts:List (By × Nat)):pq ts 0=none:=rfl
def Ap (ts:List (By × Nat)) (k:Nat) (h:k+1<=G ts):pq ts (k+1)=some (ts[k]'ae).1:=by
 unfold pq;rw [aA ae];simp [cU (show k<(G ts) from ae)]
end
def w9 {w:zW} {base z n q j:Nat} {e:TypeId} {v u:zV} {xs:List zV} (h:w.ownsRow base e z v n xs) (f:v.ownBlock≠some q):(w.setCell ⟨q,j,none⟩ u).ownsRow base e z v n xs:=by
 obtain ⟨c,d⟩:=h;refine ⟨c,d.imp id ?_⟩;rintro ⟨g,a,b,rfl,i,l,k⟩;exact ⟨g,a,b,rfl,i,(cY _ _ _ _ (by show g≠q;intro e;exact f (by rw [e];rfl))).t l,k⟩
def ab5 (e:Nat) (d:Fn) (cs:Array zV) (w:zW) (Q:Ending->zW->Prop) (g:w.cell? ⟨e,4,none⟩=some (.bool false))
  (a:zC prog 100 #[.pointer (some ⟨e,1,none⟩),.func d #[] cs] w λr w'=>r=.returned (.tuple #[])/\Q r w') :
  zC prog 99 #[.pointer (some ⟨e,1,none⟩),.func d #[] cs] w λr w'=>r=.returned (.tuple #[])/\Q r w':=by
 have b:=I a;clear a;go_in;go_wp2_with (go_at_call 100;refine mo b.o ?_;rintro r w2 ⟨rfl,c⟩);have f:=I c;clear c b;apply I;go_wp2
 go_end0
 exact ⟨rfl,f.o⟩
def bM:Obj:=.cells #[zI 0,zI 0,zG [],zN,zI 0,zI 0] 39 (0,0)
def Ik (er at_:Int) (tx:By) (bn:Option zD) (ln cn:Nat) (kd nn:Int):zV:=.agg #[zI er,zI at_,zG tx,.slice bn ln cn,zI kd,zI nn]
def jx (e:Int) (b:Option zD) (ln cn:Nat) (k:Int) (nm:By) (n:Int) (c:Option zD) (d a:Nat):Obj:=.cells #[zI e,.slice b ln cn,zI k,zG nm,zI n,.slice c d a] 97 (0,0)
def ai7 (M:Nat) (a:M<=6) (w:zW) :
  zC prog 45 #[zI M] w λr w'=>r=.returned (.tuple #[zJ w.heap.size,zI 0])/\w'=w.alloc (.cells #[zN,zI M,zN,zN,.bool false,zN] 108):=by
 have b:¬ (M:Int)<0:=ae;have c:¬ (6:Int)<(M:Int):=ae;clear a;go_in;go_wp2;go_ret2;exact ⟨rfl,rfl⟩
def j7 (e:Int) (b:Option zD) (ln cn:Nat) (k:Int) (nm:By) (n:Int) (c:Option zD) (d a:Nat):zV:=.agg #[zI e,.slice b ln cn,zI k,zG nm,zI n,.slice c d a]
section
attribute [local go_sem] idx_eq app_eq
def R6 (w:zW) (b:Nat) (r:By):Prop:=
 ∃ (s:By) (k:Nat),w.heap[b]?=some (.cells #[zG s,zI k] 28 (0,0))/\k<=G s/\s.drop k=r/\(G s)<=9223372036854775807
structure lA (b:Nat) (w w':zW):Prop where
 below:Below b w w'
 other:∀ i,i<w.heap.size->i≠b->w'.heap[i]?=w.heap[i]?
def lA.refl (b:Nat) (w:zW):lA b w w:=⟨aM _ _,λ_ _ _=>rfl⟩
def lA.t {b:Nat} {w w' a:zW} (h:lA b w w') (k:lA b w' a):lA b w a:=
 ⟨h.below.t k.below,λi d c=>(k.other i (bG d h.below.size) c).t (h.other i d c)⟩
def lA.drewN {b:Nat} {w w':zW} (h:lA b w w') (n:Nat):lA b w (w'.drewN n):=
 h.t ⟨lG (aM _ _) n,λ_ _ _=>rfl⟩
def lA.cell {b:Nat} {w w':zW} (h:lA b w w') {p:zD} (a:p.block<w.heap.size) (c:p.block≠b):w'.cell? p=w.cell? p:=nu (w:=w) (h.other p.block a c)
def lA.lit {b:Nat} {w w':zW} {cs:Array zV} {T:TypeId} (h:lA b (w.alloc (.cells cs T)) w') (a:b<w.heap.size) (j:Nat):w'.cell? ⟨w.heap.size,j,none⟩=cs[j]?:=by
 rw [h.cell (p:=⟨w.heap.size,j,none⟩) aq aN,World.cell?_alloc_new]
def R6.size {w:zW} {b:Nat} {r:By} (h:R6 w b r):b<w.heap.size:=by
 obtain ⟨s,k,h1,_⟩:=h;exact Gs
end
def lA.lt {b:Nat} {w w':zW} (h:lA b w w'):w.heap.size<=w'.heap.size:=h.below.size
def Lit (w:zW) (q:Nat) (cs:List zV):Prop:=q<w.heap.size/\∀ j,w.cell? ⟨q,j,none⟩=cs[j]?
def ai8 (l:List By) (k:Nat):By:=l.getD k []
section
attribute [local go_sem] idx_eq app_eq
def wY (c:Int) (n:Nat):Nat:=(if c<0 then -(c+1) else c).toNat % n
def Ui (c:Int) (n:Nat) (h:0<n):wY c n<n:=Nat.mod_lt _ h
end
end Go.Proofs.YtihgojcfpnhelaaGreatDoor
