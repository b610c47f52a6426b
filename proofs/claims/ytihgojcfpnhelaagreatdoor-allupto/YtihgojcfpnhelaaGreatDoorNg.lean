import Derived.Test.YtihgojcfpnhelaaGreatDoorIj
import Derived.Test.YtihgojcfpnhelaaGreatDoorJt
set_option maxRecDepth 100000
set_option maxHeartbeats 4000000
set_option linter.all false
namespace Go.Proofs.YtihgojcfpnhelaaGreatDoor
open Value renaming slice->B,tuple->zp,pointer->zK
open Obj renaming cells->zM
open Ending renaming returned->zP
open Option renaming some->A
open Go renaming World->zW,Value->zV,Calls->zC,Addr->zD
open Go.RowKit Go.Proofs.Tryz
open List renaming length→G
section
open Go.RowKit Go.Shelf Go.Sort
def Gz (a:Option zD) (c:Nat) (w:zW) :
  zC prog 223 #[B a 0 c,J 0,J 0,.func (.func 140) #[] #[]] w λe C=>e=zP (zp #[])/\C=w:=by
 go_in;go_wp2;refine wp_loop_rounds 1 ?_;rw [rounds_succ];go_wp2
 go_end0
 exact ⟨rfl,rfl⟩
def GA (a:Option zD) (c:Nat) (b:Int) (w:zW) :
  zC prog 202 #[B a 0 c,J 0,J 0,J b,.func (.func 140) #[] #[]] w λe C=>e=zP (zp #[])/\C=w:=by
 have d:=Gz a c w;go_in;go_wp2;refine wp_loop_rounds 1 ?_;rw [rounds_succ];go_wp2_with (go_at_call 223;refine d.m ?_;rintro e C ⟨rfl,rfl⟩)
 (try simp only [Exit.inBlock,Exit.then]);refine aK (results_none rfl _ _ _) rfl ?_
 exact ⟨rfl,rfl⟩
def GB (a:Option zD) (c:Nat) (w:zW) :
  zC prog 170 #[B a 0 c,.func (.func 140) #[] #[]] w λe C=>e=zP (zp #[])/\C=w:=by
 have f:=λb=>GA a c b w;have d:=Any.bits_Len lays125 0 w (by omega) (by omega);change zC prog 203 _ _ _ at d;generalize Lib.bitLen (0:Int).toNat=z at d;go_in;go_wp2_with (first|(go_at_call 203;refine d.m ?_;rintro e C ⟨rfl,rfl⟩)|(go_at_call 202;refine (f _).m ?_;rintro e C ⟨rfl,rfl⟩))
 go_end0
 exact ⟨rfl,rfl⟩
def Sd:∀ x y:By,Lib.compareBytes x y<0↔x<y
 | [],[]=>by simp [Lib.compareBytes]
 | [],_::_=>by simp [Lib.compareBytes]
 | _::_,[]=>by simp [Lib.compareBytes]
 | a::r,b::t=>by
  have f:=Sd r t;unfold Lib.compareBytes;rw [List.cons_lt_cons_iff];by_cases c:a<b
  .simp [c]
  .rw [aA c];by_cases d:b<a
   .rw [aB d];have:a≠b:=λe=>c (e▸d);simp [c,this]
   .rw [aA d,f];have:a=b:=UInt8.le_antisymm (UInt8.not_lt.1 d) (UInt8.not_lt.1 c);simp [this]
def uZ {fs:List (Nat × Fd)} (x y:bz fs):ltOf ux x y=ltStr x.1.2.nm y.1.2.nm:=by
 unfold ltOf ux ltStr;exact decide_eq_decide.2 (Sd _ _)
def iE (fs:List (Nat × Fd)):SWO (ltOf (ux (fs:=fs))):=by
 refine ⟨λx=>?_,λx y z a b=>?_,λx y z a b=>?_⟩
 .rw [uZ];exact swo_ltStr.irrefl _
 .rw [uZ] at *;exact swo_ltStr.t _ _ _ a b
 .rw [uZ] at *;exact swo_ltStr.ntrans _ _ _ a b
def p8 (fs:List (Nat × Fd)) [Inhabited (bz fs)]:Array (bz fs):=Sort.insertionSort (ltOf (ux (fs:=fs))) fs.attach.toArray 0 (G fs)
def xm (fs:List (Nat × Fd)) [Inhabited (bz fs)]:(p8 fs).size=G fs:=by
 have:=(insertionSort_holds (lt:=ltOf (ux (fs:=fs))) (iE fs) fs.attach.toArray 0 (G fs) (bE _) (by simp)).1.1;unfold p8;simpa using this
open Classical in
noncomputable def kS (fs:List (Nat × Fd)):List (Nat × Fd):=if h:fs=[] then [] else
 haveI:Inhabited (bz fs):=⟨⟨fs.head h,List.head_mem h⟩⟩
 (p8 fs).toList.map Subtype.val
def GC {S:Nat->Prop} (fs:List (Nat × Fd)) (w:zW) (Q4:Nat) (v:zV) (p:∀ f,f∈fs->fB w S f.1 f.2/\f.1<Q4) (h:w.ownsRow Q4 220 1 v (G fs) (fs.map λf=>zK (A (yh f.1)))) (hs:Q4<=w.heap.size) (u:G fs<=12) :
  zC prog 170 #[v,.func (.func 140) #[] #[]] w λe R=>e=zP (zp #[])/\Below Q4 w R/\∃ a c,v=B a (G fs) c/\(kS fs).length=G fs/\∀ j (K:j<(kS fs).length),∃ g,a=A (yh g)/\R.cell? (X g j)=A (zK (A (yh ((kS fs)[j].1)))):=by
 obtain ⟨a,l,c,rfl⟩:=b7 h;have H:l=G fs:=by
  rcases h.2 with s|⟨g,z,L,s,_⟩
  .have:=s.1;cases this;exact s.2.symm
  .cases s;rfl
 subst H;by_cases r:fs=[]
 .subst r;refine (GB a c w).m ?_;rintro e R ⟨rfl,rfl⟩;exact ⟨rfl,aM _ _,a,c,rfl,by simp [kS],λj K=>by simp [kS] at K⟩
 .letI:Inhabited (bz fs):=⟨⟨fs.head r,List.head_mem r⟩⟩
  have k:0<G fs:=BB.2 r;obtain ⟨g,z,D,Q5,F⟩:=h.form k;simp at D;obtain ⟨rfl,rfl⟩:=D;have E:Holds (n9 (fs:=fs)) w g 0 fs.attach.toArray:=by
   intro j K;simp at K;have M:=h.cellAt j (by simpa using K);refine ⟨?_,?_⟩
   .simp only [cS];rw [M];rw [getElem!_pos fs.attach.toArray j (by simpa using K)];simp [n9,K]
   .simp only [cS];exact h.frozenAt j
  have o:CmpReads prog 140 #[] (n9 (fs:=fs)) ux g 0 fs.attach.toArray.size w:=by
   intro m C T O x y;have N:=p x.1 x.2;have Z:=p y.1 y.2;have U:∀ f:Nat × Fd,fB w S f.1 f.2/\f.1<Q4->(sortWorld (n9 (fs:=fs)) w g 0 m T C).cell? (yh f.1)=A (Q f.2.nm):=λf Y=>by
    obtain ⟨⟨_,_,_,_,w',hj,Q0,W,_⟩,P⟩:=Y;rw [nu (a:=yh f.1) (AX (n9 (fs:=fs)) w g 0 m T C f.1 (by omega) (by omega))];exact (bq w f.1 0 _ _ _ W).t rfl
   exact U1 x.1.1 y.1.1 x.1.2.nm y.1.2.nm _ (U x.1 N) (U y.1 Z)
  have V:=Cn fs g 0 c fs.attach.toArray w o E (by simpa using u);have d:fs.attach.toArray.size=G fs:=(by simp);rw [d] at V;refine V.m ?_;rintro e R ⟨rfl,n,rfl⟩;have t:kS fs=(p8 fs).toList.map Subtype.val:=by
   unfold kS;rw [dif_neg r]
  refine ⟨rfl,lG ?_ n,A (yh g),c,rfl,?_,λj K=>⟨g,rfl,?_⟩⟩
  .refine ⟨rfl,rfl,rfl,?_,λq Q6=>IG _ _ _ _ _ q (by omega)⟩;show w.heap.size<=(w.heap.modify g _).size;simp
  .rw [t];simp [xm]
  .have i:j<(p8 fs).size:=by rw [t] at K;simpa using K
   have:=cell?_putRow (n9 (fs:=fs)) w g 0 fs.attach.toArray (p8 fs) E (by rw [xm,d]) j i;rw [cS] at this;refine Eq.t (b:=A (n9 (p8 fs)[j]!)) this ?_;rw [getElem!_pos (p8 fs) j i];simp [n9,t]
def ya {C:Type} (d:Array C) (n:Nat) (h:d.size=n):d.extract 0 n=d:=by
 subst h;exact Array.extract_size
def nE (fs:List (Nat × Fd)):(kS fs).Perm fs/\(kS fs).Pairwise λf g=>¬ g.2.nm<f.2.nm:=by
 by_cases c:fs=[]
 .subst c;simp [kS]
 .letI:Inhabited (bz fs):=⟨⟨fs.head c,List.head_mem c⟩⟩
  have e:kS fs=(p8 fs).toList.map Subtype.val:=by
   unfold kS;rw [dif_neg c]
  have a:fs.attach.toArray.size=G fs:=(by simp);obtain ⟨⟨m,_,h⟩,o⟩:=insertionSort_holds (lt:=ltOf (ux (fs:=fs))) (iE fs) fs.attach.toArray 0 (G fs) (bE _) (by simp);have e1:(p8 fs).toList.Perm fs.attach:=by
   have l:=ya (Sort.insertionSort (ltOf (ux (fs:=fs))) fs.attach.toArray 0 (G fs)) (G fs) (by rw [m,a]);have n:=ya fs.attach.toArray (G fs) a;rw [l,n] at h;exact h
  refine ⟨?_,?_⟩
  .rw [e];have:=e1.map Subtype.val;rw [List.attach_map_subtype_val] at this;exact this
  .rw [e,jz,sW];intro i j k b d;simp at k b;have:=o i j (bE _) d (by rw [xm] at b;exact b);change ltOf ux (p8 fs)[j]! (p8 fs)[i]! = false at this;rw [uZ,getElem!_pos (p8 fs) j b,getElem!_pos (p8 fs) i k] at this;simpa [ltStr] using this
def mN (f:Fd):By:=f.nm++[32,61,32]++ai f.p++[10]
noncomputable def sK (fs:List (Nat × Fd)):By:=(kS fs).flatMap λf=>mN f.2
def GD (w:zW):Bu w.heap.size [] (w.alloc (zM #[zK none,zN] 170)):=
 ⟨Lib.IsBuilderF.of (Lib.fresh_isBuilder 170 5 w),by simp⟩
def Fz (f:Fd):(mN f).length=G f.nm+(ai f.p).length+4:=by
 simp [mN];omega
def Lg (f:Fd):(⟨(mN f).toArray⟩:ByteArray)={ data:=List.toArray f.nm }++{ data:=#[32,61,32] }++{ data:=List.toArray (ai f.p) }++{ data:=#[10] }:=by
 apply ByteArray.ext;simp [mN,ByteArray.data_append]
def U4 (gs:List (Nat × Fd)) (h:∀ f,f∈gs->G f.2.nm<=100/\(ai f.2.p).length<=100):(gs.flatMap λf=>mN f.2).length<=G gs*204:=by
 induction gs with
 | nil=>simp
 | cons g r b=>
  have c:=h g (by simp);have d:=b λf a=>h f (by simp [a]);have e:=Fz g.2;simp only [sD,b6,gS];omega
end
end Go.Proofs.YtihgojcfpnhelaaGreatDoor
