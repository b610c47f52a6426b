import Derived.Test.YtihgojcfpnhelaaGreatDoorRf
import Derived.Test.YtihgojcfpnhelaaGreatDoorFi
import Derived.Test.YtihgojcfpnhelaaGreatDoorCards
set_option maxRecDepth 100000
set_option maxHeartbeats 4000000
set_option linter.all false
namespace Go.Proofs.YtihgojcfpnhelaaGreatDoor
open Go.RowKit
section
open Go.ChangeShapes Go.WideShapes Go.ChangeAt Go.RowKit
def own:ownKnob Tryz.prog.godebug=none:=by kernel_rfl
def a7:laidOutB Tryz.prog=true:=by kernel_rfl
def BG:Tryz.prog.cellsOf 75=3:=by kernel_rfl
def F9:Tryz.prog.cellsOf 3=1:=by kernel_rfl
def Ga:Tryz.prog.cellsOf 9=1:=by kernel_rfl
def aN {n:Int} (hw:(Lit.int .i64 n).wf=true):-9223372036854775808<=n/\n<=9223372036854775807:=by simp only [Lit.wf,qA,pG] at hw;exact hw
def MK {H:Type} (d:DataW H):1<=Rows.uptoBulk d:=by
 cases d with
 | lit l=>cases l<;>simp [Rows.uptoBulk]
 | _=>simp [Rows.uptoBulk]
def Gb {H:Type}:∀ l:List (DataW H),l.length<=Rows.uptoBulkAll l
 | []=>bE _
 | x::r=>by have h1:=MK x;have h2:=Gb r;simp only [Rows.uptoBulkAll,gS];omega
def mm {H:Type} {enc:TypeId × Value->H} {W:World} {r:Reach} {l:Nat} {v:Value} {d:DataW H} {i:List MemPlace} (b:Value.okWide Tryz.prog W r l 22 v) (h:DataW.Trod enc Tryz.prog W 0 (λ_=>true) true 22 v d i) :
  ∃ (c:Option Addr) (len cap:Nat) (QT Q0:Nat->Int) (S:Nat->By),v=.slice c len cap/\len<=Rows.uptoBulk d/\xY W c len QT Q0 S:=by
 obtain ⟨c,len,cap,rfl⟩:=okWide_slice yu b;obtain ⟨fuel,o⟩:=h;rcases Deep.open_slice yu o with ⟨hc,_⟩|⟨a,g,e,m,n,D,Pl,hc,_,q,p,SJ,hd,od⟩
 .simp [Value.cells] at hc;obtain ⟨rfl,rfl,rfl⟩:=hc;exact ⟨none,0,0,λ_=>0,λ_=>0,λ_=>[],rfl,bE _,λj hj=>by omega⟩
 .simp [Value.cells] at hc;obtain ⟨rfl,rfl,rfl⟩:=hc;have aq6:m=cap:=(by simpa using SJ);have key:∀ j,j<len->∃ x:Int × Int × By,W.cell? (a.add (j*3))=some (.int .i64 x.1)/\W.cell? ((a.add (j*3)).add 1)=some (.int .i64 x.2.1)/\W.cell? ((a.add (j*3)).add 2)=some (.string ⟨x.2.2.toArray⟩) /\ -9223372036854775808<=x.2.1/\x.2.1<=9223372036854775807:=by
   intro j hj;obtain ⟨cs',h1,h2⟩:=od j (by omega);rw [BG] at h1;obtain ⟨_,anJ,hat⟩:=World.cells?_some h1;obtain ⟨y0,y1,y2,n',_,_,t0,t1,t2⟩:=Deep.trod_struct3 Tryz.underlying75 h2;obtain ⟨k,e0,_,_⟩:=DataW.trod_int Tryz.underlying3 t0;obtain ⟨k1,e1,_,hw⟩:=DataW.trod_int Tryz.underlying3 t1;obtain ⟨s,e2,_,_⟩:=wo wx t2;have c0:=hat 0 (by omega);have c1:=hat 1 (by omega);have c2:=hat 2 (by omega);rw [F9] at e0 e1;rw [Ga] at e2;have g0:cs'[0]?=some (.int .i64 k):=by
    have:=eL (·[0]?) e0;simpa [sX,qz] using this
   have g1:cs'[1]?=some (.int .i64 k1):=by
    have:=eL (·[0]?) e1;simpa [sX,qz] using this
   have g2:cs'[2]?=some (.string s):=by
    have:=eL (·[0]?) e2;simpa [sX,qz] using this
   refine ⟨(k,k1,s.data.toList),?_,?_,?_,(aN hw).1,(aN hw).2⟩
   .rw [g0] at c0;simpa [Addr.add] using c0
   .rw [g1] at c1;rw [c1]
   .rw [g2] at c2;rw [c2]
  obtain ⟨f,hf'⟩:=Deep.choose_lt key;have hdl:len<=Rows.uptoBulk d:=by
   have h1:d=.slice ((List.range len).map D) ((List.range (m - len)).map λj=>D (len+j)):=eL Prod.fst hd;rw [h1];have h2:=Gb ((List.range len).map D);rw [fy,List.length_range] at h2;simp only [Rows.uptoBulk];omega
  refine ⟨some a,len,cap,λj=>(f j).1,λj=>(f j).2.1,λj=>(f j).2.2,rfl,hdl,λj hj=>⟨a,rfl,?_,(hf' j hj).1,(hf' j hj).2.1,(hf' j hj).2.2.1,(hf' j hj).2.2.2.1,(hf' j hj).2.2.2.2⟩⟩;have:=gI W _ (hf' j hj).1;rwa [Ji] at this
def aV (H:Type) (enc:TypeId × Value->H) (W:World) (base:Nat) (args:Array Value) (g gs:List (DataW H)) (a:List MemPlace)
  (b:∀ (j:Nat) t v,Tryz.f3.params[j]?=some t->args[j]?=some v->Value.okWide Tryz.prog W .any base t v)
  (i:DataW.Whole enc Tryz.prog Tryz.f3.params.toList Rows.editsSpec.vars false W args.toList g gs a) (z:Rows.uptoSmall H (g++gs)=true) (u:laidMetH Tryz.prog Rows.editsUptoRow.laid W) :
  Calls Tryz.prog 3 args W λe m=>∃ v,e=.returned v/\Rows.editsSpec.post enc Tryz.prog Tryz.f3 false true false false W args v m:=by
 have c:=i;have d:=i.lt;obtain ⟨p,q,KI,r,rfl,s,o⟩:=i;have n:DataW.TrodAll enc Tryz.prog W 0 (λ_=>true) true Tryz.f3.params.toList args.toList g p:=KI;rw [Tryz.params3] at n b;obtain ⟨v0,d0,rfl,rfl,h0⟩:=trodAll_one n;obtain ⟨rfl,rfl⟩:=trodVars_none r;obtain ⟨x,len,l,QT,Q0,S,rfl,Q4,w⟩:=mm (b 0 22 v0 rfl rfl) h0;have f:=rA z;simp only [iq,Rows.uptoBulkAll] at f;clear KI;simp only [iq] at c d;obtain ⟨y,k⟩:=rU u;refine (KG x len l QT Q0 S W y k (by omega) w).m λe m ⟨he,f⟩=>?_;subst he;exact ⟨_,rfl,_,_,_,[],_,[],c,trodAll_mk1 (shut_bool Tryz.underlying4 _),trodAll_mk1 (Below.trod a7 (by kernel_rfl) (rA (by kernel_rfl)) h0 f d),rfl,f.frame _,λh=>by cases h⟩
def qR (a:Os):laidMetH Tryz.prog Rows.editsUptoRow.laid ((World.doorLaid Tryz.prog 400 a).forCall (λ_ _=>0) ⟨#[],#[.slice none 0 0],[]⟩).memory:=
 laidMetH_of_parts3 (fuel:=8) (laidMet_of_run' 8 (by kernel_rfl) (by kernel_rfl)) (by kernel_rfl) (by kernel_rfl)
def reads (b:Os) {H:Type} (enc:TypeId × Value->H):∃ a,DataW.whole enc Tryz.prog ((World.doorLaid Tryz.prog 400 b).forCall (λ_ _=>0) ⟨#[],#[.slice none 0 0],[]⟩).memory Tryz.f3.params.toList Rows.editsSpec.vars false #[Value.slice none 0 0].toList 8=some ([.nil],[],a):=
 ⟨[],by kernel_rfl⟩
def bd (d:Os) (a:d.Started) (H:Type) (enc:TypeId × Value->H) (F:Stop.Interp) :
  ReturnsInHanded {} Tryz.checked d 3 .any ((Rows.OpenSpec.upto Rows.editsSpec).preRow enc Tryz.prog Tryz.f3 Rows.editsUptoRow.domain false Rows.editsUptoRow.laid) (((Rows.OpenSpec.upto Rows.editsSpec).at F).post enc Tryz.prog Tryz.f3 false true false false):=by
 obtain ⟨f,i⟩:=reads d enc;refine returnsInHanded_of_row (C:=Tryz.checked) (s:=Rows.OpenSpec.upto Rows.editsSpec) own a (by kernel_rfl) Tryz.func3
  (witness_row_atRef (enc:=enc) (C:=Tryz.checked) false (World.doorLaid Tryz.prog 400 d) #[.slice none 0 0] rfl (by kernel_rfl) (by kernel_rfl) (by kernel_rfl)
   (OpenSpec.preRow_of_cond 8 i (by kernel_rfl) (λk hk=>by cases hk;kernel_rfl) (by kernel_rfl) (qR d))) ?_
 intro W base args g gs b e h _ c _ j _ _;exact aV H enc W base args g gs b e h (c _ rfl) j
end
end Go.Proofs.YtihgojcfpnhelaaGreatDoor
