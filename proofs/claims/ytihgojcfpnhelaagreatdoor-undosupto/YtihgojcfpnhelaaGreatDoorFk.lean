import Derived.Test.YtihgojcfpnhelaaGreatDoorRf
import Derived.Test.YtihgojcfpnhelaaGreatDoorFi
import Derived.Test.YtihgojcfpnhelaaGreatDoorCards
set_option maxRecDepth 100000
set_option maxHeartbeats 4000000
set_option linter.all false
namespace Go.Proofs.YtihgojcfpnhelaaGreatDoor
open Go.RowKit
section
open Go.ChangeShapes Go.WideShapes Go.ChangeAt Go.RowKit
def own:ownKnob Tryz.prog.godebug=none:=aD
def laidOut:laidOutB Tryz.prog=true:=aD
def BG:Tryz.prog.cellsOf 75=3:=aD
def F9:Tryz.prog.cellsOf 3=1:=aD
def Ga:Tryz.prog.cellsOf 9=1:=aD
def wf_i64 {n:Int} (hw:(Lit.int .i64 n).wf=true):-9223372036854775808<=n/\n<=9223372036854775807:=MW
def MK {H:Type} (d:DataW H):1<=Rows.uptoBulk d:=MT
def Gb {H:Type}:∀ l:List (DataW H),l.length<=Rows.uptoBulkAll l
 | []=>bE _
 | x::r=>MJ
def mm {H:Type} {enc:TypeId × Value->H} {W:World} {r:Reach} {l:Nat} {v:Value} {d:DataW H} {i:List MemPlace} (b:Value.okWide Tryz.prog W r l 22 v) (h:DataW.Trod enc Tryz.prog W 0 (λ_=>true) true 22 v d i) :
  ∃ (c:Option Addr) (len cap:Nat) (K A:Nat->Int) (S:Nat->By),v=.slice c len cap/\len<=Rows.uptoBulk d/\xY W c len K A S:=by
 obtain ⟨c,len,cap,rfl⟩:=okWide_slice yu b;obtain ⟨fuel,o⟩:=h;rcases Deep.open_slice yu o with ⟨hc,_⟩|⟨a,g,e,m,n,D,Pl,hc,_,q,p,SJ,hd,od⟩
 ·exact My
 ·exact Mm
def contract (H:Type) (enc:TypeId × Value->H) (W:World) (base:Nat) (args:Array Value) (g gs:List (DataW H)) (a:List MemPlace)
  (b:∀ (j:Nat) t v,Tryz.f10.params[j]?=some t->args[j]?=some v->Value.okWide Tryz.prog W .any base t v)
  (i:DataW.Whole enc Tryz.prog Tryz.f10.params.toList Rows.undosSpec.vars false W args.toList g gs a) (z:Rows.uptoSmall H (g++gs)=true) (u:laidMetH Tryz.prog Rows.undosUptoRow.laid W) :
  Calls Tryz.prog 10 args W λe m=>∃ v,e=.returned v/\Rows.undosSpec.post enc Tryz.prog Tryz.f10 false true false false W args v m:=by
 have c:=i;have d:=i.lt;obtain ⟨p,q,KI,r,rfl,s,o⟩:=i;have n:DataW.TrodAll enc Tryz.prog W 0 (λ_=>true) true Tryz.f10.params.toList args.toList g p:=KI;rw [Tryz.params10] at n b;obtain ⟨v0,d0,rfl,rfl,h0⟩:=trodAll_one n;obtain ⟨rfl,rfl⟩:=trodVars_none r;obtain ⟨x,len,l,K,A,S,rfl,B,w⟩:=mm (b 0 22 v0 rfl rfl) h0;have f:=rA z;simp only [iq,Rows.uptoBulkAll] at f;clear KI;simp only [iq] at c d;obtain ⟨y,k⟩:=rU u;refine (KH x len l K A S W y k ae w).m λe m ⟨he,f⟩=>?_;subst he;exact ⟨_,rfl,_,_,_,[],_,[],c,trodAll_mk1 (shut_bool Tryz.underlying4 _),trodAll_mk1 (Below.trod laidOut aD (rA aD) h0 f d),rfl,f.frame _,λh=>ir⟩
def qR (a:Os):laidMetH Tryz.prog Rows.undosUptoRow.laid ((World.doorLaid Tryz.prog 400 a).forCall (λ_ _=>0) ⟨#[],#[.slice none 0 0],[]⟩).memory:=
 laidMetH_of_parts3 (fuel:=8) (laidMet_of_run' 8 aD aD) aD aD
def reads (b:Os) {H:Type} (enc:TypeId × Value->H):∃ a,DataW.whole enc Tryz.prog ((World.doorLaid Tryz.prog 400 b).forCall (λ_ _=>0) ⟨#[],#[.slice none 0 0],[]⟩).memory Tryz.f10.params.toList Rows.undosSpec.vars false #[Value.slice none 0 0].toList 8=some ([.nil],[],a):=
 ⟨[],aD⟩
def lifted (d:Os) (a:d.Started) (H:Type) (enc:TypeId × Value->H) (F:Stop.Interp) :
  ReturnsInHanded {} Tryz.checked d 10 .any ((Rows.OpenSpec.upto Rows.undosSpec).preRow enc Tryz.prog Tryz.f10 Rows.undosUptoRow.domain false Rows.undosUptoRow.laid) (((Rows.OpenSpec.upto Rows.undosSpec).at F).post enc Tryz.prog Tryz.f10 false true false false):=by
 obtain ⟨f,i⟩:=reads d enc;refine returnsInHanded_of_row (C:=Tryz.checked) (s:=Rows.OpenSpec.upto Rows.undosSpec) own a aD Tryz.func10
  (witness_row_atRef (enc:=enc) (C:=Tryz.checked) false (World.doorLaid Tryz.prog 400 d) #[.slice none 0 0] rfl aD aD aD
   (OpenSpec.preRow_of_cond 8 i aD (λk hk=>NZ) aD (qR d))) ?_
 intro W base args g gs b e h _ c _ j _ _;exact contract H enc W base args g gs b e h (c _ rfl) j
end
end Go.Proofs.YtihgojcfpnhelaaGreatDoor
