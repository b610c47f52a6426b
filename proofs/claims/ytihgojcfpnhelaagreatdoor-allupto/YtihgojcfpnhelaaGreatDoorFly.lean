import Derived.Test.YtihgojcfpnhelaaGreatDoorFlz
set_option maxRecDepth 100000
set_option maxHeartbeats 4000000
set_option linter.all false
namespace Go.Proofs.YtihgojcfpnhelaaGreatDoor
open Go.RowKit
section
open Go.ChangeShapes Go.WideShapes Go.ChangeAt Go.RowKit
def uf (f:FuncId) (a:Func) (c:Tryz.pinned.checked.prog.funcNamed "fields/fieldslaw.All" = some f) (b:Tryz.pinned.checked.prog.funcs[f]?=some a) :
  true=Tryz.pinned.checked.prog.looks []/\∀ (j:Nat) t,a.params[j]?=some t->Tryz.pinned.checked.prog.wantsStandIn t=false:=by
 obtain rfl:f=12:=dp ((show Tryz.prog.funcNamed "fields/fieldslaw.All" = some 12 from aD).symm.t c) |>.symm;obtain rfl:a=Tryz.f12:=(dp (Tryz.func12.symm.t b)).symm;refine ⟨aD,λj t ht=>?_⟩;rw [Tryz.params12] at ht;obtain rfl:t=22:=Ny;exact (show Tryz.prog.wantsStandIn 22=false from aD)
theorem all_card:Rows.AllUptoCardSaid:=
 Claim7.holds_tied_plain_at .later [] _ _ _ _ said (λ_ h=>ir) aD (λ_ h=>ir) allUpto_row_tie rfl ⟨rfl,rfl⟩ aD rfl uf aD
end
end Go.Proofs.YtihgojcfpnhelaaGreatDoor
