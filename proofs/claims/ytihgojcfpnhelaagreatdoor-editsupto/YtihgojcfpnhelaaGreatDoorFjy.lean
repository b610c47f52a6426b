import Derived.Test.YtihgojcfpnhelaaGreatDoorFjz
set_option maxRecDepth 100000
set_option maxHeartbeats 4000000
set_option linter.all false
namespace Go.Proofs.YtihgojcfpnhelaaGreatDoor
open Go.RowKit
section
open Go.ChangeShapes Go.WideShapes Go.ChangeAt Go.RowKit
def uf (f:FuncId) (a:Func) (c:Tryz.pinned.checked.prog.funcNamed "fields/fieldslaw.Edits" = some f) (b:Tryz.pinned.checked.prog.funcs[f]?=some a) :
  true=Tryz.pinned.checked.prog.looks []/\∀ (j:Nat) t,a.params[j]?=some t->Tryz.pinned.checked.prog.wantsStandIn t=false:=by
 obtain rfl:f=3:=dp ((show Tryz.prog.funcNamed "fields/fieldslaw.Edits" = some 3 from aD).symm.t c) |>.symm;obtain rfl:a=Tryz.f3:=(dp (Tryz.func3.symm.t b)).symm;refine ⟨aD,λj t ht=>?_⟩;rw [Tryz.params3] at ht;obtain rfl:t=22:=Ny;exact (show Tryz.prog.wantsStandIn 22=false from aD)
theorem edits_card:Rows.EditsUptoCardSaid:=
 Claim7.holds_tied_plain_at .later [] _ _ _ _ said (λ_ h=>ir) aD (λ_ h=>ir) editsUpto_row_tie rfl ⟨rfl,rfl⟩ aD rfl uf aD
end
end Go.Proofs.YtihgojcfpnhelaaGreatDoor
