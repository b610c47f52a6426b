import Derived.Test.YtihgojcfpnhelaaGreatDoorFlz
set_option maxRecDepth 100000
set_option maxHeartbeats 4000000
set_option linter.all false
namespace Go.Proofs.YtihgojcfpnhelaaGreatDoor
open Go.RowKit
section
open Go.ChangeShapes Go.WideShapes Go.ChangeAt Go.RowKit
def uf (f:FuncId) (a:Func) (c:Tryz.pinned.checked.prog.funcNamed "fields/fieldslaw.All" = some f) (b:Tryz.pinned.checked.prog.funcs[f]?=some a) :
  true=Tryz.pinned.checked.prog.looks []/\∀ (j:Nat) t,a.params[j]?=some t->Tryz.pinned.checked.prog.wantsStandIn t=false:=by
 obtain rfl:f=12:=dp ((show Tryz.prog.funcNamed "fields/fieldslaw.All" = some 12 by kernel_rfl).symm.t c) |>.symm;obtain rfl:a=Tryz.f12:=(dp (Tryz.func12.symm.t b)).symm;refine ⟨by kernel_rfl,λj t ht=>?_⟩;rw [Tryz.params12] at ht;obtain rfl:t=22:=(by simpa using Array.mem_of_getElem? ht);exact (show Tryz.prog.wantsStandIn 22=false by kernel_rfl)
theorem all_card:Rows.AllUptoCardSaid:=
 Claim7.holds_tied_plain_at .later [] _ _ _ _ said (λ_ h=>by cases h) (by kernel_rfl) (λ_ h=>by cases h) allUpto_row_tie rfl ⟨rfl,rfl⟩ (by kernel_rfl) rfl uf (by kernel_rfl)
end
end Go.Proofs.YtihgojcfpnhelaaGreatDoor
