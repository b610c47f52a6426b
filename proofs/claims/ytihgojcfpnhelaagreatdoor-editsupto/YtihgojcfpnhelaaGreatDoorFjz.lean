import Derived.Test.YtihgojcfpnhelaaGreatDoorFj
set_option maxRecDepth 100000
set_option maxHeartbeats 4000000
set_option linter.all false
namespace Go.Proofs.YtihgojcfpnhelaaGreatDoor
open Go.RowKit
section
open Go.ChangeShapes Go.WideShapes Go.ChangeAt Go.RowKit
def said:Rows.EditsUptoSaid:=
 OpenClaim.holds_of_cond 3 Tryz.f3 rfl rfl rfl rfl rfl rfl rfl ⟨rfl,rfl,rfl,rfl,rfl⟩ rfl rfl rfl rfl rfl xH Tryz.func3 xH
  (rA xH) Zm
  (λos started H enc _ F=>Zn)
end
end Go.Proofs.YtihgojcfpnhelaaGreatDoor
