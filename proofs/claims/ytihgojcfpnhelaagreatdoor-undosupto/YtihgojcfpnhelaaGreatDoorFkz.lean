import Derived.Test.YtihgojcfpnhelaaGreatDoorFk
set_option maxRecDepth 100000
set_option maxHeartbeats 4000000
set_option linter.all false
namespace Go.Proofs.YtihgojcfpnhelaaGreatDoor
open Go.RowKit
section
open Go.ChangeShapes Go.WideShapes Go.ChangeAt Go.RowKit
def said:Rows.UndosUptoSaid:=
 OpenClaim.holds_of_cond 10 Tryz.f10 rfl rfl rfl rfl rfl rfl rfl ⟨rfl,rfl,rfl,rfl,rfl⟩ rfl rfl rfl rfl rfl (by as_aux_lemma=>kernel_rfl) Tryz.func10 (by as_aux_lemma=>kernel_rfl)
  (rA (by as_aux_lemma=>kernel_rfl)) (by as_aux_lemma=>unfold Func.isWrapper;first|(rw [aB (by decide +kernel)];kernel_rfl)|(rw [aA (by decide +kernel)];exact ⟨rfl,rfl⟩))
  (λos started H enc _ F=>by as_aux_lemma=>rw [OpenClaim.pre_eq_preRow];exact bd os started H enc F)
end
end Go.Proofs.YtihgojcfpnhelaaGreatDoor
