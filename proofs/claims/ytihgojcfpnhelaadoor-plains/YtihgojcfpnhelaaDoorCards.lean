/-
  DERIVED. GIVEN WITH THE SEED: THE CARDS: each row of YtihgojcfpnhelaaDoorRows.lean that lists a variable, with what it lists TIED to the program's text (the seventh form; the later family's looks); each row that meets fmt, with fmt's text TOLD by the authors' own Lean function (tested against real Go, not proved from fmt's source: count such statements apart). THE CARD IS WHAT COUNTS. Prove the row's statement (the work); the ties are given (YtihgojcfpnhelaaDoorTie.lean); close each card by the builder's one call (the guide's Derived/Test/ToyasCard.lean, 'card_holds'). Laid BY PROGRAM, IN A SANDBOX (cutbox-door.mjs). By AI agents, Wed Nov 11 2026. No macro, syntax, notation, axiom, sorry.
-/
import Derived.Test.YtihgojcfpnhelaaDoorRows
import GoSem.ClaimSeven
namespace Go.Proofs.YtihgojcfpnhelaaDoor
namespace Rows

/-- THE TIED CARD OF 'fieldslaw.Plains'. -/
def plainsCard : Claim7 := { stood := { row := plainsRow, standIns := [], harness := (true, "508751adc8a1060e2b2e207f48d957e76fd08aedbac603e476ecd6894e28c67a"), looks := true }, kinds := [], alts := [], laidByText := true, laidKinds := [.data, .data, .data, .sentinel, .sentinel, .data, .data, .data, .data], laidTests := true, laidLooks := .later }
def PlainsCardSaid : Prop := Claim7.holds Tryd.pinned (.plain (OpenSpec.ofChange plainsSpec)) plainsCard

/-- THE SECOND FORM's CARD OF 'fieldslaw.Plains'. -/
def plainsUptoCard : Claim7 := { stood := { row := plainsUptoRow, standIns := [], harness := (true, "508751adc8a1060e2b2e207f48d957e76fd08aedbac603e476ecd6894e28c67a"), looks := true }, kinds := [], alts := [], laidByText := true, laidKinds := [.data, .data, .data, .sentinel, .sentinel, .data, .data, .data, .data], laidTests := true, laidLooks := .later }
def PlainsUptoCardSaid : Prop := Claim7.holds Tryd.pinned (.plain (OpenSpec.upto plainsSpec)) plainsUptoCard
end Rows
end Go.Proofs.YtihgojcfpnhelaaDoor
