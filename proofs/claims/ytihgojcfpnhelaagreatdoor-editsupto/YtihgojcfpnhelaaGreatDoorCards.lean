/-
  DERIVED. GIVEN WITH THE SEED: THE CARDS: each row of YtihgojcfpnhelaaGreatDoorRows.lean that lists a variable, with what it lists TIED to the program's text (the seventh form; the later family's looks); each row that meets fmt, with fmt's text TOLD by the authors' own Lean function (tested against real Go, not proved from fmt's source: count such statements apart). THE CARD IS WHAT COUNTS. Prove the row's statement (the work); the ties are given (YtihgojcfpnhelaaGreatDoorTie.lean); close each card by the builder's one call (the guide's Derived/Test/ToyasCard.lean, 'card_holds'). Laid BY PROGRAM, IN A SANDBOX (cutbox-door.mjs). By AI agents, Wed Nov 11 2026. No macro, syntax, notation, axiom, sorry.
-/
import Derived.Test.YtihgojcfpnhelaaGreatDoorRows
import GoSem.ClaimSeven
namespace Go.Proofs.YtihgojcfpnhelaaGreatDoor
namespace Rows

/-- THE TIED CARD OF 'fieldslaw.Edits'. -/
def editsCard : Claim7 := { stood := { row := editsRow, standIns := [], harness := (true, "498c1b04a48beef3a0dd85e3ce95e470bd11d70ef5ce7eb13a78060008ae00c4"), looks := true }, kinds := [], alts := [], laidByText := true, laidKinds := [.data, .data, .data, .sentinel, .sentinel, .data, .data, .data, .data, .data], laidTests := true, laidLooks := .later }
def EditsCardSaid : Prop := Claim7.holds Tryz.pinned (.plain (OpenSpec.ofChange editsSpec)) editsCard

/-- THE TIED CARD OF 'fieldskeep.Plain'. -/
def plainCard : Claim7 := { stood := { row := plainRow, standIns := [], harness := (true, "498c1b04a48beef3a0dd85e3ce95e470bd11d70ef5ce7eb13a78060008ae00c4"), looks := true }, kinds := [], alts := [], laidByText := true, laidKinds := [.data, .data, .data, .sentinel, .sentinel, .data, .data, .data, .data, .data], laidTests := true, laidLooks := .later }
def PlainCardSaid : Prop := Claim7.holds Tryz.pinned (.plain (OpenSpec.ofChange plainSpec)) plainCard

/-- THE TIED CARD OF 'fieldskeep.Known'. -/
def knownCard : Claim7 := { stood := { row := knownRow, standIns := [], harness := (true, "498c1b04a48beef3a0dd85e3ce95e470bd11d70ef5ce7eb13a78060008ae00c4"), looks := true }, kinds := [], alts := [], laidByText := true, laidKinds := [.data, .data, .data, .sentinel, .sentinel, .data, .data, .data, .data, .data], laidTests := true, laidLooks := .later }
def KnownCardSaid : Prop := Claim7.holds Tryz.pinned (.plain (OpenSpec.ofChange knownSpec)) knownCard

/-- THE TIED CARD OF 'fieldskeep.Round'. -/
def roundCard : Claim7 := { stood := { row := roundRow, standIns := [], harness := (true, "498c1b04a48beef3a0dd85e3ce95e470bd11d70ef5ce7eb13a78060008ae00c4"), looks := true }, kinds := [], alts := [], laidByText := true, laidKinds := [.data, .data, .data, .sentinel, .sentinel, .data, .data, .data, .data, .data], laidTests := true, laidLooks := .later }
def RoundCardSaid : Prop := Claim7.holds Tryz.pinned (.plain (OpenSpec.ofChange roundSpec)) roundCard

/-- THE TIED CARD OF 'fieldskeep.Ring'. -/
def ringCard : Claim7 := { stood := { row := ringRow, standIns := [], harness := (true, "498c1b04a48beef3a0dd85e3ce95e470bd11d70ef5ce7eb13a78060008ae00c4"), looks := true }, kinds := [], alts := [], laidByText := true, laidKinds := [.data, .data, .data, .sentinel, .sentinel, .data, .data, .data, .data, .data], laidTests := true, laidLooks := .later }
def RingCardSaid : Prop := Claim7.holds Tryz.pinned (.plain (OpenSpec.ofChange ringSpec)) ringCard

/-- THE TIED CARD OF 'fieldskeep.Fresh'. -/
def freshCard : Claim7 := { stood := { row := freshRow, standIns := [], harness := (true, "498c1b04a48beef3a0dd85e3ce95e470bd11d70ef5ce7eb13a78060008ae00c4"), looks := true }, kinds := [], alts := [], laidByText := true, laidKinds := [.data, .data, .data, .sentinel, .sentinel, .data, .data, .data, .data, .data], laidTests := true, laidLooks := .later }
def FreshCardSaid : Prop := Claim7.holds Tryz.pinned (.plain (OpenSpec.ofChange freshSpec)) freshCard

/-- THE TIED CARD OF 'fieldskeep.Renamed'. -/
def renamedCard : Claim7 := { stood := { row := renamedRow, standIns := [], harness := (true, "498c1b04a48beef3a0dd85e3ce95e470bd11d70ef5ce7eb13a78060008ae00c4"), looks := true }, kinds := [], alts := [], laidByText := true, laidKinds := [.data, .data, .data, .sentinel, .sentinel, .data, .data, .data, .data, .data], laidTests := true, laidLooks := .later }
def RenamedCardSaid : Prop := Claim7.holds Tryz.pinned (.plain (OpenSpec.ofChange renamedSpec)) renamedCard

/-- THE TIED CARD OF 'fieldslaw.Undos'. -/
def undosCard : Claim7 := { stood := { row := undosRow, standIns := [], harness := (true, "498c1b04a48beef3a0dd85e3ce95e470bd11d70ef5ce7eb13a78060008ae00c4"), looks := true }, kinds := [], alts := [], laidByText := true, laidKinds := [.data, .data, .data, .sentinel, .sentinel, .data, .data, .data, .data, .data], laidTests := true, laidLooks := .later }
def UndosCardSaid : Prop := Claim7.holds Tryz.pinned (.plain (OpenSpec.ofChange undosSpec)) undosCard

/-- THE TIED CARD OF 'fieldskeep.Back'. -/
def backCard : Claim7 := { stood := { row := backRow, standIns := [], harness := (true, "498c1b04a48beef3a0dd85e3ce95e470bd11d70ef5ce7eb13a78060008ae00c4"), looks := true }, kinds := [], alts := [], laidByText := true, laidKinds := [.data, .data, .data, .sentinel, .sentinel, .data, .data, .data, .data, .data], laidTests := true, laidLooks := .later }
def BackCardSaid : Prop := Claim7.holds Tryz.pinned (.plain (OpenSpec.ofChange backSpec)) backCard

/-- THE TIED CARD OF 'fieldslaw.All'. -/
def allCard : Claim7 := { stood := { row := allRow, standIns := [], harness := (true, "498c1b04a48beef3a0dd85e3ce95e470bd11d70ef5ce7eb13a78060008ae00c4"), looks := true }, kinds := [], alts := [], laidByText := true, laidKinds := [.data, .data, .data, .sentinel, .sentinel, .data, .data, .data, .data, .data], laidTests := true, laidLooks := .later }
def AllCardSaid : Prop := Claim7.holds Tryz.pinned (.plain (OpenSpec.ofChange allSpec)) allCard

/-- THE TIED CARD OF 'fieldskeep.Group'. -/
def groupCard : Claim7 := { stood := { row := groupRow, standIns := [], harness := (true, "498c1b04a48beef3a0dd85e3ce95e470bd11d70ef5ce7eb13a78060008ae00c4"), looks := true }, kinds := [], alts := [], laidByText := true, laidKinds := [.data, .data, .data, .sentinel, .sentinel, .data, .data, .data, .data, .data], laidTests := true, laidLooks := .later }
def GroupCardSaid : Prop := Claim7.holds Tryz.pinned (.plain (OpenSpec.ofChange groupSpec)) groupCard

/-- THE SECOND FORM's CARD OF 'fieldslaw.Edits'. -/
def editsUptoCard : Claim7 := { stood := { row := editsUptoRow, standIns := [], harness := (true, "498c1b04a48beef3a0dd85e3ce95e470bd11d70ef5ce7eb13a78060008ae00c4"), looks := true }, kinds := [], alts := [], laidByText := true, laidKinds := [.data, .data, .data, .sentinel, .sentinel, .data, .data, .data, .data, .data], laidTests := true, laidLooks := .later }
def EditsUptoCardSaid : Prop := Claim7.holds Tryz.pinned (.plain (OpenSpec.upto editsSpec)) editsUptoCard

/-- THE SECOND FORM's CARD OF 'fieldskeep.Plain'. -/
def plainUptoCard : Claim7 := { stood := { row := plainUptoRow, standIns := [], harness := (true, "498c1b04a48beef3a0dd85e3ce95e470bd11d70ef5ce7eb13a78060008ae00c4"), looks := true }, kinds := [], alts := [], laidByText := true, laidKinds := [.data, .data, .data, .sentinel, .sentinel, .data, .data, .data, .data, .data], laidTests := true, laidLooks := .later }
def PlainUptoCardSaid : Prop := Claim7.holds Tryz.pinned (.plain (OpenSpec.upto plainSpec)) plainUptoCard

/-- THE SECOND FORM's CARD OF 'fieldskeep.Known'. -/
def knownUptoCard : Claim7 := { stood := { row := knownUptoRow, standIns := [], harness := (true, "498c1b04a48beef3a0dd85e3ce95e470bd11d70ef5ce7eb13a78060008ae00c4"), looks := true }, kinds := [], alts := [], laidByText := true, laidKinds := [.data, .data, .data, .sentinel, .sentinel, .data, .data, .data, .data, .data], laidTests := true, laidLooks := .later }
def KnownUptoCardSaid : Prop := Claim7.holds Tryz.pinned (.plain (OpenSpec.upto knownSpec)) knownUptoCard

/-- THE SECOND FORM's CARD OF 'fieldskeep.Round'. -/
def roundUptoCard : Claim7 := { stood := { row := roundUptoRow, standIns := [], harness := (true, "498c1b04a48beef3a0dd85e3ce95e470bd11d70ef5ce7eb13a78060008ae00c4"), looks := true }, kinds := [], alts := [], laidByText := true, laidKinds := [.data, .data, .data, .sentinel, .sentinel, .data, .data, .data, .data, .data], laidTests := true, laidLooks := .later }
def RoundUptoCardSaid : Prop := Claim7.holds Tryz.pinned (.plain (OpenSpec.upto roundSpec)) roundUptoCard

/-- THE SECOND FORM's CARD OF 'fieldskeep.Ring'. -/
def ringUptoCard : Claim7 := { stood := { row := ringUptoRow, standIns := [], harness := (true, "498c1b04a48beef3a0dd85e3ce95e470bd11d70ef5ce7eb13a78060008ae00c4"), looks := true }, kinds := [], alts := [], laidByText := true, laidKinds := [.data, .data, .data, .sentinel, .sentinel, .data, .data, .data, .data, .data], laidTests := true, laidLooks := .later }
def RingUptoCardSaid : Prop := Claim7.holds Tryz.pinned (.plain (OpenSpec.upto ringSpec)) ringUptoCard

/-- THE SECOND FORM's CARD OF 'fieldskeep.Fresh'. -/
def freshUptoCard : Claim7 := { stood := { row := freshUptoRow, standIns := [], harness := (true, "498c1b04a48beef3a0dd85e3ce95e470bd11d70ef5ce7eb13a78060008ae00c4"), looks := true }, kinds := [], alts := [], laidByText := true, laidKinds := [.data, .data, .data, .sentinel, .sentinel, .data, .data, .data, .data, .data], laidTests := true, laidLooks := .later }
def FreshUptoCardSaid : Prop := Claim7.holds Tryz.pinned (.plain (OpenSpec.upto freshSpec)) freshUptoCard

/-- THE SECOND FORM's CARD OF 'fieldskeep.Renamed'. -/
def renamedUptoCard : Claim7 := { stood := { row := renamedUptoRow, standIns := [], harness := (true, "498c1b04a48beef3a0dd85e3ce95e470bd11d70ef5ce7eb13a78060008ae00c4"), looks := true }, kinds := [], alts := [], laidByText := true, laidKinds := [.data, .data, .data, .sentinel, .sentinel, .data, .data, .data, .data, .data], laidTests := true, laidLooks := .later }
def RenamedUptoCardSaid : Prop := Claim7.holds Tryz.pinned (.plain (OpenSpec.upto renamedSpec)) renamedUptoCard

/-- THE SECOND FORM's CARD OF 'fieldslaw.Undos'. -/
def undosUptoCard : Claim7 := { stood := { row := undosUptoRow, standIns := [], harness := (true, "498c1b04a48beef3a0dd85e3ce95e470bd11d70ef5ce7eb13a78060008ae00c4"), looks := true }, kinds := [], alts := [], laidByText := true, laidKinds := [.data, .data, .data, .sentinel, .sentinel, .data, .data, .data, .data, .data], laidTests := true, laidLooks := .later }
def UndosUptoCardSaid : Prop := Claim7.holds Tryz.pinned (.plain (OpenSpec.upto undosSpec)) undosUptoCard

/-- THE SECOND FORM's CARD OF 'fieldskeep.Back'. -/
def backUptoCard : Claim7 := { stood := { row := backUptoRow, standIns := [], harness := (true, "498c1b04a48beef3a0dd85e3ce95e470bd11d70ef5ce7eb13a78060008ae00c4"), looks := true }, kinds := [], alts := [], laidByText := true, laidKinds := [.data, .data, .data, .sentinel, .sentinel, .data, .data, .data, .data, .data], laidTests := true, laidLooks := .later }
def BackUptoCardSaid : Prop := Claim7.holds Tryz.pinned (.plain (OpenSpec.upto backSpec)) backUptoCard

/-- THE SECOND FORM's CARD OF 'fieldslaw.All'. -/
def allUptoCard : Claim7 := { stood := { row := allUptoRow, standIns := [], harness := (true, "498c1b04a48beef3a0dd85e3ce95e470bd11d70ef5ce7eb13a78060008ae00c4"), looks := true }, kinds := [], alts := [], laidByText := true, laidKinds := [.data, .data, .data, .sentinel, .sentinel, .data, .data, .data, .data, .data], laidTests := true, laidLooks := .later }
def AllUptoCardSaid : Prop := Claim7.holds Tryz.pinned (.plain (OpenSpec.upto allSpec)) allUptoCard

/-- THE SECOND FORM's CARD OF 'fieldskeep.Group'. -/
def groupUptoCard : Claim7 := { stood := { row := groupUptoRow, standIns := [], harness := (true, "498c1b04a48beef3a0dd85e3ce95e470bd11d70ef5ce7eb13a78060008ae00c4"), looks := true }, kinds := [], alts := [], laidByText := true, laidKinds := [.data, .data, .data, .sentinel, .sentinel, .data, .data, .data, .data, .data], laidTests := true, laidLooks := .later }
def GroupUptoCardSaid : Prop := Claim7.holds Tryz.pinned (.plain (OpenSpec.upto groupSpec)) groupUptoCard
end Rows
end Go.Proofs.YtihgojcfpnhelaaGreatDoor
