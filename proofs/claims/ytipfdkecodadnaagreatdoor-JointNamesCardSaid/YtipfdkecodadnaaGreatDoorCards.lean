/-
  DERIVED. GIVEN WITH THE SEED: THE CARDS: each row of YtipfdkecodadnaaGreatDoorRows.lean that lists a variable, with what it lists TIED to the program's text (the seventh form; the later family's looks); each row that meets fmt, with fmt's text TOLD by the authors' own Lean function (tested against real Go, not proved from fmt's source: count such statements apart). THE CARD IS WHAT COUNTS. Prove the row's statement (the work); the ties are given (YtipfdkecodadnaaGreatDoorTie.lean); close each card by the builder's one call (the guide's Derived/Test/ToyasCard.lean, 'card_holds'). Laid BY PROGRAM, IN A SANDBOX (cutbox-door.mjs). By AI agents, Wed Nov 11 2026. No macro, syntax, notation, axiom, sorry.
-/
import Derived.Test.YtipfdkecodadnaaGreatDoorRows
import GoSem.ClaimSeven
namespace Go.Proofs.YtipfdkecodadnaaGreatDoor
namespace Rows

/-- THE TIED CARD OF 'spokeshavelaw03.JointChecks'. -/
def jointChecksCard : Claim7 := { stood := { row := jointChecksRow, standIns := [], harness := (true, "72bbd1c0c54453a2c2ecd22c6b9ae27e9a9d207e68d8161fe74609dccc82cdec"), looks := false }, kinds := [], alts := [], laidByText := true, laidKinds := [.data, .data, .data, .data], laidTests := true, laidLooks := .later }
def JointChecksCardSaid : Prop := Claim7.holds Tryz.pinned (.plain (OpenSpec.ofChange jointChecksSpec)) jointChecksCard

/-- THE TIED CARD OF 'spokeshavelaw03.JointNames'. -/
def jointNamesCard : Claim7 := { stood := { row := jointNamesRow, standIns := [], harness := (true, "72bbd1c0c54453a2c2ecd22c6b9ae27e9a9d207e68d8161fe74609dccc82cdec"), looks := false }, kinds := [], alts := [], laidByText := true, laidKinds := [.data, .data, .data, .data], laidTests := true, laidLooks := .later }
def JointNamesCardSaid : Prop := Claim7.holds Tryz.pinned (.plain (OpenSpec.ofChange jointNamesSpec)) jointNamesCard

/-- THE TIED CARD OF 'spokeshavelaw03.JointFree'. -/
def jointFreeCard : Claim7 := { stood := { row := jointFreeRow, standIns := [], harness := (true, "72bbd1c0c54453a2c2ecd22c6b9ae27e9a9d207e68d8161fe74609dccc82cdec"), looks := false }, kinds := [], alts := [], laidByText := true, laidKinds := [.data, .data, .data, .data], laidTests := true, laidLooks := .later }
def JointFreeCardSaid : Prop := Claim7.holds Tryz.pinned (.plain (OpenSpec.ofChange jointFreeSpec)) jointFreeCard

/-- THE TIED CARD OF 'spokeshavelaw03.JointFreeAt'. -/
def jointFreeAtCard : Claim7 := { stood := { row := jointFreeAtRow, standIns := [], harness := (true, "72bbd1c0c54453a2c2ecd22c6b9ae27e9a9d207e68d8161fe74609dccc82cdec"), looks := false }, kinds := [], alts := [], laidByText := true, laidKinds := [.data, .data, .data, .data], laidTests := true, laidLooks := .later }
def JointFreeAtCardSaid : Prop := Claim7.holds Tryz.pinned (.plain (OpenSpec.ofChange jointFreeAtSpec)) jointFreeAtCard

/-- THE TIED CARD OF 'spokeshavelaw03.JointAreas'. -/
def jointAreasCard : Claim7 := { stood := { row := jointAreasRow, standIns := [], harness := (true, "72bbd1c0c54453a2c2ecd22c6b9ae27e9a9d207e68d8161fe74609dccc82cdec"), looks := false }, kinds := [], alts := [], laidByText := true, laidKinds := [.data, .data, .data, .data], laidTests := true, laidLooks := .later }
def JointAreasCardSaid : Prop := Claim7.holds Tryz.pinned (.plain (OpenSpec.ofChange jointAreasSpec)) jointAreasCard

/-- THE TIED CARD OF 'spokeshavelaw03.JointStandards'. -/
def jointStandardsCard : Claim7 := { stood := { row := jointStandardsRow, standIns := [], harness := (true, "72bbd1c0c54453a2c2ecd22c6b9ae27e9a9d207e68d8161fe74609dccc82cdec"), looks := false }, kinds := [], alts := [], laidByText := true, laidKinds := [.data, .data, .data, .data], laidTests := true, laidLooks := .later }
def JointStandardsCardSaid : Prop := Claim7.holds Tryz.pinned (.plain (OpenSpec.ofChange jointStandardsSpec)) jointStandardsCard

/-- THE TIED CARD OF 'spokeshavelaw03.JointOpposite'. -/
def jointOppositeCard : Claim7 := { stood := { row := jointOppositeRow, standIns := [], harness := (true, "72bbd1c0c54453a2c2ecd22c6b9ae27e9a9d207e68d8161fe74609dccc82cdec"), looks := false }, kinds := [], alts := [], laidByText := true, laidKinds := [.data, .data, .data, .data], laidTests := true, laidLooks := .later }
def JointOppositeCardSaid : Prop := Claim7.holds Tryz.pinned (.plain (OpenSpec.ofChange jointOppositeSpec)) jointOppositeCard

/-- THE SECOND FORM's CARD OF 'spokeshavelaw03.JointChecks'. -/
def jointChecksUptoCard : Claim7 := { stood := { row := jointChecksUptoRow, standIns := [], harness := (true, "72bbd1c0c54453a2c2ecd22c6b9ae27e9a9d207e68d8161fe74609dccc82cdec"), looks := false }, kinds := [], alts := [], laidByText := true, laidKinds := [.data, .data, .data, .data], laidTests := true, laidLooks := .later }
def JointChecksUptoCardSaid : Prop := Claim7.holds Tryz.pinned (.plain (OpenSpec.upto jointChecksSpec)) jointChecksUptoCard

/-- THE SECOND FORM's CARD OF 'spokeshavelaw03.JointNames'. -/
def jointNamesUptoCard : Claim7 := { stood := { row := jointNamesUptoRow, standIns := [], harness := (true, "72bbd1c0c54453a2c2ecd22c6b9ae27e9a9d207e68d8161fe74609dccc82cdec"), looks := false }, kinds := [], alts := [], laidByText := true, laidKinds := [.data, .data, .data, .data], laidTests := true, laidLooks := .later }
def JointNamesUptoCardSaid : Prop := Claim7.holds Tryz.pinned (.plain (OpenSpec.upto jointNamesSpec)) jointNamesUptoCard

/-- THE SECOND FORM's CARD OF 'spokeshavelaw03.JointFree'. -/
def jointFreeUptoCard : Claim7 := { stood := { row := jointFreeUptoRow, standIns := [], harness := (true, "72bbd1c0c54453a2c2ecd22c6b9ae27e9a9d207e68d8161fe74609dccc82cdec"), looks := false }, kinds := [], alts := [], laidByText := true, laidKinds := [.data, .data, .data, .data], laidTests := true, laidLooks := .later }
def JointFreeUptoCardSaid : Prop := Claim7.holds Tryz.pinned (.plain (OpenSpec.upto jointFreeSpec)) jointFreeUptoCard

/-- THE SECOND FORM's CARD OF 'spokeshavelaw03.JointFreeAt'. -/
def jointFreeAtUptoCard : Claim7 := { stood := { row := jointFreeAtUptoRow, standIns := [], harness := (true, "72bbd1c0c54453a2c2ecd22c6b9ae27e9a9d207e68d8161fe74609dccc82cdec"), looks := false }, kinds := [], alts := [], laidByText := true, laidKinds := [.data, .data, .data, .data], laidTests := true, laidLooks := .later }
def JointFreeAtUptoCardSaid : Prop := Claim7.holds Tryz.pinned (.plain (OpenSpec.upto jointFreeAtSpec)) jointFreeAtUptoCard

/-- THE SECOND FORM's CARD OF 'spokeshavelaw03.JointAreas'. -/
def jointAreasUptoCard : Claim7 := { stood := { row := jointAreasUptoRow, standIns := [], harness := (true, "72bbd1c0c54453a2c2ecd22c6b9ae27e9a9d207e68d8161fe74609dccc82cdec"), looks := false }, kinds := [], alts := [], laidByText := true, laidKinds := [.data, .data, .data, .data], laidTests := true, laidLooks := .later }
def JointAreasUptoCardSaid : Prop := Claim7.holds Tryz.pinned (.plain (OpenSpec.upto jointAreasSpec)) jointAreasUptoCard

/-- THE SECOND FORM's CARD OF 'spokeshavelaw03.JointStandards'. -/
def jointStandardsUptoCard : Claim7 := { stood := { row := jointStandardsUptoRow, standIns := [], harness := (true, "72bbd1c0c54453a2c2ecd22c6b9ae27e9a9d207e68d8161fe74609dccc82cdec"), looks := false }, kinds := [], alts := [], laidByText := true, laidKinds := [.data, .data, .data, .data], laidTests := true, laidLooks := .later }
def JointStandardsUptoCardSaid : Prop := Claim7.holds Tryz.pinned (.plain (OpenSpec.upto jointStandardsSpec)) jointStandardsUptoCard

/-- THE SECOND FORM's CARD OF 'spokeshavelaw03.JointOpposite'. -/
def jointOppositeUptoCard : Claim7 := { stood := { row := jointOppositeUptoRow, standIns := [], harness := (true, "72bbd1c0c54453a2c2ecd22c6b9ae27e9a9d207e68d8161fe74609dccc82cdec"), looks := false }, kinds := [], alts := [], laidByText := true, laidKinds := [.data, .data, .data, .data], laidTests := true, laidLooks := .later }
def JointOppositeUptoCardSaid : Prop := Claim7.holds Tryz.pinned (.plain (OpenSpec.upto jointOppositeSpec)) jointOppositeUptoCard
end Rows
end Go.Proofs.YtipfdkecodadnaaGreatDoor
