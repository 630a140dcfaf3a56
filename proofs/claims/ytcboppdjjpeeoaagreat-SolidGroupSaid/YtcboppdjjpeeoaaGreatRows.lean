/-
  No cell of these rows narrows 'for every input' (looked for: loops, veiled, ifaces, maps, wideKeys, modest, calm, conditions, laid).
  DERIVED. THE GIVEN ROWS OF THIS SEAT. 5 by the template 'for every input the law returns true; each argument reads behind the call as it read before'; 0 by the template 'total and deterministic' (their statements: YtcboppdjjpeeoaaGreatTotals.lean).
  GIVEN WITH THE SEED: the statements are not yours to turn. If you find one false, say at which input.
  Laid BY PROGRAM, IN A SANDBOX (cutbox-rows.mjs): the forced cells as the released guide's own fill.sh prints them over the translation acd39232ab248b69… (all of the seat's roots in one cut). By AI agents, Wed Nov 11 2026. No macro, syntax, notation, axiom, sorry.
-/
import Derived.Test.YtcboppdjjpeeoaaGreatChecked
import GoSem.Claim
import GoSem.ClaimJoined
import GoSem.ClaimMapViews
import Derived.JoinedTies
import Derived.KernelRfl
namespace Go.Proofs.YtcboppdjjpeeoaaGreat
/- THE CELL 'sum', in the pinned program and in every row, IS THE sha256 OF THE DUMP (.gsa) THAT YtcboppdjjpeeoaaGreatProg.lean LOADS. Nothing in Lean hashes anything: it is a label: what it is worth is what the hold of that sum in a sandbox is worth. -/
noncomputable def Tryz.pinned : Pinned := { name := "ytcboppdjjpeeoaagreat", sum := "acd39232ab248b69195b5819526b1d82877c82ec1bc3a9582687242ae7851220", checked := Tryz.checked }
namespace Rows
def none {H : Type} : Left H := { results := [], args := [] }

/-- 'spokeshavelaw01.SolidCells': WHATEVER THE INPUT: true; the input reads as it did. -/
def solidCellsSpec : ChangeSpec := { name := "solidCells", fn := fun _ => fun
  | [d1, d2] => { results := [.lit (.bool true)], args := [d1, d2] }
  | _ => none }
def solidCellsRow : OpenClaim := { program := "ytcboppdjjpeeoaagreat", sum := "acd39232ab248b69195b5819526b1d82877c82ec1bc3a9582687242ae7851220", func := "spokeshave/spokeshavelaw01.SolidCells", spec := "solidCells", unfollowed := true, recurses := true, apart := false }
def SolidCellsSaid : Prop := solidCellsRow.holds Tryz.pinned (OpenSpec.ofChange solidCellsSpec)

/-- ITS FALSE NEIGHBOUR: 'it returns false'. Refute it at one input. -/
def solidCellsWrong : ChangeSpec := { name := "solidCells", fn := fun _ => fun
  | [d1, d2] => { results := [.lit (.bool false)], args := [d1, d2] }
  | _ => none }
def SolidCellsWrongFalsely : Prop := solidCellsRow.holds Tryz.pinned (OpenSpec.ofChange solidCellsWrong)

/-- 'spokeshavelaw01.SolidChecks': WHATEVER THE INPUT: true; the input reads as it did. -/
def solidChecksSpec : ChangeSpec := { name := "solidChecks", fn := fun _ => fun
  | [d] => { results := [.lit (.bool true)], args := [d] }
  | _ => none }
def solidChecksRow : OpenClaim := { program := "ytcboppdjjpeeoaagreat", sum := "acd39232ab248b69195b5819526b1d82877c82ec1bc3a9582687242ae7851220", func := "spokeshave/spokeshavelaw01.SolidChecks", spec := "solidChecks", unfollowed := true, recurses := true, apart := false }
def SolidChecksSaid : Prop := solidChecksRow.holds Tryz.pinned (OpenSpec.ofChange solidChecksSpec)

/-- ITS FALSE NEIGHBOUR: 'it returns false'. Refute it at one input. -/
def solidChecksWrong : ChangeSpec := { name := "solidChecks", fn := fun _ => fun
  | [d] => { results := [.lit (.bool false)], args := [d] }
  | _ => none }
def SolidChecksWrongFalsely : Prop := solidChecksRow.holds Tryz.pinned (OpenSpec.ofChange solidChecksWrong)

/-- 'spokeshavelaw01.SolidPlaces': WHATEVER THE INPUT: true; the input reads as it did. -/
def solidPlacesSpec : ChangeSpec := { name := "solidPlaces", fn := fun _ => fun
  | [d1, d2, d3] => { results := [.lit (.bool true)], args := [d1, d2, d3] }
  | _ => none }
def solidPlacesRow : OpenClaim := { program := "ytcboppdjjpeeoaagreat", sum := "acd39232ab248b69195b5819526b1d82877c82ec1bc3a9582687242ae7851220", func := "spokeshave/spokeshavelaw01.SolidPlaces", spec := "solidPlaces", unfollowed := true, recurses := true, apart := false }
def SolidPlacesSaid : Prop := solidPlacesRow.holds Tryz.pinned (OpenSpec.ofChange solidPlacesSpec)

/-- ITS FALSE NEIGHBOUR: 'it returns false'. Refute it at one input. -/
def solidPlacesWrong : ChangeSpec := { name := "solidPlaces", fn := fun _ => fun
  | [d1, d2, d3] => { results := [.lit (.bool false)], args := [d1, d2, d3] }
  | _ => none }
def SolidPlacesWrongFalsely : Prop := solidPlacesRow.holds Tryz.pinned (OpenSpec.ofChange solidPlacesWrong)

/-- 'spokeshavelaw01.SolidPrisms': WHATEVER THE INPUT: true; the input reads as it did. -/
def solidPrismsSpec : ChangeSpec := { name := "solidPrisms", fn := fun _ => fun
  | [d1, d2, d3] => { results := [.lit (.bool true)], args := [d1, d2, d3] }
  | _ => none }
def solidPrismsRow : OpenClaim := { program := "ytcboppdjjpeeoaagreat", sum := "acd39232ab248b69195b5819526b1d82877c82ec1bc3a9582687242ae7851220", func := "spokeshave/spokeshavelaw01.SolidPrisms", spec := "solidPrisms", unfollowed := true, recurses := true, apart := false }
def SolidPrismsSaid : Prop := solidPrismsRow.holds Tryz.pinned (OpenSpec.ofChange solidPrismsSpec)

/-- ITS FALSE NEIGHBOUR: 'it returns false'. Refute it at one input. -/
def solidPrismsWrong : ChangeSpec := { name := "solidPrisms", fn := fun _ => fun
  | [d1, d2, d3] => { results := [.lit (.bool false)], args := [d1, d2, d3] }
  | _ => none }
def SolidPrismsWrongFalsely : Prop := solidPrismsRow.holds Tryz.pinned (OpenSpec.ofChange solidPrismsWrong)

/-- 'spokeshavelaw01.SolidGroup': WHATEVER THE INPUT: true; the input reads as it did. -/
def solidGroupSpec : ChangeSpec := { name := "solidGroup", fn := fun _ => fun
  | [d1, d2] => { results := [.lit (.bool true)], args := [d1, d2] }
  | _ => none }
def solidGroupRow : OpenClaim := { program := "ytcboppdjjpeeoaagreat", sum := "acd39232ab248b69195b5819526b1d82877c82ec1bc3a9582687242ae7851220", func := "spokeshave/spokeshavelaw01.SolidGroup", spec := "solidGroup", unfollowed := true, recurses := true, apart := false }
def SolidGroupSaid : Prop := solidGroupRow.holds Tryz.pinned (OpenSpec.ofChange solidGroupSpec)

/-- ITS FALSE NEIGHBOUR: 'it returns false'. Refute it at one input. -/
def solidGroupWrong : ChangeSpec := { name := "solidGroup", fn := fun _ => fun
  | [d1, d2] => { results := [.lit (.bool false)], args := [d1, d2] }
  | _ => none }
def SolidGroupWrongFalsely : Prop := solidGroupRow.holds Tryz.pinned (OpenSpec.ofChange solidGroupWrong)

/- THE SECOND FORM. 'bulk': how many values and letters a reading holds, each counted each time it is reached (what is shared counts as often as it is met; a slice's spare places count too). A statement '..UptoSaid' is the law's where the arguments, and the package variables that the reading takes, are together of bulk at most 1048576: NARROWER than '..Said'. Prove '..Said' where nothing that the law and all that it calls make is longer than what came in: it says more and counts as full. Else prove '..UptoSaid'. A law counts once. -/
mutual
def uptoBulk {H : Type} : DataW H → Nat
  | .lit (.string bytes) => bytes.length + 1
  | .lit _ => 1
  | .nil => 1
  | .ptr d => uptoBulk d + 1
  | .slice elems spare => uptoBulkAll elems + uptoBulkAll spare + 1
  | .agg parts => uptoBulkAll parts + 1
  | .iface _ d => uptoBulk d + 1
  | .map entries => uptoBulkEntries entries + 1
  | .held _ => 1
def uptoBulkAll {H : Type} : List (DataW H) → Nat
  | [] => 0
  | d :: r => uptoBulk d + uptoBulkAll r
def uptoBulkEntries {H : Type} : List (Lit × DataW H) → Nat
  | [] => 0
  | x :: r => uptoBulkEntry x + uptoBulkEntries r
def uptoBulkEntry {H : Type} : Lit × DataW H → Nat
  | (.string bytes, d) => bytes.length + uptoBulk d + 1
  | (_, d) => uptoBulk d + 1
 end
def uptoSmall : (H : Type) → List (DataW H) → Bool := fun _ ds => decide (uptoBulkAll ds ≤ 1048576)
def OpenSpec.upto (s : _root_.Go.ChangeSpec) : _root_.Go.OpenSpec := { _root_.Go.OpenSpec.ofChange s with cond := some uptoSmall }

/-- 'spokeshavelaw01.SolidCells', WHERE WHAT IT READS IS OF BULK AT MOST 1048576: true; the input reads as it did. -/
def solidCellsUptoRow : OpenClaim := { program := "ytcboppdjjpeeoaagreat", sum := "acd39232ab248b69195b5819526b1d82877c82ec1bc3a9582687242ae7851220", func := "spokeshave/spokeshavelaw01.SolidCells", spec := "solidCells", unfollowed := true, recurses := true, apart := false, narrowed := true }
def SolidCellsUptoSaid : Prop := solidCellsUptoRow.holds Tryz.pinned (OpenSpec.upto solidCellsSpec)

/-- 'spokeshavelaw01.SolidChecks', WHERE WHAT IT READS IS OF BULK AT MOST 1048576: true; the input reads as it did. -/
def solidChecksUptoRow : OpenClaim := { program := "ytcboppdjjpeeoaagreat", sum := "acd39232ab248b69195b5819526b1d82877c82ec1bc3a9582687242ae7851220", func := "spokeshave/spokeshavelaw01.SolidChecks", spec := "solidChecks", unfollowed := true, recurses := true, apart := false, narrowed := true }
def SolidChecksUptoSaid : Prop := solidChecksUptoRow.holds Tryz.pinned (OpenSpec.upto solidChecksSpec)

/-- 'spokeshavelaw01.SolidPlaces', WHERE WHAT IT READS IS OF BULK AT MOST 1048576: true; the input reads as it did. -/
def solidPlacesUptoRow : OpenClaim := { program := "ytcboppdjjpeeoaagreat", sum := "acd39232ab248b69195b5819526b1d82877c82ec1bc3a9582687242ae7851220", func := "spokeshave/spokeshavelaw01.SolidPlaces", spec := "solidPlaces", unfollowed := true, recurses := true, apart := false, narrowed := true }
def SolidPlacesUptoSaid : Prop := solidPlacesUptoRow.holds Tryz.pinned (OpenSpec.upto solidPlacesSpec)

/-- 'spokeshavelaw01.SolidPrisms', WHERE WHAT IT READS IS OF BULK AT MOST 1048576: true; the input reads as it did. -/
def solidPrismsUptoRow : OpenClaim := { program := "ytcboppdjjpeeoaagreat", sum := "acd39232ab248b69195b5819526b1d82877c82ec1bc3a9582687242ae7851220", func := "spokeshave/spokeshavelaw01.SolidPrisms", spec := "solidPrisms", unfollowed := true, recurses := true, apart := false, narrowed := true }
def SolidPrismsUptoSaid : Prop := solidPrismsUptoRow.holds Tryz.pinned (OpenSpec.upto solidPrismsSpec)

/-- 'spokeshavelaw01.SolidGroup', WHERE WHAT IT READS IS OF BULK AT MOST 1048576: true; the input reads as it did. -/
def solidGroupUptoRow : OpenClaim := { program := "ytcboppdjjpeeoaagreat", sum := "acd39232ab248b69195b5819526b1d82877c82ec1bc3a9582687242ae7851220", func := "spokeshave/spokeshavelaw01.SolidGroup", spec := "solidGroup", unfollowed := true, recurses := true, apart := false, narrowed := true }
def SolidGroupUptoSaid : Prop := solidGroupUptoRow.holds Tryz.pinned (OpenSpec.upto solidGroupSpec)

end Rows
end Go.Proofs.YtcboppdjjpeeoaaGreat
