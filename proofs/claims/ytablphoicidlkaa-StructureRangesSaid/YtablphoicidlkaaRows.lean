/-
  No cell of these rows narrows 'for every input' (looked for: loops, veiled, ifaces, maps, wideKeys, modest, calm, conditions, laid).
  DERIVED. THE GIVEN ROWS OF THIS SEAT. 16 by the template 'for every input the law returns true; each argument reads behind the call as it read before'; 0 by the template 'total and deterministic' (their statements: YtablphoicidlkaaTotals.lean).
  GIVEN WITH THE SEED: the statements are not yours to turn. If you find one false, say at which input.
  Laid BY PROGRAM, IN A SANDBOX (cutbox-rows.mjs): the forced cells as the released guide's own fill.sh prints them over the translation 324953eb5aa015f0… (all of the seat's roots in one cut). By AI agents, Wed Nov 11 2026. No macro, syntax, notation, axiom, sorry.
-/
import Derived.Test.YtablphoicidlkaaChecked
import GoSem.Claim
import GoSem.ClaimJoined
import GoSem.ClaimMapViews
import Derived.JoinedTies
import Derived.KernelRfl
namespace Go.Proofs.Ytablphoicidlkaa
/- THE CELL 'sum', in the pinned program and in every row, IS THE sha256 OF THE DUMP (.gsa) THAT YtablphoicidlkaaProg.lean LOADS. Nothing in Lean hashes anything: it is a label: what it is worth is what the hold of that sum in a sandbox is worth. -/
noncomputable def Try.pinned : Pinned := { name := "ytablphoicidlkaa", sum := "324953eb5aa015f00a5d37259bb40daa0709a4e49b6eb7030c7f04e8e1222d0a", checked := Try.checked }
namespace Rows
def none {H : Type} : Left H := { results := [], args := [] }

/-- 'spokeshavelaw07.StructureBeams': WHATEVER THE INPUT: true; the input reads as it did. -/
def structureBeamsSpec : ChangeSpec := { name := "structureBeams", fn := fun _ => fun
  | [d1, d2] => { results := [.lit (.bool true)], args := [d1, d2] }
  | _ => none }
def structureBeamsRow : OpenClaim := { program := "ytablphoicidlkaa", sum := "324953eb5aa015f00a5d37259bb40daa0709a4e49b6eb7030c7f04e8e1222d0a", func := "spokeshave/spokeshavelaw07.StructureBeams", spec := "structureBeams", unfollowed := true, recurses := true, apart := false }
def StructureBeamsSaid : Prop := structureBeamsRow.holds Try.pinned (OpenSpec.ofChange structureBeamsSpec)

/-- ITS FALSE NEIGHBOUR: 'it returns false'. Refute it at one input. -/
def structureBeamsWrong : ChangeSpec := { name := "structureBeams", fn := fun _ => fun
  | [d1, d2] => { results := [.lit (.bool false)], args := [d1, d2] }
  | _ => none }
def StructureBeamsWrongFalsely : Prop := structureBeamsRow.holds Try.pinned (OpenSpec.ofChange structureBeamsWrong)

/-- 'spokeshavelaw07.StructureForces': WHATEVER THE INPUT: true; the input reads as it did. -/
def structureForcesSpec : ChangeSpec := { name := "structureForces", fn := fun _ => fun
  | [d1, d2, d3] => { results := [.lit (.bool true)], args := [d1, d2, d3] }
  | _ => none }
def structureForcesRow : OpenClaim := { program := "ytablphoicidlkaa", sum := "324953eb5aa015f00a5d37259bb40daa0709a4e49b6eb7030c7f04e8e1222d0a", func := "spokeshave/spokeshavelaw07.StructureForces", spec := "structureForces", unfollowed := true, recurses := true, apart := false }
def StructureForcesSaid : Prop := structureForcesRow.holds Try.pinned (OpenSpec.ofChange structureForcesSpec)

/-- ITS FALSE NEIGHBOUR: 'it returns false'. Refute it at one input. -/
def structureForcesWrong : ChangeSpec := { name := "structureForces", fn := fun _ => fun
  | [d1, d2, d3] => { results := [.lit (.bool false)], args := [d1, d2, d3] }
  | _ => none }
def StructureForcesWrongFalsely : Prop := structureForcesRow.holds Try.pinned (OpenSpec.ofChange structureForcesWrong)

/-- 'spokeshavelaw07.StructureGreatest': WHATEVER THE INPUT: true; the input reads as it did. -/
def structureGreatestSpec : ChangeSpec := { name := "structureGreatest", fn := fun _ => fun
  | [d1, d2] => { results := [.lit (.bool true)], args := [d1, d2] }
  | _ => none }
def structureGreatestRow : OpenClaim := { program := "ytablphoicidlkaa", sum := "324953eb5aa015f00a5d37259bb40daa0709a4e49b6eb7030c7f04e8e1222d0a", func := "spokeshave/spokeshavelaw07.StructureGreatest", spec := "structureGreatest", unfollowed := true, recurses := true, apart := false }
def StructureGreatestSaid : Prop := structureGreatestRow.holds Try.pinned (OpenSpec.ofChange structureGreatestSpec)

/-- ITS FALSE NEIGHBOUR: 'it returns false'. Refute it at one input. -/
def structureGreatestWrong : ChangeSpec := { name := "structureGreatest", fn := fun _ => fun
  | [d1, d2] => { results := [.lit (.bool false)], args := [d1, d2] }
  | _ => none }
def StructureGreatestWrongFalsely : Prop := structureGreatestRow.holds Try.pinned (OpenSpec.ofChange structureGreatestWrong)

/-- 'spokeshavelaw07.StructureSags': WHATEVER THE INPUT: true; the input reads as it did. -/
def structureSagsSpec : ChangeSpec := { name := "structureSags", fn := fun _ => fun
  | [d1, d2, d3] => { results := [.lit (.bool true)], args := [d1, d2, d3] }
  | _ => none }
def structureSagsRow : OpenClaim := { program := "ytablphoicidlkaa", sum := "324953eb5aa015f00a5d37259bb40daa0709a4e49b6eb7030c7f04e8e1222d0a", func := "spokeshave/spokeshavelaw07.StructureSags", spec := "structureSags", unfollowed := true, recurses := true, apart := false }
def StructureSagsSaid : Prop := structureSagsRow.holds Try.pinned (OpenSpec.ofChange structureSagsSpec)

/-- ITS FALSE NEIGHBOUR: 'it returns false'. Refute it at one input. -/
def structureSagsWrong : ChangeSpec := { name := "structureSags", fn := fun _ => fun
  | [d1, d2, d3] => { results := [.lit (.bool false)], args := [d1, d2, d3] }
  | _ => none }
def StructureSagsWrongFalsely : Prop := structureSagsRow.holds Try.pinned (OpenSpec.ofChange structureSagsWrong)

/-- 'spokeshavelaw07.StructureHeavier': WHATEVER THE INPUT: true; the input reads as it did. -/
def structureHeavierSpec : ChangeSpec := { name := "structureHeavier", fn := fun _ => fun
  | [d1, d2] => { results := [.lit (.bool true)], args := [d1, d2] }
  | _ => none }
def structureHeavierRow : OpenClaim := { program := "ytablphoicidlkaa", sum := "324953eb5aa015f00a5d37259bb40daa0709a4e49b6eb7030c7f04e8e1222d0a", func := "spokeshave/spokeshavelaw07.StructureHeavier", spec := "structureHeavier", unfollowed := true, recurses := true, apart := false }
def StructureHeavierSaid : Prop := structureHeavierRow.holds Try.pinned (OpenSpec.ofChange structureHeavierSpec)

/-- ITS FALSE NEIGHBOUR: 'it returns false'. Refute it at one input. -/
def structureHeavierWrong : ChangeSpec := { name := "structureHeavier", fn := fun _ => fun
  | [d1, d2] => { results := [.lit (.bool false)], args := [d1, d2] }
  | _ => none }
def StructureHeavierWrongFalsely : Prop := structureHeavierRow.holds Try.pinned (OpenSpec.ofChange structureHeavierWrong)

/-- 'spokeshavelaw07.StructureRanges': WHATEVER THE INPUT: true; the input reads as it did. -/
def structureRangesSpec : ChangeSpec := { name := "structureRanges", fn := fun _ => fun
  | [d1, d2, d3] => { results := [.lit (.bool true)], args := [d1, d2, d3] }
  | _ => none }
def structureRangesRow : OpenClaim := { program := "ytablphoicidlkaa", sum := "324953eb5aa015f00a5d37259bb40daa0709a4e49b6eb7030c7f04e8e1222d0a", func := "spokeshave/spokeshavelaw07.StructureRanges", spec := "structureRanges", unfollowed := true, recurses := true, apart := false }
def StructureRangesSaid : Prop := structureRangesRow.holds Try.pinned (OpenSpec.ofChange structureRangesSpec)

/-- ITS FALSE NEIGHBOUR: 'it returns false'. Refute it at one input. -/
def structureRangesWrong : ChangeSpec := { name := "structureRanges", fn := fun _ => fun
  | [d1, d2, d3] => { results := [.lit (.bool false)], args := [d1, d2, d3] }
  | _ => none }
def StructureRangesWrongFalsely : Prop := structureRangesRow.holds Try.pinned (OpenSpec.ofChange structureRangesWrong)

/-- 'spokeshavelaw07.StructureWood': WHATEVER THE INPUT: true; the input reads as it did. -/
def structureWoodSpec : ChangeSpec := { name := "structureWood", fn := fun _ => fun
  | [d1, d2, d3] => { results := [.lit (.bool true)], args := [d1, d2, d3] }
  | _ => none }
def structureWoodRow : OpenClaim := { program := "ytablphoicidlkaa", sum := "324953eb5aa015f00a5d37259bb40daa0709a4e49b6eb7030c7f04e8e1222d0a", func := "spokeshave/spokeshavelaw07.StructureWood", spec := "structureWood", unfollowed := true, recurses := true, apart := false }
def StructureWoodSaid : Prop := structureWoodRow.holds Try.pinned (OpenSpec.ofChange structureWoodSpec)

/-- ITS FALSE NEIGHBOUR: 'it returns false'. Refute it at one input. -/
def structureWoodWrong : ChangeSpec := { name := "structureWood", fn := fun _ => fun
  | [d1, d2, d3] => { results := [.lit (.bool false)], args := [d1, d2, d3] }
  | _ => none }
def StructureWoodWrongFalsely : Prop := structureWoodRow.holds Try.pinned (OpenSpec.ofChange structureWoodWrong)

/-- 'spokeshavelaw07.StructureHolds': WHATEVER THE INPUT: true; the input reads as it did. -/
def structureHoldsSpec : ChangeSpec := { name := "structureHolds", fn := fun _ => fun
  | [d1, d2] => { results := [.lit (.bool true)], args := [d1, d2] }
  | _ => none }
def structureHoldsRow : OpenClaim := { program := "ytablphoicidlkaa", sum := "324953eb5aa015f00a5d37259bb40daa0709a4e49b6eb7030c7f04e8e1222d0a", func := "spokeshave/spokeshavelaw07.StructureHolds", spec := "structureHolds", unfollowed := true, recurses := true, apart := false }
def StructureHoldsSaid : Prop := structureHoldsRow.holds Try.pinned (OpenSpec.ofChange structureHoldsSpec)

/-- ITS FALSE NEIGHBOUR: 'it returns false'. Refute it at one input. -/
def structureHoldsWrong : ChangeSpec := { name := "structureHolds", fn := fun _ => fun
  | [d1, d2] => { results := [.lit (.bool false)], args := [d1, d2] }
  | _ => none }
def StructureHoldsWrongFalsely : Prop := structureHoldsRow.holds Try.pinned (OpenSpec.ofChange structureHoldsWrong)

/-- 'spokeshavelaw07.StructureThick': WHATEVER THE INPUT: true; the input reads as it did. -/
def structureThickSpec : ChangeSpec := { name := "structureThick", fn := fun _ => fun
  | [d1, d2] => { results := [.lit (.bool true)], args := [d1, d2] }
  | _ => none }
def structureThickRow : OpenClaim := { program := "ytablphoicidlkaa", sum := "324953eb5aa015f00a5d37259bb40daa0709a4e49b6eb7030c7f04e8e1222d0a", func := "spokeshave/spokeshavelaw07.StructureThick", spec := "structureThick", unfollowed := true, recurses := true, apart := false }
def StructureThickSaid : Prop := structureThickRow.holds Try.pinned (OpenSpec.ofChange structureThickSpec)

/-- ITS FALSE NEIGHBOUR: 'it returns false'. Refute it at one input. -/
def structureThickWrong : ChangeSpec := { name := "structureThick", fn := fun _ => fun
  | [d1, d2] => { results := [.lit (.bool false)], args := [d1, d2] }
  | _ => none }
def StructureThickWrongFalsely : Prop := structureThickRow.holds Try.pinned (OpenSpec.ofChange structureThickWrong)

/-- 'spokeshavelaw07.StructureSpans': WHATEVER THE INPUT: true; the input reads as it did. -/
def structureSpansSpec : ChangeSpec := { name := "structureSpans", fn := fun _ => fun
  | [d1, d2, d3] => { results := [.lit (.bool true)], args := [d1, d2, d3] }
  | _ => none }
def structureSpansRow : OpenClaim := { program := "ytablphoicidlkaa", sum := "324953eb5aa015f00a5d37259bb40daa0709a4e49b6eb7030c7f04e8e1222d0a", func := "spokeshave/spokeshavelaw07.StructureSpans", spec := "structureSpans", unfollowed := true, recurses := true, apart := false }
def StructureSpansSaid : Prop := structureSpansRow.holds Try.pinned (OpenSpec.ofChange structureSpansSpec)

/-- ITS FALSE NEIGHBOUR: 'it returns false'. Refute it at one input. -/
def structureSpansWrong : ChangeSpec := { name := "structureSpans", fn := fun _ => fun
  | [d1, d2, d3] => { results := [.lit (.bool false)], args := [d1, d2, d3] }
  | _ => none }
def StructureSpansWrongFalsely : Prop := structureSpansRow.holds Try.pinned (OpenSpec.ofChange structureSpansWrong)

/-- 'spokeshavelaw07.StructureFrames': WHATEVER THE INPUT: true; the input reads as it did. -/
def structureFramesSpec : ChangeSpec := { name := "structureFrames", fn := fun _ => fun
  | [d1, d2] => { results := [.lit (.bool true)], args := [d1, d2] }
  | _ => none }
def structureFramesRow : OpenClaim := { program := "ytablphoicidlkaa", sum := "324953eb5aa015f00a5d37259bb40daa0709a4e49b6eb7030c7f04e8e1222d0a", func := "spokeshave/spokeshavelaw07.StructureFrames", spec := "structureFrames", unfollowed := true, recurses := true, apart := false }
def StructureFramesSaid : Prop := structureFramesRow.holds Try.pinned (OpenSpec.ofChange structureFramesSpec)

/-- ITS FALSE NEIGHBOUR: 'it returns false'. Refute it at one input. -/
def structureFramesWrong : ChangeSpec := { name := "structureFrames", fn := fun _ => fun
  | [d1, d2] => { results := [.lit (.bool false)], args := [d1, d2] }
  | _ => none }
def StructureFramesWrongFalsely : Prop := structureFramesRow.holds Try.pinned (OpenSpec.ofChange structureFramesWrong)

/-- 'spokeshavelaw07.StructureCabinets': WHATEVER THE INPUT: true; the input reads as it did. -/
def structureCabinetsSpec : ChangeSpec := { name := "structureCabinets", fn := fun _ => fun
  | [d1, d2] => { results := [.lit (.bool true)], args := [d1, d2] }
  | _ => none }
def structureCabinetsRow : OpenClaim := { program := "ytablphoicidlkaa", sum := "324953eb5aa015f00a5d37259bb40daa0709a4e49b6eb7030c7f04e8e1222d0a", func := "spokeshave/spokeshavelaw07.StructureCabinets", spec := "structureCabinets", unfollowed := true, recurses := true, apart := false }
def StructureCabinetsSaid : Prop := structureCabinetsRow.holds Try.pinned (OpenSpec.ofChange structureCabinetsSpec)

/-- ITS FALSE NEIGHBOUR: 'it returns false'. Refute it at one input. -/
def structureCabinetsWrong : ChangeSpec := { name := "structureCabinets", fn := fun _ => fun
  | [d1, d2] => { results := [.lit (.bool false)], args := [d1, d2] }
  | _ => none }
def StructureCabinetsWrongFalsely : Prop := structureCabinetsRow.holds Try.pinned (OpenSpec.ofChange structureCabinetsWrong)

/-- 'spokeshavelaw07.StructureWorst': WHATEVER THE INPUT: true; the input reads as it did. -/
def structureWorstSpec : ChangeSpec := { name := "structureWorst", fn := fun _ => fun
  | [d1, d2, d3] => { results := [.lit (.bool true)], args := [d1, d2, d3] }
  | _ => none }
def structureWorstRow : OpenClaim := { program := "ytablphoicidlkaa", sum := "324953eb5aa015f00a5d37259bb40daa0709a4e49b6eb7030c7f04e8e1222d0a", func := "spokeshave/spokeshavelaw07.StructureWorst", spec := "structureWorst", unfollowed := true, recurses := true, apart := false }
def StructureWorstSaid : Prop := structureWorstRow.holds Try.pinned (OpenSpec.ofChange structureWorstSpec)

/-- ITS FALSE NEIGHBOUR: 'it returns false'. Refute it at one input. -/
def structureWorstWrong : ChangeSpec := { name := "structureWorst", fn := fun _ => fun
  | [d1, d2, d3] => { results := [.lit (.bool false)], args := [d1, d2, d3] }
  | _ => none }
def StructureWorstWrongFalsely : Prop := structureWorstRow.holds Try.pinned (OpenSpec.ofChange structureWorstWrong)

/-- 'spokeshavelaw07.StructureGlue': WHATEVER THE INPUT: true; the input reads as it did. -/
def structureGlueSpec : ChangeSpec := { name := "structureGlue", fn := fun _ => fun
  | [d1, d2, d3] => { results := [.lit (.bool true)], args := [d1, d2, d3] }
  | _ => none }
def structureGlueRow : OpenClaim := { program := "ytablphoicidlkaa", sum := "324953eb5aa015f00a5d37259bb40daa0709a4e49b6eb7030c7f04e8e1222d0a", func := "spokeshave/spokeshavelaw07.StructureGlue", spec := "structureGlue", unfollowed := true, recurses := true, apart := false }
def StructureGlueSaid : Prop := structureGlueRow.holds Try.pinned (OpenSpec.ofChange structureGlueSpec)

/-- ITS FALSE NEIGHBOUR: 'it returns false'. Refute it at one input. -/
def structureGlueWrong : ChangeSpec := { name := "structureGlue", fn := fun _ => fun
  | [d1, d2, d3] => { results := [.lit (.bool false)], args := [d1, d2, d3] }
  | _ => none }
def StructureGlueWrongFalsely : Prop := structureGlueRow.holds Try.pinned (OpenSpec.ofChange structureGlueWrong)

/-- 'spokeshavelaw07.StructureSuperposes': WHATEVER THE INPUT: true; the input reads as it did. -/
def structureSuperposesSpec : ChangeSpec := { name := "structureSuperposes", fn := fun _ => fun
  | [d1, d2, d3] => { results := [.lit (.bool true)], args := [d1, d2, d3] }
  | _ => none }
def structureSuperposesRow : OpenClaim := { program := "ytablphoicidlkaa", sum := "324953eb5aa015f00a5d37259bb40daa0709a4e49b6eb7030c7f04e8e1222d0a", func := "spokeshave/spokeshavelaw07.StructureSuperposes", spec := "structureSuperposes", unfollowed := true, recurses := true, apart := false }
def StructureSuperposesSaid : Prop := structureSuperposesRow.holds Try.pinned (OpenSpec.ofChange structureSuperposesSpec)

/-- ITS FALSE NEIGHBOUR: 'it returns false'. Refute it at one input. -/
def structureSuperposesWrong : ChangeSpec := { name := "structureSuperposes", fn := fun _ => fun
  | [d1, d2, d3] => { results := [.lit (.bool false)], args := [d1, d2, d3] }
  | _ => none }
def StructureSuperposesWrongFalsely : Prop := structureSuperposesRow.holds Try.pinned (OpenSpec.ofChange structureSuperposesWrong)

/-- 'spokeshavelaw07.StructureMaxwell': WHATEVER THE INPUT: true; the input reads as it did. -/
def structureMaxwellSpec : ChangeSpec := { name := "structureMaxwell", fn := fun _ => fun
  | [d1, d2, d3] => { results := [.lit (.bool true)], args := [d1, d2, d3] }
  | _ => none }
def structureMaxwellRow : OpenClaim := { program := "ytablphoicidlkaa", sum := "324953eb5aa015f00a5d37259bb40daa0709a4e49b6eb7030c7f04e8e1222d0a", func := "spokeshave/spokeshavelaw07.StructureMaxwell", spec := "structureMaxwell", unfollowed := true, recurses := true, apart := false }
def StructureMaxwellSaid : Prop := structureMaxwellRow.holds Try.pinned (OpenSpec.ofChange structureMaxwellSpec)

/-- ITS FALSE NEIGHBOUR: 'it returns false'. Refute it at one input. -/
def structureMaxwellWrong : ChangeSpec := { name := "structureMaxwell", fn := fun _ => fun
  | [d1, d2, d3] => { results := [.lit (.bool false)], args := [d1, d2, d3] }
  | _ => none }
def StructureMaxwellWrongFalsely : Prop := structureMaxwellRow.holds Try.pinned (OpenSpec.ofChange structureMaxwellWrong)

/- THE SECOND FORM. 'bulk': how many values and letters a reading holds, each counted each time it is reached (what is shared counts as often as it is met; a slice's spare places count too). A statement '..UptoSaid' is the law's where the arguments, and the package variables that the reading takes, are together of bulk at most 1048576: NARROWER than '..Said'. Prove '..Said' where nothing that the law and all that it calls make is longer than what came in: it says more and counts as full. Else prove '..UptoSaid'. A law counts once. -/
mutual
def uptoBulk {H : Type} : DataW H → Nat
  | .lit (.string bytes) => bytes.length + 1
  | .lit _ => 1
  | .nil => 1
  | .ptr d => uptoBulk d + 1
  | .slice elems spare => uptoBulkAll elems + uptoBulkAll spare + 1
  | .agg parts => uptoBulkAll parts + 1
  | .iface _ d => uptoBulk d + 1
  | .map entries => uptoBulkEntries entries + 1
  | .held _ => 1
def uptoBulkAll {H : Type} : List (DataW H) → Nat
  | [] => 0
  | d :: r => uptoBulk d + uptoBulkAll r
def uptoBulkEntries {H : Type} : List (Lit × DataW H) → Nat
  | [] => 0
  | x :: r => uptoBulkEntry x + uptoBulkEntries r
def uptoBulkEntry {H : Type} : Lit × DataW H → Nat
  | (.string bytes, d) => bytes.length + uptoBulk d + 1
  | (_, d) => uptoBulk d + 1
 end
def uptoSmall : (H : Type) → List (DataW H) → Bool := fun _ ds => decide (uptoBulkAll ds ≤ 1048576)
def OpenSpec.upto (s : _root_.Go.ChangeSpec) : _root_.Go.OpenSpec := { _root_.Go.OpenSpec.ofChange s with cond := some uptoSmall }

/-- 'spokeshavelaw07.StructureBeams', WHERE WHAT IT READS IS OF BULK AT MOST 1048576: true; the input reads as it did. -/
def structureBeamsUptoRow : OpenClaim := { program := "ytablphoicidlkaa", sum := "324953eb5aa015f00a5d37259bb40daa0709a4e49b6eb7030c7f04e8e1222d0a", func := "spokeshave/spokeshavelaw07.StructureBeams", spec := "structureBeams", unfollowed := true, recurses := true, apart := false, narrowed := true }
def StructureBeamsUptoSaid : Prop := structureBeamsUptoRow.holds Try.pinned (OpenSpec.upto structureBeamsSpec)

/-- 'spokeshavelaw07.StructureForces', WHERE WHAT IT READS IS OF BULK AT MOST 1048576: true; the input reads as it did. -/
def structureForcesUptoRow : OpenClaim := { program := "ytablphoicidlkaa", sum := "324953eb5aa015f00a5d37259bb40daa0709a4e49b6eb7030c7f04e8e1222d0a", func := "spokeshave/spokeshavelaw07.StructureForces", spec := "structureForces", unfollowed := true, recurses := true, apart := false, narrowed := true }
def StructureForcesUptoSaid : Prop := structureForcesUptoRow.holds Try.pinned (OpenSpec.upto structureForcesSpec)

/-- 'spokeshavelaw07.StructureGreatest', WHERE WHAT IT READS IS OF BULK AT MOST 1048576: true; the input reads as it did. -/
def structureGreatestUptoRow : OpenClaim := { program := "ytablphoicidlkaa", sum := "324953eb5aa015f00a5d37259bb40daa0709a4e49b6eb7030c7f04e8e1222d0a", func := "spokeshave/spokeshavelaw07.StructureGreatest", spec := "structureGreatest", unfollowed := true, recurses := true, apart := false, narrowed := true }
def StructureGreatestUptoSaid : Prop := structureGreatestUptoRow.holds Try.pinned (OpenSpec.upto structureGreatestSpec)

/-- 'spokeshavelaw07.StructureSags', WHERE WHAT IT READS IS OF BULK AT MOST 1048576: true; the input reads as it did. -/
def structureSagsUptoRow : OpenClaim := { program := "ytablphoicidlkaa", sum := "324953eb5aa015f00a5d37259bb40daa0709a4e49b6eb7030c7f04e8e1222d0a", func := "spokeshave/spokeshavelaw07.StructureSags", spec := "structureSags", unfollowed := true, recurses := true, apart := false, narrowed := true }
def StructureSagsUptoSaid : Prop := structureSagsUptoRow.holds Try.pinned (OpenSpec.upto structureSagsSpec)

/-- 'spokeshavelaw07.StructureHeavier', WHERE WHAT IT READS IS OF BULK AT MOST 1048576: true; the input reads as it did. -/
def structureHeavierUptoRow : OpenClaim := { program := "ytablphoicidlkaa", sum := "324953eb5aa015f00a5d37259bb40daa0709a4e49b6eb7030c7f04e8e1222d0a", func := "spokeshave/spokeshavelaw07.StructureHeavier", spec := "structureHeavier", unfollowed := true, recurses := true, apart := false, narrowed := true }
def StructureHeavierUptoSaid : Prop := structureHeavierUptoRow.holds Try.pinned (OpenSpec.upto structureHeavierSpec)

/-- 'spokeshavelaw07.StructureRanges', WHERE WHAT IT READS IS OF BULK AT MOST 1048576: true; the input reads as it did. -/
def structureRangesUptoRow : OpenClaim := { program := "ytablphoicidlkaa", sum := "324953eb5aa015f00a5d37259bb40daa0709a4e49b6eb7030c7f04e8e1222d0a", func := "spokeshave/spokeshavelaw07.StructureRanges", spec := "structureRanges", unfollowed := true, recurses := true, apart := false, narrowed := true }
def StructureRangesUptoSaid : Prop := structureRangesUptoRow.holds Try.pinned (OpenSpec.upto structureRangesSpec)

/-- 'spokeshavelaw07.StructureWood', WHERE WHAT IT READS IS OF BULK AT MOST 1048576: true; the input reads as it did. -/
def structureWoodUptoRow : OpenClaim := { program := "ytablphoicidlkaa", sum := "324953eb5aa015f00a5d37259bb40daa0709a4e49b6eb7030c7f04e8e1222d0a", func := "spokeshave/spokeshavelaw07.StructureWood", spec := "structureWood", unfollowed := true, recurses := true, apart := false, narrowed := true }
def StructureWoodUptoSaid : Prop := structureWoodUptoRow.holds Try.pinned (OpenSpec.upto structureWoodSpec)

/-- 'spokeshavelaw07.StructureHolds', WHERE WHAT IT READS IS OF BULK AT MOST 1048576: true; the input reads as it did. -/
def structureHoldsUptoRow : OpenClaim := { program := "ytablphoicidlkaa", sum := "324953eb5aa015f00a5d37259bb40daa0709a4e49b6eb7030c7f04e8e1222d0a", func := "spokeshave/spokeshavelaw07.StructureHolds", spec := "structureHolds", unfollowed := true, recurses := true, apart := false, narrowed := true }
def StructureHoldsUptoSaid : Prop := structureHoldsUptoRow.holds Try.pinned (OpenSpec.upto structureHoldsSpec)

/-- 'spokeshavelaw07.StructureThick', WHERE WHAT IT READS IS OF BULK AT MOST 1048576: true; the input reads as it did. -/
def structureThickUptoRow : OpenClaim := { program := "ytablphoicidlkaa", sum := "324953eb5aa015f00a5d37259bb40daa0709a4e49b6eb7030c7f04e8e1222d0a", func := "spokeshave/spokeshavelaw07.StructureThick", spec := "structureThick", unfollowed := true, recurses := true, apart := false, narrowed := true }
def StructureThickUptoSaid : Prop := structureThickUptoRow.holds Try.pinned (OpenSpec.upto structureThickSpec)

/-- 'spokeshavelaw07.StructureSpans', WHERE WHAT IT READS IS OF BULK AT MOST 1048576: true; the input reads as it did. -/
def structureSpansUptoRow : OpenClaim := { program := "ytablphoicidlkaa", sum := "324953eb5aa015f00a5d37259bb40daa0709a4e49b6eb7030c7f04e8e1222d0a", func := "spokeshave/spokeshavelaw07.StructureSpans", spec := "structureSpans", unfollowed := true, recurses := true, apart := false, narrowed := true }
def StructureSpansUptoSaid : Prop := structureSpansUptoRow.holds Try.pinned (OpenSpec.upto structureSpansSpec)

/-- 'spokeshavelaw07.StructureFrames', WHERE WHAT IT READS IS OF BULK AT MOST 1048576: true; the input reads as it did. -/
def structureFramesUptoRow : OpenClaim := { program := "ytablphoicidlkaa", sum := "324953eb5aa015f00a5d37259bb40daa0709a4e49b6eb7030c7f04e8e1222d0a", func := "spokeshave/spokeshavelaw07.StructureFrames", spec := "structureFrames", unfollowed := true, recurses := true, apart := false, narrowed := true }
def StructureFramesUptoSaid : Prop := structureFramesUptoRow.holds Try.pinned (OpenSpec.upto structureFramesSpec)

/-- 'spokeshavelaw07.StructureCabinets', WHERE WHAT IT READS IS OF BULK AT MOST 1048576: true; the input reads as it did. -/
def structureCabinetsUptoRow : OpenClaim := { program := "ytablphoicidlkaa", sum := "324953eb5aa015f00a5d37259bb40daa0709a4e49b6eb7030c7f04e8e1222d0a", func := "spokeshave/spokeshavelaw07.StructureCabinets", spec := "structureCabinets", unfollowed := true, recurses := true, apart := false, narrowed := true }
def StructureCabinetsUptoSaid : Prop := structureCabinetsUptoRow.holds Try.pinned (OpenSpec.upto structureCabinetsSpec)

/-- 'spokeshavelaw07.StructureWorst', WHERE WHAT IT READS IS OF BULK AT MOST 1048576: true; the input reads as it did. -/
def structureWorstUptoRow : OpenClaim := { program := "ytablphoicidlkaa", sum := "324953eb5aa015f00a5d37259bb40daa0709a4e49b6eb7030c7f04e8e1222d0a", func := "spokeshave/spokeshavelaw07.StructureWorst", spec := "structureWorst", unfollowed := true, recurses := true, apart := false, narrowed := true }
def StructureWorstUptoSaid : Prop := structureWorstUptoRow.holds Try.pinned (OpenSpec.upto structureWorstSpec)

/-- 'spokeshavelaw07.StructureGlue', WHERE WHAT IT READS IS OF BULK AT MOST 1048576: true; the input reads as it did. -/
def structureGlueUptoRow : OpenClaim := { program := "ytablphoicidlkaa", sum := "324953eb5aa015f00a5d37259bb40daa0709a4e49b6eb7030c7f04e8e1222d0a", func := "spokeshave/spokeshavelaw07.StructureGlue", spec := "structureGlue", unfollowed := true, recurses := true, apart := false, narrowed := true }
def StructureGlueUptoSaid : Prop := structureGlueUptoRow.holds Try.pinned (OpenSpec.upto structureGlueSpec)

/-- 'spokeshavelaw07.StructureSuperposes', WHERE WHAT IT READS IS OF BULK AT MOST 1048576: true; the input reads as it did. -/
def structureSuperposesUptoRow : OpenClaim := { program := "ytablphoicidlkaa", sum := "324953eb5aa015f00a5d37259bb40daa0709a4e49b6eb7030c7f04e8e1222d0a", func := "spokeshave/spokeshavelaw07.StructureSuperposes", spec := "structureSuperposes", unfollowed := true, recurses := true, apart := false, narrowed := true }
def StructureSuperposesUptoSaid : Prop := structureSuperposesUptoRow.holds Try.pinned (OpenSpec.upto structureSuperposesSpec)

/-- 'spokeshavelaw07.StructureMaxwell', WHERE WHAT IT READS IS OF BULK AT MOST 1048576: true; the input reads as it did. -/
def structureMaxwellUptoRow : OpenClaim := { program := "ytablphoicidlkaa", sum := "324953eb5aa015f00a5d37259bb40daa0709a4e49b6eb7030c7f04e8e1222d0a", func := "spokeshave/spokeshavelaw07.StructureMaxwell", spec := "structureMaxwell", unfollowed := true, recurses := true, apart := false, narrowed := true }
def StructureMaxwellUptoSaid : Prop := structureMaxwellUptoRow.holds Try.pinned (OpenSpec.upto structureMaxwellSpec)

end Rows
end Go.Proofs.Ytablphoicidlkaa
