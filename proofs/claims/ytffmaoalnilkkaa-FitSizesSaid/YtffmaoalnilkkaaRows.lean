/-
  No cell of these rows narrows 'for every input' (looked for: loops, veiled, ifaces, maps, wideKeys, modest, calm, conditions, laid).
  DERIVED. THE GIVEN ROWS OF THIS SEAT. 5 by the template 'for every input the law returns true; each argument reads behind the call as it read before'; 0 by the template 'total and deterministic' (their statements: YtffmaoalnilkkaaTotals.lean).
  GIVEN WITH THE SEED: the statements are not yours to turn. If you find one false, say at which input.
  Laid BY PROGRAM, IN A SANDBOX (cutbox-rows.mjs): the forced cells as the released guide's own fill.sh prints them over the translation 8dfc7d85dacd40b6… (all of the seat's roots in one cut). By AI agents, Wed Nov 11 2026. No macro, syntax, notation, axiom, sorry.
-/
import Derived.Test.YtffmaoalnilkkaaChecked
import GoSem.Claim
import GoSem.ClaimJoined
import GoSem.ClaimMapViews
import Derived.JoinedTies
import Derived.KernelRfl
namespace Go.Proofs.Ytffmaoalnilkkaa
/- THE CELL 'sum', in the pinned program and in every row, IS THE sha256 OF THE DUMP (.gsa) THAT YtffmaoalnilkkaaProg.lean LOADS. Nothing in Lean hashes anything: it is a label: what it is worth is what the hold of that sum in a sandbox is worth. -/
noncomputable def Try.pinned : Pinned := { name := "ytffmaoalnilkkaa", sum := "8dfc7d85dacd40b6a5ce63deb7edf932169130ac45a891ec14824f9c4723d9be", checked := Try.checked }
namespace Rows
def none {H : Type} : Left H := { results := [], args := [] }

/-- 'spokeshavelaw06.FitChecks': WHATEVER THE INPUT: true; the input reads as it did. -/
def fitChecksSpec : ChangeSpec := { name := "fitChecks", fn := fun _ => fun
  | [d1, d2] => { results := [.lit (.bool true)], args := [d1, d2] }
  | _ => none }
def fitChecksRow : OpenClaim := { program := "ytffmaoalnilkkaa", sum := "8dfc7d85dacd40b6a5ce63deb7edf932169130ac45a891ec14824f9c4723d9be", func := "spokeshave/spokeshavelaw06.FitChecks", spec := "fitChecks", unfollowed := true, recurses := true, apart := false }
def FitChecksSaid : Prop := fitChecksRow.holds Try.pinned (OpenSpec.ofChange fitChecksSpec)

/-- ITS FALSE NEIGHBOUR: 'it returns false'. Refute it at one input. -/
def fitChecksWrong : ChangeSpec := { name := "fitChecks", fn := fun _ => fun
  | [d1, d2] => { results := [.lit (.bool false)], args := [d1, d2] }
  | _ => none }
def FitChecksWrongFalsely : Prop := fitChecksRow.holds Try.pinned (OpenSpec.ofChange fitChecksWrong)

/-- 'spokeshavelaw06.FitSizes': WHATEVER THE INPUT: true; the input reads as it did. -/
def fitSizesSpec : ChangeSpec := { name := "fitSizes", fn := fun _ => fun
  | [d1, d2, d3] => { results := [.lit (.bool true)], args := [d1, d2, d3] }
  | _ => none }
def fitSizesRow : OpenClaim := { program := "ytffmaoalnilkkaa", sum := "8dfc7d85dacd40b6a5ce63deb7edf932169130ac45a891ec14824f9c4723d9be", func := "spokeshave/spokeshavelaw06.FitSizes", spec := "fitSizes", unfollowed := true, recurses := true, apart := false }
def FitSizesSaid : Prop := fitSizesRow.holds Try.pinned (OpenSpec.ofChange fitSizesSpec)

/-- ITS FALSE NEIGHBOUR: 'it returns false'. Refute it at one input. -/
def fitSizesWrong : ChangeSpec := { name := "fitSizes", fn := fun _ => fun
  | [d1, d2, d3] => { results := [.lit (.bool false)], args := [d1, d2, d3] }
  | _ => none }
def FitSizesWrongFalsely : Prop := fitSizesRow.holds Try.pinned (OpenSpec.ofChange fitSizesWrong)

/-- 'spokeshavelaw06.FitSlots': WHATEVER THE INPUT: true; the input reads as it did. -/
def fitSlotsSpec : ChangeSpec := { name := "fitSlots", fn := fun _ => fun
  | [d1, d2, d3] => { results := [.lit (.bool true)], args := [d1, d2, d3] }
  | _ => none }
def fitSlotsRow : OpenClaim := { program := "ytffmaoalnilkkaa", sum := "8dfc7d85dacd40b6a5ce63deb7edf932169130ac45a891ec14824f9c4723d9be", func := "spokeshave/spokeshavelaw06.FitSlots", spec := "fitSlots", unfollowed := true, recurses := true, apart := false }
def FitSlotsSaid : Prop := fitSlotsRow.holds Try.pinned (OpenSpec.ofChange fitSlotsSpec)

/-- ITS FALSE NEIGHBOUR: 'it returns false'. Refute it at one input. -/
def fitSlotsWrong : ChangeSpec := { name := "fitSlots", fn := fun _ => fun
  | [d1, d2, d3] => { results := [.lit (.bool false)], args := [d1, d2, d3] }
  | _ => none }
def FitSlotsWrongFalsely : Prop := fitSlotsRow.holds Try.pinned (OpenSpec.ofChange fitSlotsWrong)

/-- 'spokeshavelaw06.FitStacks': WHATEVER THE INPUT: true; the input reads as it did. -/
def fitStacksSpec : ChangeSpec := { name := "fitStacks", fn := fun _ => fun
  | [d1, d2, d3] => { results := [.lit (.bool true)], args := [d1, d2, d3] }
  | _ => none }
def fitStacksRow : OpenClaim := { program := "ytffmaoalnilkkaa", sum := "8dfc7d85dacd40b6a5ce63deb7edf932169130ac45a891ec14824f9c4723d9be", func := "spokeshave/spokeshavelaw06.FitStacks", spec := "fitStacks", unfollowed := true, recurses := true, apart := false }
def FitStacksSaid : Prop := fitStacksRow.holds Try.pinned (OpenSpec.ofChange fitStacksSpec)

/-- ITS FALSE NEIGHBOUR: 'it returns false'. Refute it at one input. -/
def fitStacksWrong : ChangeSpec := { name := "fitStacks", fn := fun _ => fun
  | [d1, d2, d3] => { results := [.lit (.bool false)], args := [d1, d2, d3] }
  | _ => none }
def FitStacksWrongFalsely : Prop := fitStacksRow.holds Try.pinned (OpenSpec.ofChange fitStacksWrong)

/-- 'spokeshavelaw06.FitTurned': WHATEVER THE INPUT: true; the input reads as it did. -/
def fitTurnedSpec : ChangeSpec := { name := "fitTurned", fn := fun _ => fun
  | [d1, d2, d3] => { results := [.lit (.bool true)], args := [d1, d2, d3] }
  | _ => none }
def fitTurnedRow : OpenClaim := { program := "ytffmaoalnilkkaa", sum := "8dfc7d85dacd40b6a5ce63deb7edf932169130ac45a891ec14824f9c4723d9be", func := "spokeshave/spokeshavelaw06.FitTurned", spec := "fitTurned", unfollowed := true, recurses := true, apart := false }
def FitTurnedSaid : Prop := fitTurnedRow.holds Try.pinned (OpenSpec.ofChange fitTurnedSpec)

/-- ITS FALSE NEIGHBOUR: 'it returns false'. Refute it at one input. -/
def fitTurnedWrong : ChangeSpec := { name := "fitTurned", fn := fun _ => fun
  | [d1, d2, d3] => { results := [.lit (.bool false)], args := [d1, d2, d3] }
  | _ => none }
def FitTurnedWrongFalsely : Prop := fitTurnedRow.holds Try.pinned (OpenSpec.ofChange fitTurnedWrong)

/- THE SECOND FORM. 'bulk': how many values and letters a reading holds, each counted each time it is reached (what is shared counts as often as it is met; a slice's spare places count too). A statement '..UptoSaid' is the law's where the arguments, and the package variables that the reading takes, are together of bulk at most 1048576: NARROWER than '..Said'. Prove '..Said' where nothing that the law and all that it calls make is longer than what came in: it says more and counts as full. Else prove '..UptoSaid'. A law counts once. -/
mutual
def uptoBulk {H : Type} : DataW H → Nat
  | .lit (.string bytes) => bytes.length + 1
  | .lit _ => 1
  | .nil => 1
  | .ptr d => uptoBulk d + 1
  | .slice elems spare => uptoBulkAll elems + uptoBulkAll spare + 1
  | .agg parts => uptoBulkAll parts + 1
  | .iface _ d => uptoBulk d + 1
  | .map entries => uptoBulkEntries entries + 1
  | .held _ => 1
def uptoBulkAll {H : Type} : List (DataW H) → Nat
  | [] => 0
  | d :: r => uptoBulk d + uptoBulkAll r
def uptoBulkEntries {H : Type} : List (Lit × DataW H) → Nat
  | [] => 0
  | x :: r => uptoBulkEntry x + uptoBulkEntries r
def uptoBulkEntry {H : Type} : Lit × DataW H → Nat
  | (.string bytes, d) => bytes.length + uptoBulk d + 1
  | (_, d) => uptoBulk d + 1
 end
def uptoSmall : (H : Type) → List (DataW H) → Bool := fun _ ds => decide (uptoBulkAll ds ≤ 1048576)
def OpenSpec.upto (s : _root_.Go.ChangeSpec) : _root_.Go.OpenSpec := { _root_.Go.OpenSpec.ofChange s with cond := some uptoSmall }

/-- 'spokeshavelaw06.FitChecks', WHERE WHAT IT READS IS OF BULK AT MOST 1048576: true; the input reads as it did. -/
def fitChecksUptoRow : OpenClaim := { program := "ytffmaoalnilkkaa", sum := "8dfc7d85dacd40b6a5ce63deb7edf932169130ac45a891ec14824f9c4723d9be", func := "spokeshave/spokeshavelaw06.FitChecks", spec := "fitChecks", unfollowed := true, recurses := true, apart := false, narrowed := true }
def FitChecksUptoSaid : Prop := fitChecksUptoRow.holds Try.pinned (OpenSpec.upto fitChecksSpec)

/-- 'spokeshavelaw06.FitSizes', WHERE WHAT IT READS IS OF BULK AT MOST 1048576: true; the input reads as it did. -/
def fitSizesUptoRow : OpenClaim := { program := "ytffmaoalnilkkaa", sum := "8dfc7d85dacd40b6a5ce63deb7edf932169130ac45a891ec14824f9c4723d9be", func := "spokeshave/spokeshavelaw06.FitSizes", spec := "fitSizes", unfollowed := true, recurses := true, apart := false, narrowed := true }
def FitSizesUptoSaid : Prop := fitSizesUptoRow.holds Try.pinned (OpenSpec.upto fitSizesSpec)

/-- 'spokeshavelaw06.FitSlots', WHERE WHAT IT READS IS OF BULK AT MOST 1048576: true; the input reads as it did. -/
def fitSlotsUptoRow : OpenClaim := { program := "ytffmaoalnilkkaa", sum := "8dfc7d85dacd40b6a5ce63deb7edf932169130ac45a891ec14824f9c4723d9be", func := "spokeshave/spokeshavelaw06.FitSlots", spec := "fitSlots", unfollowed := true, recurses := true, apart := false, narrowed := true }
def FitSlotsUptoSaid : Prop := fitSlotsUptoRow.holds Try.pinned (OpenSpec.upto fitSlotsSpec)

/-- 'spokeshavelaw06.FitStacks', WHERE WHAT IT READS IS OF BULK AT MOST 1048576: true; the input reads as it did. -/
def fitStacksUptoRow : OpenClaim := { program := "ytffmaoalnilkkaa", sum := "8dfc7d85dacd40b6a5ce63deb7edf932169130ac45a891ec14824f9c4723d9be", func := "spokeshave/spokeshavelaw06.FitStacks", spec := "fitStacks", unfollowed := true, recurses := true, apart := false, narrowed := true }
def FitStacksUptoSaid : Prop := fitStacksUptoRow.holds Try.pinned (OpenSpec.upto fitStacksSpec)

/-- 'spokeshavelaw06.FitTurned', WHERE WHAT IT READS IS OF BULK AT MOST 1048576: true; the input reads as it did. -/
def fitTurnedUptoRow : OpenClaim := { program := "ytffmaoalnilkkaa", sum := "8dfc7d85dacd40b6a5ce63deb7edf932169130ac45a891ec14824f9c4723d9be", func := "spokeshave/spokeshavelaw06.FitTurned", spec := "fitTurned", unfollowed := true, recurses := true, apart := false, narrowed := true }
def FitTurnedUptoSaid : Prop := fitTurnedUptoRow.holds Try.pinned (OpenSpec.upto fitTurnedSpec)

end Rows
end Go.Proofs.Ytffmaoalnilkkaa
