/-
  No cell of these rows narrows 'for every input' (looked for: loops, veiled, ifaces, maps, wideKeys, modest, calm, conditions, laid).
  DERIVED. THE GIVEN ROWS OF THIS SEAT. 8 by the template 'for every input the law returns true; each argument reads behind the call as it read before'; 0 by the template 'total and deterministic' (their statements: YtcjhodlimpgegaaGreatTotals.lean).
  GIVEN WITH THE SEED: the statements are not yours to turn. If you find one false, say at which input.
  Laid BY PROGRAM, IN A SANDBOX (cutbox-rows.mjs): the forced cells as the released guide's own fill.sh prints them over the translation 7f1a6b99363e611e… (all of the seat's roots in one cut). By AI agents, Wed Nov 11 2026. No macro, syntax, notation, axiom, sorry.
-/
import Derived.Test.YtcjhodlimpgegaaGreatChecked
import GoSem.Claim
import GoSem.ClaimJoined
import GoSem.ClaimMapViews
import Derived.JoinedTies
import Derived.KernelRfl
namespace Go.Proofs.YtcjhodlimpgegaaGreat
/- THE CELL 'sum', in the pinned program and in every row, IS THE sha256 OF THE DUMP (.gsa) THAT YtcjhodlimpgegaaGreatProg.lean LOADS. Nothing in Lean hashes anything: it is a label: what it is worth is what the hold of that sum in a sandbox is worth. -/
noncomputable def Tryz.pinned : Pinned := { name := "ytcjhodlimpgegaagreat", sum := "7f1a6b99363e611e4a984938ee3a06bb31218c2e652dce47e0351d7690acd581", checked := Tryz.checked }
namespace Rows
def none {H : Type} : Left H := { results := [], args := [] }

/-- 'spokeshavelaw06.FitClearances': WHATEVER THE INPUT: true; the input reads as it did. -/
def fitClearancesSpec : ChangeSpec := { name := "fitClearances", fn := fun _ => fun
  | [d1, d2, d3] => { results := [.lit (.bool true)], args := [d1, d2, d3] }
  | _ => none }
def fitClearancesRow : OpenClaim := { program := "ytcjhodlimpgegaagreat", sum := "7f1a6b99363e611e4a984938ee3a06bb31218c2e652dce47e0351d7690acd581", func := "spokeshave/spokeshavelaw06.FitClearances", spec := "fitClearances", unfollowed := true, recurses := true, apart := false }
def FitClearancesSaid : Prop := fitClearancesRow.holds Tryz.pinned (OpenSpec.ofChange fitClearancesSpec)

/-- ITS FALSE NEIGHBOUR: 'it returns false'. Refute it at one input. -/
def fitClearancesWrong : ChangeSpec := { name := "fitClearances", fn := fun _ => fun
  | [d1, d2, d3] => { results := [.lit (.bool false)], args := [d1, d2, d3] }
  | _ => none }
def FitClearancesWrongFalsely : Prop := fitClearancesRow.holds Tryz.pinned (OpenSpec.ofChange fitClearancesWrong)

/-- 'spokeshavelaw06.FitHolds': WHATEVER THE INPUT: true; the input reads as it did. -/
def fitHoldsSpec : ChangeSpec := { name := "fitHolds", fn := fun _ => fun
  | [d1, d2] => { results := [.lit (.bool true)], args := [d1, d2] }
  | _ => none }
def fitHoldsRow : OpenClaim := { program := "ytcjhodlimpgegaagreat", sum := "7f1a6b99363e611e4a984938ee3a06bb31218c2e652dce47e0351d7690acd581", func := "spokeshave/spokeshavelaw06.FitHolds", spec := "fitHolds", unfollowed := true, recurses := true, apart := false }
def FitHoldsSaid : Prop := fitHoldsRow.holds Tryz.pinned (OpenSpec.ofChange fitHoldsSpec)

/-- ITS FALSE NEIGHBOUR: 'it returns false'. Refute it at one input. -/
def fitHoldsWrong : ChangeSpec := { name := "fitHolds", fn := fun _ => fun
  | [d1, d2] => { results := [.lit (.bool false)], args := [d1, d2] }
  | _ => none }
def FitHoldsWrongFalsely : Prop := fitHoldsRow.holds Tryz.pinned (OpenSpec.ofChange fitHoldsWrong)

/-- 'spokeshavelaw06.FitAll': WHATEVER THE INPUT: true; the input reads as it did. -/
def fitAllSpec : ChangeSpec := { name := "fitAll", fn := fun _ => fun
  | [d1, d2] => { results := [.lit (.bool true)], args := [d1, d2] }
  | _ => none }
def fitAllRow : OpenClaim := { program := "ytcjhodlimpgegaagreat", sum := "7f1a6b99363e611e4a984938ee3a06bb31218c2e652dce47e0351d7690acd581", func := "spokeshave/spokeshavelaw06.FitAll", spec := "fitAll", unfollowed := true, recurses := true, apart := false }
def FitAllSaid : Prop := fitAllRow.holds Tryz.pinned (OpenSpec.ofChange fitAllSpec)

/-- ITS FALSE NEIGHBOUR: 'it returns false'. Refute it at one input. -/
def fitAllWrong : ChangeSpec := { name := "fitAll", fn := fun _ => fun
  | [d1, d2] => { results := [.lit (.bool false)], args := [d1, d2] }
  | _ => none }
def FitAllWrongFalsely : Prop := fitAllRow.holds Tryz.pinned (OpenSpec.ofChange fitAllWrong)

/-- 'spokeshavelaw06.FitBreaks': WHATEVER THE INPUT: true; the input reads as it did. -/
def fitBreaksSpec : ChangeSpec := { name := "fitBreaks", fn := fun _ => fun
  | [d1, d2, d3] => { results := [.lit (.bool true)], args := [d1, d2, d3] }
  | _ => none }
def fitBreaksRow : OpenClaim := { program := "ytcjhodlimpgegaagreat", sum := "7f1a6b99363e611e4a984938ee3a06bb31218c2e652dce47e0351d7690acd581", func := "spokeshave/spokeshavelaw06.FitBreaks", spec := "fitBreaks", unfollowed := true, recurses := true, apart := false }
def FitBreaksSaid : Prop := fitBreaksRow.holds Tryz.pinned (OpenSpec.ofChange fitBreaksSpec)

/-- ITS FALSE NEIGHBOUR: 'it returns false'. Refute it at one input. -/
def fitBreaksWrong : ChangeSpec := { name := "fitBreaks", fn := fun _ => fun
  | [d1, d2, d3] => { results := [.lit (.bool false)], args := [d1, d2, d3] }
  | _ => none }
def FitBreaksWrongFalsely : Prop := fitBreaksRow.holds Tryz.pinned (OpenSpec.ofChange fitBreaksWrong)

/-- 'spokeshavelaw06.FitAdjusts': WHATEVER THE INPUT: true; the input reads as it did. -/
def fitAdjustsSpec : ChangeSpec := { name := "fitAdjusts", fn := fun _ => fun
  | [d1, d2, d3] => { results := [.lit (.bool true)], args := [d1, d2, d3] }
  | _ => none }
def fitAdjustsRow : OpenClaim := { program := "ytcjhodlimpgegaagreat", sum := "7f1a6b99363e611e4a984938ee3a06bb31218c2e652dce47e0351d7690acd581", func := "spokeshave/spokeshavelaw06.FitAdjusts", spec := "fitAdjusts", unfollowed := true, recurses := true, apart := false }
def FitAdjustsSaid : Prop := fitAdjustsRow.holds Tryz.pinned (OpenSpec.ofChange fitAdjustsSpec)

/-- ITS FALSE NEIGHBOUR: 'it returns false'. Refute it at one input. -/
def fitAdjustsWrong : ChangeSpec := { name := "fitAdjusts", fn := fun _ => fun
  | [d1, d2, d3] => { results := [.lit (.bool false)], args := [d1, d2, d3] }
  | _ => none }
def FitAdjustsWrongFalsely : Prop := fitAdjustsRow.holds Tryz.pinned (OpenSpec.ofChange fitAdjustsWrong)

/-- 'spokeshavelaw06.FitWorst': WHATEVER THE INPUT: true; the input reads as it did. -/
def fitWorstSpec : ChangeSpec := { name := "fitWorst", fn := fun _ => fun
  | [d1, d2] => { results := [.lit (.bool true)], args := [d1, d2] }
  | _ => none }
def fitWorstRow : OpenClaim := { program := "ytcjhodlimpgegaagreat", sum := "7f1a6b99363e611e4a984938ee3a06bb31218c2e652dce47e0351d7690acd581", func := "spokeshave/spokeshavelaw06.FitWorst", spec := "fitWorst", unfollowed := true, recurses := true, apart := false }
def FitWorstSaid : Prop := fitWorstRow.holds Tryz.pinned (OpenSpec.ofChange fitWorstSpec)

/-- ITS FALSE NEIGHBOUR: 'it returns false'. Refute it at one input. -/
def fitWorstWrong : ChangeSpec := { name := "fitWorst", fn := fun _ => fun
  | [d1, d2] => { results := [.lit (.bool false)], args := [d1, d2] }
  | _ => none }
def FitWorstWrongFalsely : Prop := fitWorstRow.holds Tryz.pinned (OpenSpec.ofChange fitWorstWrong)

/-- 'spokeshavelaw06.FitPanels': WHATEVER THE INPUT: true; the input reads as it did. -/
def fitPanelsSpec : ChangeSpec := { name := "fitPanels", fn := fun _ => fun
  | [d1, d2] => { results := [.lit (.bool true)], args := [d1, d2] }
  | _ => none }
def fitPanelsRow : OpenClaim := { program := "ytcjhodlimpgegaagreat", sum := "7f1a6b99363e611e4a984938ee3a06bb31218c2e652dce47e0351d7690acd581", func := "spokeshave/spokeshavelaw06.FitPanels", spec := "fitPanels", unfollowed := true, recurses := true, apart := false }
def FitPanelsSaid : Prop := fitPanelsRow.holds Tryz.pinned (OpenSpec.ofChange fitPanelsSpec)

/-- ITS FALSE NEIGHBOUR: 'it returns false'. Refute it at one input. -/
def fitPanelsWrong : ChangeSpec := { name := "fitPanels", fn := fun _ => fun
  | [d1, d2] => { results := [.lit (.bool false)], args := [d1, d2] }
  | _ => none }
def FitPanelsWrongFalsely : Prop := fitPanelsRow.holds Tryz.pinned (OpenSpec.ofChange fitPanelsWrong)

/-- 'spokeshavelaw06.FitEverySeason': WHATEVER THE INPUT: true; the input reads as it did. -/
def fitEverySeasonSpec : ChangeSpec := { name := "fitEverySeason", fn := fun _ => fun
  | [d1, d2, d3] => { results := [.lit (.bool true)], args := [d1, d2, d3] }
  | _ => none }
def fitEverySeasonRow : OpenClaim := { program := "ytcjhodlimpgegaagreat", sum := "7f1a6b99363e611e4a984938ee3a06bb31218c2e652dce47e0351d7690acd581", func := "spokeshave/spokeshavelaw06.FitEverySeason", spec := "fitEverySeason", unfollowed := true, recurses := true, apart := false }
def FitEverySeasonSaid : Prop := fitEverySeasonRow.holds Tryz.pinned (OpenSpec.ofChange fitEverySeasonSpec)

/-- ITS FALSE NEIGHBOUR: 'it returns false'. Refute it at one input. -/
def fitEverySeasonWrong : ChangeSpec := { name := "fitEverySeason", fn := fun _ => fun
  | [d1, d2, d3] => { results := [.lit (.bool false)], args := [d1, d2, d3] }
  | _ => none }
def FitEverySeasonWrongFalsely : Prop := fitEverySeasonRow.holds Tryz.pinned (OpenSpec.ofChange fitEverySeasonWrong)

/- THE SECOND FORM. 'bulk': how many values and letters a reading holds, each counted each time it is reached (what is shared counts as often as it is met; a slice's spare places count too). A statement '..UptoSaid' is the law's where the arguments, and the package variables that the reading takes, are together of bulk at most 1048576: NARROWER than '..Said'. Prove '..Said' where nothing that the law and all that it calls make is longer than what came in: it says more and counts as full. Else prove '..UptoSaid'. A law counts once. -/
mutual
def uptoBulk {H : Type} : DataW H → Nat
  | .lit (.string bytes) => bytes.length + 1
  | .lit _ => 1
  | .nil => 1
  | .ptr d => uptoBulk d + 1
  | .slice elems spare => uptoBulkAll elems + uptoBulkAll spare + 1
  | .agg parts => uptoBulkAll parts + 1
  | .iface _ d => uptoBulk d + 1
  | .map entries => uptoBulkEntries entries + 1
  | .held _ => 1
def uptoBulkAll {H : Type} : List (DataW H) → Nat
  | [] => 0
  | d :: r => uptoBulk d + uptoBulkAll r
def uptoBulkEntries {H : Type} : List (Lit × DataW H) → Nat
  | [] => 0
  | x :: r => uptoBulkEntry x + uptoBulkEntries r
def uptoBulkEntry {H : Type} : Lit × DataW H → Nat
  | (.string bytes, d) => bytes.length + uptoBulk d + 1
  | (_, d) => uptoBulk d + 1
 end
def uptoSmall : (H : Type) → List (DataW H) → Bool := fun _ ds => decide (uptoBulkAll ds ≤ 1048576)
def OpenSpec.upto (s : _root_.Go.ChangeSpec) : _root_.Go.OpenSpec := { _root_.Go.OpenSpec.ofChange s with cond := some uptoSmall }

/-- 'spokeshavelaw06.FitClearances', WHERE WHAT IT READS IS OF BULK AT MOST 1048576: true; the input reads as it did. -/
def fitClearancesUptoRow : OpenClaim := { program := "ytcjhodlimpgegaagreat", sum := "7f1a6b99363e611e4a984938ee3a06bb31218c2e652dce47e0351d7690acd581", func := "spokeshave/spokeshavelaw06.FitClearances", spec := "fitClearances", unfollowed := true, recurses := true, apart := false, narrowed := true }
def FitClearancesUptoSaid : Prop := fitClearancesUptoRow.holds Tryz.pinned (OpenSpec.upto fitClearancesSpec)

/-- 'spokeshavelaw06.FitHolds', WHERE WHAT IT READS IS OF BULK AT MOST 1048576: true; the input reads as it did. -/
def fitHoldsUptoRow : OpenClaim := { program := "ytcjhodlimpgegaagreat", sum := "7f1a6b99363e611e4a984938ee3a06bb31218c2e652dce47e0351d7690acd581", func := "spokeshave/spokeshavelaw06.FitHolds", spec := "fitHolds", unfollowed := true, recurses := true, apart := false, narrowed := true }
def FitHoldsUptoSaid : Prop := fitHoldsUptoRow.holds Tryz.pinned (OpenSpec.upto fitHoldsSpec)

/-- 'spokeshavelaw06.FitAll', WHERE WHAT IT READS IS OF BULK AT MOST 1048576: true; the input reads as it did. -/
def fitAllUptoRow : OpenClaim := { program := "ytcjhodlimpgegaagreat", sum := "7f1a6b99363e611e4a984938ee3a06bb31218c2e652dce47e0351d7690acd581", func := "spokeshave/spokeshavelaw06.FitAll", spec := "fitAll", unfollowed := true, recurses := true, apart := false, narrowed := true }
def FitAllUptoSaid : Prop := fitAllUptoRow.holds Tryz.pinned (OpenSpec.upto fitAllSpec)

/-- 'spokeshavelaw06.FitBreaks', WHERE WHAT IT READS IS OF BULK AT MOST 1048576: true; the input reads as it did. -/
def fitBreaksUptoRow : OpenClaim := { program := "ytcjhodlimpgegaagreat", sum := "7f1a6b99363e611e4a984938ee3a06bb31218c2e652dce47e0351d7690acd581", func := "spokeshave/spokeshavelaw06.FitBreaks", spec := "fitBreaks", unfollowed := true, recurses := true, apart := false, narrowed := true }
def FitBreaksUptoSaid : Prop := fitBreaksUptoRow.holds Tryz.pinned (OpenSpec.upto fitBreaksSpec)

/-- 'spokeshavelaw06.FitAdjusts', WHERE WHAT IT READS IS OF BULK AT MOST 1048576: true; the input reads as it did. -/
def fitAdjustsUptoRow : OpenClaim := { program := "ytcjhodlimpgegaagreat", sum := "7f1a6b99363e611e4a984938ee3a06bb31218c2e652dce47e0351d7690acd581", func := "spokeshave/spokeshavelaw06.FitAdjusts", spec := "fitAdjusts", unfollowed := true, recurses := true, apart := false, narrowed := true }
def FitAdjustsUptoSaid : Prop := fitAdjustsUptoRow.holds Tryz.pinned (OpenSpec.upto fitAdjustsSpec)

/-- 'spokeshavelaw06.FitWorst', WHERE WHAT IT READS IS OF BULK AT MOST 1048576: true; the input reads as it did. -/
def fitWorstUptoRow : OpenClaim := { program := "ytcjhodlimpgegaagreat", sum := "7f1a6b99363e611e4a984938ee3a06bb31218c2e652dce47e0351d7690acd581", func := "spokeshave/spokeshavelaw06.FitWorst", spec := "fitWorst", unfollowed := true, recurses := true, apart := false, narrowed := true }
def FitWorstUptoSaid : Prop := fitWorstUptoRow.holds Tryz.pinned (OpenSpec.upto fitWorstSpec)

/-- 'spokeshavelaw06.FitPanels', WHERE WHAT IT READS IS OF BULK AT MOST 1048576: true; the input reads as it did. -/
def fitPanelsUptoRow : OpenClaim := { program := "ytcjhodlimpgegaagreat", sum := "7f1a6b99363e611e4a984938ee3a06bb31218c2e652dce47e0351d7690acd581", func := "spokeshave/spokeshavelaw06.FitPanels", spec := "fitPanels", unfollowed := true, recurses := true, apart := false, narrowed := true }
def FitPanelsUptoSaid : Prop := fitPanelsUptoRow.holds Tryz.pinned (OpenSpec.upto fitPanelsSpec)

/-- 'spokeshavelaw06.FitEverySeason', WHERE WHAT IT READS IS OF BULK AT MOST 1048576: true; the input reads as it did. -/
def fitEverySeasonUptoRow : OpenClaim := { program := "ytcjhodlimpgegaagreat", sum := "7f1a6b99363e611e4a984938ee3a06bb31218c2e652dce47e0351d7690acd581", func := "spokeshave/spokeshavelaw06.FitEverySeason", spec := "fitEverySeason", unfollowed := true, recurses := true, apart := false, narrowed := true }
def FitEverySeasonUptoSaid : Prop := fitEverySeasonUptoRow.holds Tryz.pinned (OpenSpec.upto fitEverySeasonSpec)

end Rows
end Go.Proofs.YtcjhodlimpgegaaGreat
