/-
  NARROWER THAN 'FOR EVERY INPUT', by the rows' own cells (each row's printed sentence says how): JointChecks: laid · JointNames: laid · JointFree: laid · JointFreeAt: laid · JointAreas: laid · JointStandards: laid · JointOpposite: laid.
  DERIVED. THE GIVEN ROWS OF THIS SEAT. 7 by the template 'for every input the law returns true; each argument reads behind the call as it read before'; 0 by the template 'total and deterministic' (their statements: YtipfdkecodadnaaGreatDoorTotals.lean).
  GIVEN WITH THE SEED: the statements are not yours to turn. If you find one false, say at which input.
  Laid BY PROGRAM, IN A SANDBOX (cutbox-rows.mjs): the forced cells as the released guide's own fill.sh prints them over the translation 094d877f3a1a9d9d… (all of the seat's roots in one cut). By AI agents, Wed Nov 11 2026. No macro, syntax, notation, axiom, sorry.
-/
import Derived.Test.YtipfdkecodadnaaGreatDoorChecked
import GoSem.Claim
import GoSem.ClaimJoined
import GoSem.ClaimMapViews
import Derived.JoinedTies
import Derived.KernelRfl
namespace Go.Proofs.YtipfdkecodadnaaGreatDoor
/- THE CELL 'sum', in the pinned program and in every row, IS THE sha256 OF THE DUMP (.gsa) THAT YtipfdkecodadnaaGreatDoorProg.lean LOADS. Nothing in Lean hashes anything: it is a label: what it is worth is what the hold of that sum in a sandbox is worth. -/
noncomputable def Tryz.pinned : Pinned := { name := "ytipfdkecodadnaagreatdoor", sum := "094d877f3a1a9d9d630a20da15548eee623c8b9ef6affc8f5f3736bfe575c106", checked := Tryz.checked }
namespace Rows
def none {H : Type} : Left H := { results := [], args := [] }

/- WHAT THE LISTED PACKAGE-LEVEL VARIABLES READ AS WHEN THE CALL BEGINS. Each datum BY PROGRAM (the guide's laid-datum.mjs) off the statement by which the dump's own 'gosem.cut.vars' lays the variable. In a bare row this is a premise. The card (YtipfdkecodadnaaGreatDoorCards.lean) ties it to the program's text. -/
def laid_math_bits_deBruijn32tab {H : Type} : DataW H := .agg [.lit (.int .u8 0), .lit (.int .u8 1), .lit (.int .u8 28), .lit (.int .u8 2), .lit (.int .u8 29), .lit (.int .u8 14), .lit (.int .u8 24), .lit (.int .u8 3), .lit (.int .u8 30), .lit (.int .u8 22), .lit (.int .u8 20), .lit (.int .u8 15), .lit (.int .u8 25), .lit (.int .u8 17), .lit (.int .u8 4), .lit (.int .u8 8), .lit (.int .u8 31), .lit (.int .u8 27), .lit (.int .u8 13), .lit (.int .u8 23), .lit (.int .u8 21), .lit (.int .u8 19), .lit (.int .u8 16), .lit (.int .u8 7), .lit (.int .u8 26), .lit (.int .u8 12), .lit (.int .u8 18), .lit (.int .u8 6), .lit (.int .u8 11), .lit (.int .u8 5), .lit (.int .u8 10), .lit (.int .u8 9)]
def laid_math_bits_deBruijn64tab {H : Type} : DataW H := .agg [.lit (.int .u8 0), .lit (.int .u8 1), .lit (.int .u8 56), .lit (.int .u8 2), .lit (.int .u8 57), .lit (.int .u8 49), .lit (.int .u8 28), .lit (.int .u8 3), .lit (.int .u8 61), .lit (.int .u8 58), .lit (.int .u8 42), .lit (.int .u8 50), .lit (.int .u8 38), .lit (.int .u8 29), .lit (.int .u8 17), .lit (.int .u8 4), .lit (.int .u8 62), .lit (.int .u8 47), .lit (.int .u8 59), .lit (.int .u8 36), .lit (.int .u8 45), .lit (.int .u8 43), .lit (.int .u8 51), .lit (.int .u8 22), .lit (.int .u8 53), .lit (.int .u8 39), .lit (.int .u8 33), .lit (.int .u8 30), .lit (.int .u8 24), .lit (.int .u8 18), .lit (.int .u8 12), .lit (.int .u8 5), .lit (.int .u8 63), .lit (.int .u8 55), .lit (.int .u8 48), .lit (.int .u8 27), .lit (.int .u8 60), .lit (.int .u8 41), .lit (.int .u8 37), .lit (.int .u8 16), .lit (.int .u8 46), .lit (.int .u8 35), .lit (.int .u8 44), .lit (.int .u8 21), .lit (.int .u8 52), .lit (.int .u8 32), .lit (.int .u8 23), .lit (.int .u8 11), .lit (.int .u8 54), .lit (.int .u8 26), .lit (.int .u8 40), .lit (.int .u8 15), .lit (.int .u8 34), .lit (.int .u8 20), .lit (.int .u8 31), .lit (.int .u8 10), .lit (.int .u8 25), .lit (.int .u8 14), .lit (.int .u8 19), .lit (.int .u8 9), .lit (.int .u8 13), .lit (.int .u8 8), .lit (.int .u8 7), .lit (.int .u8 6)]
def laid_internal_strconv_uint64pow10 {H : Type} : DataW H := .agg [.lit (.int .u64 1), .lit (.int .u64 10), .lit (.int .u64 100), .lit (.int .u64 1000), .lit (.int .u64 10000), .lit (.int .u64 100000), .lit (.int .u64 1000000), .lit (.int .u64 10000000), .lit (.int .u64 100000000), .lit (.int .u64 1000000000), .lit (.int .u64 10000000000), .lit (.int .u64 100000000000), .lit (.int .u64 1000000000000), .lit (.int .u64 10000000000000), .lit (.int .u64 100000000000000), .lit (.int .u64 1000000000000000), .lit (.int .u64 10000000000000000), .lit (.int .u64 100000000000000000), .lit (.int .u64 1000000000000000000), .lit (.int .u64 10000000000000000000)]
def laid_spokeshave_joint_kinds {H : Type} : DataW H := .agg [.agg [.lit (.string [108, 97, 112]), .lit (.int .i64 2), .lit (.int .i64 1), .lit (.int .i64 0)], .agg [.lit (.string [98, 114, 105, 100, 108, 101]), .lit (.int .i64 2), .lit (.int .i64 2), .lit (.int .i64 0)], .agg [.lit (.string [116, 101, 110, 111, 110]), .lit (.int .i64 2), .lit (.int .i64 4), .lit (.int .i64 0)], .agg [.lit (.string [115, 116, 111, 112, 112, 101, 100]), .lit (.int .i64 2), .lit (.int .i64 6), .lit (.int .i64 0)], .agg [.lit (.string [116, 111, 110, 103, 117, 101]), .lit (.int .i64 2), .lit (.int .i64 4), .lit (.int .i64 0)], .agg [.lit (.string [100, 111, 118, 101, 116, 97, 105, 108]), .lit (.int .i64 2), .lit (.int .i64 3), .lit (.int .i64 1)], .agg [.lit (.string [115, 99, 97, 114, 102]), .lit (.int .i64 2), .lit (.int .i64 3), .lit (.int .i64 0)], .agg [.lit (.string [102, 105, 110, 103, 101, 114, 115]), .lit (.int .i64 2), .lit (.int .i64 1), .lit (.int .i64 1)], .agg [.lit (.string [100, 111, 119, 101, 108, 115]), .lit (.int .i64 2), .lit (.int .i64 8), .lit (.int .i64 2)], .agg [.lit (.string [115, 112, 108, 105, 110, 101]), .lit (.int .i64 2), .lit (.int .i64 5), .lit (.int .i64 0)], .agg [.lit (.string [116, 104, 114, 101, 101]), .lit (.int .i64 3), .lit (.int .i64 5), .lit (.int .i64 0)]]

/-- 'spokeshavelaw03.JointChecks': WHATEVER THE INPUT: true; the input reads as it did. -/
def jointChecksSpec : ChangeSpec := { name := "jointChecks", fn := fun _ => fun
  | [d] => { results := [.lit (.bool true)], args := [d] }
  | _ => none }
def jointChecksRow : OpenClaim := { program := "ytipfdkecodadnaagreatdoor", sum := "094d877f3a1a9d9d630a20da15548eee623c8b9ef6affc8f5f3736bfe575c106", func := "spokeshave/spokeshavelaw03.JointChecks", spec := "jointChecks", unfollowed := true, recurses := true, named := ["spokeshave/joint.kinds", "internal/strconv.uint64pow10", "math/bits.deBruijn32tab", "math/bits.deBruijn64tab"], apart := false, laid := [("math/bits.deBruijn32tab", laid_math_bits_deBruijn32tab), ("math/bits.deBruijn64tab", laid_math_bits_deBruijn64tab), ("internal/strconv.uint64pow10", laid_internal_strconv_uint64pow10), ("spokeshave/joint.kinds", laid_spokeshave_joint_kinds)] }
def JointChecksSaid : Prop := jointChecksRow.holds Tryz.pinned (OpenSpec.ofChange jointChecksSpec)

/-- ITS FALSE NEIGHBOUR: 'it returns false'. Refute it at one input. -/
def jointChecksWrong : ChangeSpec := { name := "jointChecks", fn := fun _ => fun
  | [d] => { results := [.lit (.bool false)], args := [d] }
  | _ => none }
def JointChecksWrongFalsely : Prop := jointChecksRow.holds Tryz.pinned (OpenSpec.ofChange jointChecksWrong)

/-- 'spokeshavelaw03.JointNames': WHATEVER THE INPUT: true; the input reads as it did. -/
def jointNamesSpec : ChangeSpec := { name := "jointNames", fn := fun _ => fun
  | [d1, d2] => { results := [.lit (.bool true)], args := [d1, d2] }
  | _ => none }
def jointNamesRow : OpenClaim := { program := "ytipfdkecodadnaagreatdoor", sum := "094d877f3a1a9d9d630a20da15548eee623c8b9ef6affc8f5f3736bfe575c106", func := "spokeshave/spokeshavelaw03.JointNames", spec := "jointNames", unfollowed := true, recurses := true, named := ["spokeshave/joint.kinds", "internal/strconv.uint64pow10", "math/bits.deBruijn32tab", "math/bits.deBruijn64tab"], apart := false, laid := [("math/bits.deBruijn32tab", laid_math_bits_deBruijn32tab), ("math/bits.deBruijn64tab", laid_math_bits_deBruijn64tab), ("internal/strconv.uint64pow10", laid_internal_strconv_uint64pow10), ("spokeshave/joint.kinds", laid_spokeshave_joint_kinds)] }
def JointNamesSaid : Prop := jointNamesRow.holds Tryz.pinned (OpenSpec.ofChange jointNamesSpec)

/-- ITS FALSE NEIGHBOUR: 'it returns false'. Refute it at one input. -/
def jointNamesWrong : ChangeSpec := { name := "jointNames", fn := fun _ => fun
  | [d1, d2] => { results := [.lit (.bool false)], args := [d1, d2] }
  | _ => none }
def JointNamesWrongFalsely : Prop := jointNamesRow.holds Tryz.pinned (OpenSpec.ofChange jointNamesWrong)

/-- 'spokeshavelaw03.JointFree': WHATEVER THE INPUT: true; the input reads as it did. -/
def jointFreeSpec : ChangeSpec := { name := "jointFree", fn := fun _ => fun
  | [d1, d2] => { results := [.lit (.bool true)], args := [d1, d2] }
  | _ => none }
def jointFreeRow : OpenClaim := { program := "ytipfdkecodadnaagreatdoor", sum := "094d877f3a1a9d9d630a20da15548eee623c8b9ef6affc8f5f3736bfe575c106", func := "spokeshave/spokeshavelaw03.JointFree", spec := "jointFree", unfollowed := true, recurses := true, named := ["spokeshave/joint.kinds", "internal/strconv.uint64pow10", "math/bits.deBruijn32tab", "math/bits.deBruijn64tab"], apart := false, laid := [("math/bits.deBruijn32tab", laid_math_bits_deBruijn32tab), ("math/bits.deBruijn64tab", laid_math_bits_deBruijn64tab), ("internal/strconv.uint64pow10", laid_internal_strconv_uint64pow10), ("spokeshave/joint.kinds", laid_spokeshave_joint_kinds)] }
def JointFreeSaid : Prop := jointFreeRow.holds Tryz.pinned (OpenSpec.ofChange jointFreeSpec)

/-- ITS FALSE NEIGHBOUR: 'it returns false'. Refute it at one input. -/
def jointFreeWrong : ChangeSpec := { name := "jointFree", fn := fun _ => fun
  | [d1, d2] => { results := [.lit (.bool false)], args := [d1, d2] }
  | _ => none }
def JointFreeWrongFalsely : Prop := jointFreeRow.holds Tryz.pinned (OpenSpec.ofChange jointFreeWrong)

/-- 'spokeshavelaw03.JointFreeAt': WHATEVER THE INPUT: true; the input reads as it did. -/
def jointFreeAtSpec : ChangeSpec := { name := "jointFreeAt", fn := fun _ => fun
  | [d1, d2, d3] => { results := [.lit (.bool true)], args := [d1, d2, d3] }
  | _ => none }
def jointFreeAtRow : OpenClaim := { program := "ytipfdkecodadnaagreatdoor", sum := "094d877f3a1a9d9d630a20da15548eee623c8b9ef6affc8f5f3736bfe575c106", func := "spokeshave/spokeshavelaw03.JointFreeAt", spec := "jointFreeAt", unfollowed := true, recurses := true, named := ["spokeshave/joint.kinds", "internal/strconv.uint64pow10", "math/bits.deBruijn32tab", "math/bits.deBruijn64tab"], apart := false, laid := [("math/bits.deBruijn32tab", laid_math_bits_deBruijn32tab), ("math/bits.deBruijn64tab", laid_math_bits_deBruijn64tab), ("internal/strconv.uint64pow10", laid_internal_strconv_uint64pow10), ("spokeshave/joint.kinds", laid_spokeshave_joint_kinds)] }
def JointFreeAtSaid : Prop := jointFreeAtRow.holds Tryz.pinned (OpenSpec.ofChange jointFreeAtSpec)

/-- ITS FALSE NEIGHBOUR: 'it returns false'. Refute it at one input. -/
def jointFreeAtWrong : ChangeSpec := { name := "jointFreeAt", fn := fun _ => fun
  | [d1, d2, d3] => { results := [.lit (.bool false)], args := [d1, d2, d3] }
  | _ => none }
def JointFreeAtWrongFalsely : Prop := jointFreeAtRow.holds Tryz.pinned (OpenSpec.ofChange jointFreeAtWrong)

/-- 'spokeshavelaw03.JointAreas': WHATEVER THE INPUT: true; the input reads as it did. -/
def jointAreasSpec : ChangeSpec := { name := "jointAreas", fn := fun _ => fun
  | [d] => { results := [.lit (.bool true)], args := [d] }
  | _ => none }
def jointAreasRow : OpenClaim := { program := "ytipfdkecodadnaagreatdoor", sum := "094d877f3a1a9d9d630a20da15548eee623c8b9ef6affc8f5f3736bfe575c106", func := "spokeshave/spokeshavelaw03.JointAreas", spec := "jointAreas", unfollowed := true, recurses := true, named := ["spokeshave/joint.kinds", "internal/strconv.uint64pow10", "math/bits.deBruijn32tab", "math/bits.deBruijn64tab"], apart := false, laid := [("math/bits.deBruijn32tab", laid_math_bits_deBruijn32tab), ("math/bits.deBruijn64tab", laid_math_bits_deBruijn64tab), ("internal/strconv.uint64pow10", laid_internal_strconv_uint64pow10), ("spokeshave/joint.kinds", laid_spokeshave_joint_kinds)] }
def JointAreasSaid : Prop := jointAreasRow.holds Tryz.pinned (OpenSpec.ofChange jointAreasSpec)

/-- ITS FALSE NEIGHBOUR: 'it returns false'. Refute it at one input. -/
def jointAreasWrong : ChangeSpec := { name := "jointAreas", fn := fun _ => fun
  | [d] => { results := [.lit (.bool false)], args := [d] }
  | _ => none }
def JointAreasWrongFalsely : Prop := jointAreasRow.holds Tryz.pinned (OpenSpec.ofChange jointAreasWrong)

/-- 'spokeshavelaw03.JointStandards': WHATEVER THE INPUT: true; the input reads as it did. -/
def jointStandardsSpec : ChangeSpec := { name := "jointStandards", fn := fun _ => fun
  | [d1, d2] => { results := [.lit (.bool true)], args := [d1, d2] }
  | _ => none }
def jointStandardsRow : OpenClaim := { program := "ytipfdkecodadnaagreatdoor", sum := "094d877f3a1a9d9d630a20da15548eee623c8b9ef6affc8f5f3736bfe575c106", func := "spokeshave/spokeshavelaw03.JointStandards", spec := "jointStandards", unfollowed := true, recurses := true, named := ["spokeshave/joint.kinds", "internal/strconv.uint64pow10", "math/bits.deBruijn32tab", "math/bits.deBruijn64tab"], apart := false, laid := [("math/bits.deBruijn32tab", laid_math_bits_deBruijn32tab), ("math/bits.deBruijn64tab", laid_math_bits_deBruijn64tab), ("internal/strconv.uint64pow10", laid_internal_strconv_uint64pow10), ("spokeshave/joint.kinds", laid_spokeshave_joint_kinds)] }
def JointStandardsSaid : Prop := jointStandardsRow.holds Tryz.pinned (OpenSpec.ofChange jointStandardsSpec)

/-- ITS FALSE NEIGHBOUR: 'it returns false'. Refute it at one input. -/
def jointStandardsWrong : ChangeSpec := { name := "jointStandards", fn := fun _ => fun
  | [d1, d2] => { results := [.lit (.bool false)], args := [d1, d2] }
  | _ => none }
def JointStandardsWrongFalsely : Prop := jointStandardsRow.holds Tryz.pinned (OpenSpec.ofChange jointStandardsWrong)

/-- 'spokeshavelaw03.JointOpposite': WHATEVER THE INPUT: true; the input reads as it did. -/
def jointOppositeSpec : ChangeSpec := { name := "jointOpposite", fn := fun _ => fun
  | [d1, d2] => { results := [.lit (.bool true)], args := [d1, d2] }
  | _ => none }
def jointOppositeRow : OpenClaim := { program := "ytipfdkecodadnaagreatdoor", sum := "094d877f3a1a9d9d630a20da15548eee623c8b9ef6affc8f5f3736bfe575c106", func := "spokeshave/spokeshavelaw03.JointOpposite", spec := "jointOpposite", unfollowed := true, recurses := true, named := ["spokeshave/joint.kinds", "internal/strconv.uint64pow10", "math/bits.deBruijn32tab", "math/bits.deBruijn64tab"], apart := false, laid := [("math/bits.deBruijn32tab", laid_math_bits_deBruijn32tab), ("math/bits.deBruijn64tab", laid_math_bits_deBruijn64tab), ("internal/strconv.uint64pow10", laid_internal_strconv_uint64pow10), ("spokeshave/joint.kinds", laid_spokeshave_joint_kinds)] }
def JointOppositeSaid : Prop := jointOppositeRow.holds Tryz.pinned (OpenSpec.ofChange jointOppositeSpec)

/-- ITS FALSE NEIGHBOUR: 'it returns false'. Refute it at one input. -/
def jointOppositeWrong : ChangeSpec := { name := "jointOpposite", fn := fun _ => fun
  | [d1, d2] => { results := [.lit (.bool false)], args := [d1, d2] }
  | _ => none }
def JointOppositeWrongFalsely : Prop := jointOppositeRow.holds Tryz.pinned (OpenSpec.ofChange jointOppositeWrong)

/- THE SECOND FORM. 'bulk': how many values and letters a reading holds, each counted each time it is reached (what is shared counts as often as it is met; a slice's spare places count too). A statement '..UptoSaid' is the law's where the arguments, and the package variables that the reading takes, are together of bulk at most 1048576: NARROWER than '..Said'. Prove '..Said' where nothing that the law and all that it calls make is longer than what came in: it says more and counts as full. Else prove '..UptoSaid'. A law counts once. -/
mutual
def uptoBulk {H : Type} : DataW H → Nat
  | .lit (.string bytes) => bytes.length + 1
  | .lit _ => 1
  | .nil => 1
  | .ptr d => uptoBulk d + 1
  | .slice elems spare => uptoBulkAll elems + uptoBulkAll spare + 1
  | .agg parts => uptoBulkAll parts + 1
  | .iface _ d => uptoBulk d + 1
  | .map entries => uptoBulkEntries entries + 1
  | .held _ => 1
def uptoBulkAll {H : Type} : List (DataW H) → Nat
  | [] => 0
  | d :: r => uptoBulk d + uptoBulkAll r
def uptoBulkEntries {H : Type} : List (Lit × DataW H) → Nat
  | [] => 0
  | x :: r => uptoBulkEntry x + uptoBulkEntries r
def uptoBulkEntry {H : Type} : Lit × DataW H → Nat
  | (.string bytes, d) => bytes.length + uptoBulk d + 1
  | (_, d) => uptoBulk d + 1
 end
def uptoSmall : (H : Type) → List (DataW H) → Bool := fun _ ds => decide (uptoBulkAll ds ≤ 1048576)
def OpenSpec.upto (s : _root_.Go.ChangeSpec) : _root_.Go.OpenSpec := { _root_.Go.OpenSpec.ofChange s with cond := some uptoSmall }

/-- 'spokeshavelaw03.JointChecks', WHERE WHAT IT READS IS OF BULK AT MOST 1048576: true; the input reads as it did. -/
def jointChecksUptoRow : OpenClaim := { program := "ytipfdkecodadnaagreatdoor", sum := "094d877f3a1a9d9d630a20da15548eee623c8b9ef6affc8f5f3736bfe575c106", func := "spokeshave/spokeshavelaw03.JointChecks", spec := "jointChecks", unfollowed := true, recurses := true, named := ["spokeshave/joint.kinds", "internal/strconv.uint64pow10", "math/bits.deBruijn32tab", "math/bits.deBruijn64tab"], apart := false, laid := [("math/bits.deBruijn32tab", laid_math_bits_deBruijn32tab), ("math/bits.deBruijn64tab", laid_math_bits_deBruijn64tab), ("internal/strconv.uint64pow10", laid_internal_strconv_uint64pow10), ("spokeshave/joint.kinds", laid_spokeshave_joint_kinds)], narrowed := true }
def JointChecksUptoSaid : Prop := jointChecksUptoRow.holds Tryz.pinned (OpenSpec.upto jointChecksSpec)

/-- 'spokeshavelaw03.JointNames', WHERE WHAT IT READS IS OF BULK AT MOST 1048576: true; the input reads as it did. -/
def jointNamesUptoRow : OpenClaim := { program := "ytipfdkecodadnaagreatdoor", sum := "094d877f3a1a9d9d630a20da15548eee623c8b9ef6affc8f5f3736bfe575c106", func := "spokeshave/spokeshavelaw03.JointNames", spec := "jointNames", unfollowed := true, recurses := true, named := ["spokeshave/joint.kinds", "internal/strconv.uint64pow10", "math/bits.deBruijn32tab", "math/bits.deBruijn64tab"], apart := false, laid := [("math/bits.deBruijn32tab", laid_math_bits_deBruijn32tab), ("math/bits.deBruijn64tab", laid_math_bits_deBruijn64tab), ("internal/strconv.uint64pow10", laid_internal_strconv_uint64pow10), ("spokeshave/joint.kinds", laid_spokeshave_joint_kinds)], narrowed := true }
def JointNamesUptoSaid : Prop := jointNamesUptoRow.holds Tryz.pinned (OpenSpec.upto jointNamesSpec)

/-- 'spokeshavelaw03.JointFree', WHERE WHAT IT READS IS OF BULK AT MOST 1048576: true; the input reads as it did. -/
def jointFreeUptoRow : OpenClaim := { program := "ytipfdkecodadnaagreatdoor", sum := "094d877f3a1a9d9d630a20da15548eee623c8b9ef6affc8f5f3736bfe575c106", func := "spokeshave/spokeshavelaw03.JointFree", spec := "jointFree", unfollowed := true, recurses := true, named := ["spokeshave/joint.kinds", "internal/strconv.uint64pow10", "math/bits.deBruijn32tab", "math/bits.deBruijn64tab"], apart := false, laid := [("math/bits.deBruijn32tab", laid_math_bits_deBruijn32tab), ("math/bits.deBruijn64tab", laid_math_bits_deBruijn64tab), ("internal/strconv.uint64pow10", laid_internal_strconv_uint64pow10), ("spokeshave/joint.kinds", laid_spokeshave_joint_kinds)], narrowed := true }
def JointFreeUptoSaid : Prop := jointFreeUptoRow.holds Tryz.pinned (OpenSpec.upto jointFreeSpec)

/-- 'spokeshavelaw03.JointFreeAt', WHERE WHAT IT READS IS OF BULK AT MOST 1048576: true; the input reads as it did. -/
def jointFreeAtUptoRow : OpenClaim := { program := "ytipfdkecodadnaagreatdoor", sum := "094d877f3a1a9d9d630a20da15548eee623c8b9ef6affc8f5f3736bfe575c106", func := "spokeshave/spokeshavelaw03.JointFreeAt", spec := "jointFreeAt", unfollowed := true, recurses := true, named := ["spokeshave/joint.kinds", "internal/strconv.uint64pow10", "math/bits.deBruijn32tab", "math/bits.deBruijn64tab"], apart := false, laid := [("math/bits.deBruijn32tab", laid_math_bits_deBruijn32tab), ("math/bits.deBruijn64tab", laid_math_bits_deBruijn64tab), ("internal/strconv.uint64pow10", laid_internal_strconv_uint64pow10), ("spokeshave/joint.kinds", laid_spokeshave_joint_kinds)], narrowed := true }
def JointFreeAtUptoSaid : Prop := jointFreeAtUptoRow.holds Tryz.pinned (OpenSpec.upto jointFreeAtSpec)

/-- 'spokeshavelaw03.JointAreas', WHERE WHAT IT READS IS OF BULK AT MOST 1048576: true; the input reads as it did. -/
def jointAreasUptoRow : OpenClaim := { program := "ytipfdkecodadnaagreatdoor", sum := "094d877f3a1a9d9d630a20da15548eee623c8b9ef6affc8f5f3736bfe575c106", func := "spokeshave/spokeshavelaw03.JointAreas", spec := "jointAreas", unfollowed := true, recurses := true, named := ["spokeshave/joint.kinds", "internal/strconv.uint64pow10", "math/bits.deBruijn32tab", "math/bits.deBruijn64tab"], apart := false, laid := [("math/bits.deBruijn32tab", laid_math_bits_deBruijn32tab), ("math/bits.deBruijn64tab", laid_math_bits_deBruijn64tab), ("internal/strconv.uint64pow10", laid_internal_strconv_uint64pow10), ("spokeshave/joint.kinds", laid_spokeshave_joint_kinds)], narrowed := true }
def JointAreasUptoSaid : Prop := jointAreasUptoRow.holds Tryz.pinned (OpenSpec.upto jointAreasSpec)

/-- 'spokeshavelaw03.JointStandards', WHERE WHAT IT READS IS OF BULK AT MOST 1048576: true; the input reads as it did. -/
def jointStandardsUptoRow : OpenClaim := { program := "ytipfdkecodadnaagreatdoor", sum := "094d877f3a1a9d9d630a20da15548eee623c8b9ef6affc8f5f3736bfe575c106", func := "spokeshave/spokeshavelaw03.JointStandards", spec := "jointStandards", unfollowed := true, recurses := true, named := ["spokeshave/joint.kinds", "internal/strconv.uint64pow10", "math/bits.deBruijn32tab", "math/bits.deBruijn64tab"], apart := false, laid := [("math/bits.deBruijn32tab", laid_math_bits_deBruijn32tab), ("math/bits.deBruijn64tab", laid_math_bits_deBruijn64tab), ("internal/strconv.uint64pow10", laid_internal_strconv_uint64pow10), ("spokeshave/joint.kinds", laid_spokeshave_joint_kinds)], narrowed := true }
def JointStandardsUptoSaid : Prop := jointStandardsUptoRow.holds Tryz.pinned (OpenSpec.upto jointStandardsSpec)

/-- 'spokeshavelaw03.JointOpposite', WHERE WHAT IT READS IS OF BULK AT MOST 1048576: true; the input reads as it did. -/
def jointOppositeUptoRow : OpenClaim := { program := "ytipfdkecodadnaagreatdoor", sum := "094d877f3a1a9d9d630a20da15548eee623c8b9ef6affc8f5f3736bfe575c106", func := "spokeshave/spokeshavelaw03.JointOpposite", spec := "jointOpposite", unfollowed := true, recurses := true, named := ["spokeshave/joint.kinds", "internal/strconv.uint64pow10", "math/bits.deBruijn32tab", "math/bits.deBruijn64tab"], apart := false, laid := [("math/bits.deBruijn32tab", laid_math_bits_deBruijn32tab), ("math/bits.deBruijn64tab", laid_math_bits_deBruijn64tab), ("internal/strconv.uint64pow10", laid_internal_strconv_uint64pow10), ("spokeshave/joint.kinds", laid_spokeshave_joint_kinds)], narrowed := true }
def JointOppositeUptoSaid : Prop := jointOppositeUptoRow.holds Tryz.pinned (OpenSpec.upto jointOppositeSpec)

end Rows
end Go.Proofs.YtipfdkecodadnaaGreatDoor
