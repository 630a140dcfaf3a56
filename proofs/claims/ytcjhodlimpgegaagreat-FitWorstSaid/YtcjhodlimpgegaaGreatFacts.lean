/- Closed facts of the seat that every statement's row asks. -/
import Derived.Test.YtcjhodlimpgegaaGreatRows
import Derived.ProofKit
import Derived.KernelRfl
namespace Go.Proofs.YtcjhodlimpgegaaGreat
open Go
theorem own : ownKnob Tryz.prog.godebug = none := by kernel_rfl
theorem laidOut : laidOutB Tryz.prog = true := by kernel_rfl
theorem laidOut' : laidOutB Tryz.pinned.checked.prog = true := laidOut
theorem mapsRow : mapsRowed Tryz.pinned.checked.prog = true := by kernel_rfl
/-- What the head of the program's words says of how it was made. -/
theorem entered : (Tryz.pinned.checked.prog.mayEnter && (false == Tryz.pinned.checked.prog.liftsFinal) && (Tryz.pinned.checked.prog.make == some .cut)) = true := by kernel_rfl
theorem heads : Tryz.pinned.checked.prog.mayEnter = true ∧ (false == Tryz.pinned.checked.prog.liftsFinal) = true ∧ (Tryz.pinned.checked.prog.make == some .cut) = true := by
  have h := entered
  rw [Bool.and_eq_true, Bool.and_eq_true] at h
  exact ⟨h.1.1, h.1.2, h.2⟩
end Go.Proofs.YtcjhodlimpgegaaGreat
