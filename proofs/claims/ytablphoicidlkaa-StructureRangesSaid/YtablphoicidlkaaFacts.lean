/- Closed facts of the seat that every statement's row asks. -/
import Derived.Test.YtablphoicidlkaaRows
import Derived.ProofKit
import Derived.KernelRfl
namespace Go.Proofs.Ytablphoicidlkaa
open Go
theorem own : ownKnob Try.prog.godebug = none := by kernel_rfl
theorem laidOut : laidOutB Try.prog = true := by kernel_rfl
theorem laidOut' : laidOutB Try.pinned.checked.prog = true := laidOut
theorem mapsRow : mapsRowed Try.pinned.checked.prog = true := by kernel_rfl
/-- What the head of the program's words says of how it was made. -/
theorem entered : (Try.pinned.checked.prog.mayEnter && (false == Try.pinned.checked.prog.liftsFinal) && (Try.pinned.checked.prog.make == some .cut)) = true := by kernel_rfl
theorem heads : Try.pinned.checked.prog.mayEnter = true ∧ (false == Try.pinned.checked.prog.liftsFinal) = true ∧ (Try.pinned.checked.prog.make == some .cut) = true := by
  have h := entered
  rw [Bool.and_eq_true, Bool.and_eq_true] at h
  exact ⟨h.1.1, h.1.2, h.2⟩
end Go.Proofs.Ytablphoicidlkaa
