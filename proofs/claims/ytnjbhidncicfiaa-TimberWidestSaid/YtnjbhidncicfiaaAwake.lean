/- The examples' call of chapter 2 gives true in every world. -/
import Derived.Test.YtnjbhidncicfiaaProg
import Derived.Test.YtnjbhidncicfiaaAxAll
import Derived.KernelRfl
import Derived.Below
namespace Go.Proofs.Ytnjbhidncicfiaa
open Go Go.Ax Go.RowKit
noncomputable section
def outTrue (r : Option (Out × St)) : Bool := match r with | some (.val (.one (.sc (.bool b))), _) => b | _ => false
theorem outTrue_of {r : Option (Out × St)} (h : outTrue r = true) : ∃ s, r = some (.val (.one (.sc (.bool true))), s) := by
  unfold outTrue at h
  split at h
  · subst h; exact ⟨_, rfl⟩
  · cases h
set_option maxRecDepth 100000 in
theorem awake_run : outTrue (exec Try.prog 3000 (.call 18 []) { h := .leaf, n := 0, lo := big }) = true := by kernel_rfl
theorem awake_any (w : World) : Calls Try.prog 18 #[] w fun e w' => e = .returned (.bool true) ∧ Below w.heap.size w w' := by
  obtain ⟨s, hs⟩ := outTrue_of awake_run
  refine (calls_of_exec hs w).mono ?_
  rintro e w' ⟨q, u, rfl, hu, _, h1, h2, h3, h4, h5⟩
  exact ⟨by rw [show u = _ from hu], ⟨h3, h4, h5, h1, h2⟩⟩
end
end Go.Proofs.Ytnjbhidncicfiaa
