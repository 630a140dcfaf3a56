/- The examples' call of the chapter gives true in every world. -/
import Derived.Test.YtcboppdjjpeeoaaGreatK0
import Derived.Test.YtcboppdjjpeeoaaGreatK1
import Derived.Test.YtcboppdjjpeeoaaGreatK2
import Derived.Test.YtcboppdjjpeeoaaGreatK3
import Derived.Test.YtcboppdjjpeeoaaGreatK4
import Derived.Test.YtcboppdjjpeeoaaGreatK5
import Derived.Below
namespace Go.Proofs.YtcboppdjjpeeoaaGreat
open Go Go.Ax Go.RowKit
noncomputable section
def known : List Ent := [e0, e1, e2, e3, e4, e5, e6, e7, e8, e9, e10, e11, e12, e13, e14, e15, e16, e17, e18, e19]
theorem known_ok : ∀ e ∈ known, EntOk Tryz.prog e := (entCons e0_ok (entCons e1_ok (entCons e2_ok (entCons e3_ok (entCons e4_ok (entCons e5_ok (entCons e6_ok (entCons e7_ok (entCons e8_ok (entCons e9_ok (entCons e10_ok (entCons e11_ok (entCons e12_ok (entCons e13_ok (entCons e14_ok (entCons e15_ok (entCons e16_ok (entCons e17_ok (entCons e18_ok (entCons e19_ok entNone))))))))))))))))))))
def outTrue (r : Option (Out × St)) : Bool := match r with | some (.val (.one (.sc (.bool b))), _) => b | _ => false
theorem outTrue_of {r : Option (Out × St)} (h : outTrue r = true) : ∃ s, r = some (.val (.one (.sc (.bool true))), s) := by
  unfold outTrue at h
  split at h
  · subst h; exact ⟨_, rfl⟩
  · cases h
set_option maxRecDepth 100000 in
theorem awake_run : outTrue (execF Tryz.prog known 100000 (.call 8 []) { h := .leaf, n := 0, lo := big }) = true := by kernel_rfl
theorem awake_any (w : World) : Calls Tryz.prog 8 #[] w fun e w' => e = .returned (.bool true) ∧ Below w.heap.size w w' := by
  obtain ⟨s, hs⟩ := outTrue_of awake_run
  refine (calls_of_execF known_ok hs w).mono ?_
  rintro e w' ⟨q, u, rfl, hu, _, h1, h2, h3, h4, h5⟩
  exact ⟨by rw [show u = _ from hu], ⟨h3, h4, h5, h1, h2⟩⟩
end
end Go.Proofs.YtcboppdjjpeeoaaGreat
