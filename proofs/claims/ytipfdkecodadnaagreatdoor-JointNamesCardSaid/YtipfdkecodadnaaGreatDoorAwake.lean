/- The examples' call of the chapter gives true in every world in which the package variables hold what the program lays. -/
import Derived.Test.YtipfdkecodadnaaGreatDoorK0
import Derived.Test.YtipfdkecodadnaaGreatDoorK1
import Derived.Test.YtipfdkecodadnaaGreatDoorK2
import Derived.Test.YtipfdkecodadnaaGreatDoorK3
import Derived.Test.YtipfdkecodadnaaGreatDoorG0
import Derived.Below
namespace Go.Proofs.YtipfdkecodadnaaGreatDoor
open Go Go.Ax Go.RowKit
noncomputable section
def known : List Ent := [e0, e1, e2, e3]
theorem known_ok : ∀ e ∈ known, EntOk Tryz.prog e := (entCons e0_ok (entCons e1_ok (entCons e2_ok (entCons e3_ok entNone))))
def outTrue (r : Option (Out × St)) : Bool := match r with | some (.val (.one (.sc (.bool b))), s) => b && Nat.ble 8 s.lo | _ => false
theorem outTrue_of {r : Option (Out × St)} (h : outTrue r = true) : ∃ s, r = some (.val (.one (.sc (.bool true))), s) ∧ 8 ≤ s.lo := by
  unfold outTrue at h
  split at h
  · rw [Bool.and_eq_true] at h
    obtain ⟨h1, h2⟩ := h
    subst h1; exact ⟨_, rfl, Nat.le_of_ble_eq_true h2⟩
  · cases h
set_option maxRecDepth 100000 in
theorem awake_run : outTrue (execF Tryz.prog known 100000 (.call 10 []) { h := withRows .leaf (globs.map rowK), n := 8, lo := big }) = true := by kernel_rfl
/-- The package variables lie as the program lays them. -/
def Laid (w : World) : Prop := ∀ x ∈ globs, x.1 < 8 ∧ x.1 < w.heap.size ∧ (Row.cells x.2.1 x.2.2.1 x.2.2.2.length (T.ofList x.2.2.2)).is Pl.start 8 x.1 w.heap[x.1]?
theorem awake_any (w : World) (hw : Laid w) : Calls Tryz.prog 10 #[] w fun e w' => e = .returned (.bool true) ∧ Below w.heap.size w w' := by
  obtain ⟨s, hs, hlo⟩ := outTrue_of awake_run
  refine (calls_of_execG known_ok hs hlo w hw).mono ?_
  rintro e w' ⟨q, u, rfl, hu, h1, h2, h3, h4, h5⟩
  exact ⟨by rw [show u = _ from hu], ⟨h3, h4, h5, h1, h2⟩⟩
end
end Go.Proofs.YtipfdkecodadnaaGreatDoor
