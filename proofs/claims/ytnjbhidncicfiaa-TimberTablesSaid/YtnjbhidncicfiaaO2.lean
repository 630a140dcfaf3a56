/- Openings of the timber seat's slices of knots. -/
import Derived.Test.YtnjbhidncicfiaaT1
namespace Go.Proofs.Ytnjbhidncicfiaa
open Go.Joins Go.ChangeShapes Go.WideShapes Go.RowKit Go.Deep
set_option maxRecDepth 100000 in
theorem open_knots {H : Type} {enc : TypeId × Value → H} {W : World} {base b0 : Nat} {spare : Nat → Bool} {held : Bool} {r : Reach} {v : Value} {d : DataW H} {p : List MemPlace} (hv : Value.okWide Try.prog W r b0 104 v) (h : DataW.Trod enc Try.prog W base spare held 104 v d p) :
    ∃ A n c ks, v = .slice A n c ∧ n ≤ maxLen ∧ KnRow W A n ks := by
  obtain ⟨A, n, c, rfl⟩ := okWide_slice Try.underlying104 hv
  obtain ⟨fuel, hf⟩ := h
  refine open_rows (At := KnAt W) Try.underlying104 Try.underlying155 (by kernel_rfl) (by kernel_rfl) (by decide) (fun blk off hx => ?_) hf
  obtain ⟨u0, y0, n0, c0, t0⟩ := hx 0 _ rfl
  obtain ⟨u1, y1, n1, c1, t1⟩ := hx 1 _ rfl
  obtain ⟨a, e0, -, -⟩ := DataW.trod_int Try.underlying3 t0
  obtain ⟨b, e1, -, -⟩ := DataW.trod_int Try.underlying3 t1
  simp at e0 e1
  subst e0 e1
  exact ⟨(a, b), c0, c1⟩
end Go.Proofs.Ytnjbhidncicfiaa
