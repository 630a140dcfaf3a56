/- Openings of the arguments of chapter 7's laws: structs of numbers. -/
import Derived.Test.YtageiimcmnebmaaSC
import Derived.Test.YtageiimcmnebmaaSO
import Derived.Lib.SmallJoins
import Derived.KernelRfl
namespace Go.Proofs.Ytageiimcmnebmaa
open Go.Joins Go.ChangeShapes Go.WideShapes Go.RowKit Go.Deep

theorem cellsPlaces : Try.prog.cellsOf 147 = 3 := by kernel_rfl
set_option maxRecDepth 100000 in
theorem open_places {H : Type} {enc : TypeId × Value → H} {W : World} {base b0 : Nat} {spare : Nat → Bool} {held : Bool} {r : Reach} {v : Value} {d : DataW H} {p : List MemPlace} (hv : Value.okWide Try.prog W r b0 147 v) (h : DataW.Trod enc Try.prog W base spare held 147 v d p) : ∃ a b c : Int, v = .agg #[.int .i64 a, .int .i64 b, .int .i64 c] := by
  obtain ⟨c0, c1, c2, y0, y1, y2, m, rfl, -, -, t0, t1, t2⟩ := open_agg3 Try.underlying147 (by kernel_rfl) cellsPlaces hv h
  obtain ⟨a0, e0, -, -⟩ := DataW.trod_int Try.underlying3 t0
  obtain ⟨a1, e1, -, -⟩ := DataW.trod_int Try.underlying3 t1
  obtain ⟨a2, e2, -, -⟩ := DataW.trod_int Try.underlying3 t2
  simp at e0 e1 e2
  subst e0 e1 e2
  exact ⟨a0, a1, a2, rfl⟩
end Go.Proofs.Ytageiimcmnebmaa
