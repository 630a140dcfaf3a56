/- Openings of the arguments of chapter 7's laws: structs of numbers. -/
import Derived.Lib.SmallJoins
import Derived.KernelRfl
import Derived.Test.YtablphoicidlkaaSC
import Derived.Test.YtablphoicidlkaaSO
namespace Go.Proofs.Ytablphoicidlkaa
open Go.Joins Go.ChangeShapes Go.WideShapes Go.RowKit Go.Deep

theorem cellsBend : Try.prog.cellsOf 56 = 2 := by kernel_rfl
set_option maxRecDepth 100000 in
theorem open_bend {H : Type} {enc : TypeId × Value → H} {W : World} {base b0 : Nat} {spare : Nat → Bool} {held : Bool} {r : Reach} {v : Value} {d : DataW H} {p : List MemPlace} (hv : Value.okWide Try.prog W r b0 56 v) (h : DataW.Trod enc Try.prog W base spare held 56 v d p) : ∃ a b : Int, v = .agg #[.int .i64 a, .int .i64 b] := by
  obtain ⟨c0, c1, y0, y1, m, rfl, -, -, t0, t1⟩ := open_agg2 Try.underlying56 (by kernel_rfl) cellsBend hv h
  obtain ⟨a0, e0, -, -⟩ := DataW.trod_int Try.underlying3 t0
  obtain ⟨a1, e1, -, -⟩ := DataW.trod_int Try.underlying3 t1
  simp at e0 e1
  subst e0 e1
  exact ⟨a0, a1, rfl⟩
end Go.Proofs.Ytablphoicidlkaa
