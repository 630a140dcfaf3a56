/- Openings: arrays of three numbers, bonds. -/
import Derived.Laws.IdiomArrays
import Derived.Test.YtablphoicidlkaaOPA
import Derived.Test.YtablphoicidlkaaBB
namespace Go.Proofs.Ytablphoicidlkaa
open Go.Joins Go.ChangeShapes Go.WideShapes Go.ChangeAt Go.RowKit Go.Deep

theorem cellsArr3 : Try.prog.cellsOf 136 = 3 := by kernel_rfl
theorem cellsInt1 : Try.prog.cellsOf 3 = 1 := by kernel_rfl
theorem underArr3 : Try.prog.underlying 136 = some (.array 3 3) := by kernel_rfl
set_option maxRecDepth 100000 in
theorem open_arr3 {H : Type} {enc : TypeId × Value → H} {W : World} {base b0 : Nat} {spare : Nat → Bool} {held : Bool} {r : Reach} {v : Value} {d : DataW H} {p : List MemPlace} (hv : Value.okWide Try.prog W r b0 136 v) (h : DataW.Trod enc Try.prog W base spare held 136 v d p) : ∃ a b c : Int, v = arV a b c := by
  simp only [Value.okWide, underArr3] at hv
  obtain ⟨cs, rfl, hsz, _⟩ := hv
  obtain ⟨c0, c1, c2, rfl⟩ := array3 (hsz.trans cellsArr3)
  obtain ⟨fuel, hf⟩ := h
  obtain ⟨y0, y1, y2, n, hx, h0, h1, h2⟩ := trod_array3 underArr3 cellsInt1 hf
  obtain ⟨a0, e0, -, -⟩ := DataW.trod_int Try.underlying3 h0
  obtain ⟨a1, e1, -, -⟩ := DataW.trod_int Try.underlying3 h1
  obtain ⟨a2, e2, -, -⟩ := DataW.trod_int Try.underlying3 h2
  simp at e0 e1 e2
  subst e0 e1 e2
  exact ⟨a0, a1, a2, rfl⟩
theorem cellsBond : Try.prog.cellsOf 138 = 3 := by kernel_rfl
set_option maxRecDepth 100000 in
theorem open_bond {H : Type} {enc : TypeId × Value → H} {W : World} {base b0 : Nat} {spare : Nat → Bool} {held : Bool} {r : Reach} {v : Value} {d : DataW H} {p : List MemPlace} (hv : Value.okWide Try.prog W r b0 138 v) (h : DataW.Trod enc Try.prog W base spare held 138 v d p) : ∃ a b c : Int, v = .agg #[.int .i64 a, .int .i64 b, .int .i64 c] := by
  obtain ⟨c0, c1, c2, y0, y1, y2, m, rfl, -, -, t0, t1, t2⟩ := open_agg3 Try.underlying138 (by kernel_rfl) cellsBond hv h
  obtain ⟨a0, e0, -, -⟩ := DataW.trod_int Try.underlying3 t0
  obtain ⟨a1, e1, -, -⟩ := DataW.trod_int Try.underlying3 t1
  obtain ⟨a2, e2, -, -⟩ := DataW.trod_int Try.underlying3 t2
  simp at e0 e1 e2
  subst e0 e1 e2
  exact ⟨a0, a1, a2, rfl⟩
end Go.Proofs.Ytablphoicidlkaa
