/- Openings: a shelf (wood, a burden, a ratio). -/
import Derived.Test.YtageiimcmnebmaaOPC
import Derived.Test.YtageiimcmnebmaaOPA
import Derived.Deep.Strs
namespace Go.Proofs.Ytageiimcmnebmaa
open Go.Joins Go.ChangeShapes Go.WideShapes Go.ChangeAt Go.RowKit Go.Deep
theorem array6' {α : Type} {cs : Array α} (h : cs.size = 6) : ∃ c0 c1 c2 c3 c4 c5, cs = #[c0, c1, c2, c3, c4, c5] := by
  obtain ⟨l⟩ := cs
  match l, h with
  | [c0, c1, c2, c3, c4, c5], _ => exact ⟨c0, c1, c2, c3, c4, c5, rfl⟩
theorem cellsShelf : Try.prog.cellsOf 81 = 6 := by kernel_rfl
theorem cellsInt : Try.prog.cellsOf 3 = 1 := by kernel_rfl
theorem cellsPts : Try.prog.cellsOf 24 = 1 := by kernel_rfl
def shV (x : Wd) (A : Option Addr) (n c : Nat) (S r : Int) : Value := .agg #[.int .i64 x.lo, .int .i64 x.hi, .int .i64 x.st, .slice A n c, .int .i64 S, .int .i64 r]
set_option maxRecDepth 100000 in
theorem open_shelf {H : Type} {enc : TypeId × Value → H} {W : World} {base b0 : Nat} {spare : Nat → Bool} {held : Bool} {r : Reach} {v : Value} {d : DataW H} {p : List MemPlace} (hv : Value.okWide Try.prog W r b0 81 v) (h : DataW.Trod enc Try.prog W base spare held 81 v d p) : ∃ x A n c S l ra, v = shV x A n c S ra ∧ n ≤ maxLen ∧ PtRow W A n l := by
  obtain ⟨cs, rfl, hsz⟩ := okWide_struct Try.underlying81 hv
  obtain ⟨c0, c1, c2, c3, c4, c5, rfl⟩ := array6' (hsz.trans cellsShelf)
  obtain ⟨fuel, hf⟩ := h
  obtain ⟨y0, y1, y2, m, -, -, h0, h1, h2⟩ := trod_struct3 Try.underlying81 hf
  simp only [cellsWood, cellsBurden, cellsInt, Value.cells] at h0 h1 h2
  have g0 : DataW.trod enc Try.prog W base spare held m 79 [c0, c1, c2] = some y0 := h0
  have g1 : DataW.trod enc Try.prog W base spare held m 26 [c3, c4] = some y1 := h1
  have g2 : DataW.trod enc Try.prog W base spare held m 3 [c5] = some y2 := h2
  clear h0 h1 h2
  obtain ⟨u0, u1, u2, k, -, -, a0, a1, a2⟩ := trod_struct3 Try.underlying79 g0
  obtain ⟨v0, v1, j, -, -, b0', b1'⟩ := trod_struct2 Try.underlying26 g1
  simp only [cellsInt, cellsPts] at a0 a1 a2 b0' b1'
  have q0 : DataW.trod enc Try.prog W base spare held k 3 [c0] = some u0 := a0
  have q1 : DataW.trod enc Try.prog W base spare held k 3 [c1] = some u1 := a1
  have q2 : DataW.trod enc Try.prog W base spare held k 3 [c2] = some u2 := a2
  have q3 : DataW.trod enc Try.prog W base spare held j 24 [c3] = some v0 := b0'
  have q4 : DataW.trod enc Try.prog W base spare held j 3 [c4] = some v1 := b1'
  obtain ⟨lo, e0, -, -⟩ := DataW.trod_int Try.underlying3 q0
  obtain ⟨hi, e1, -, -⟩ := DataW.trod_int Try.underlying3 q1
  obtain ⟨st, e2, -, -⟩ := DataW.trod_int Try.underlying3 q2
  obtain ⟨S, e4, -, -⟩ := DataW.trod_int Try.underlying3 q4
  obtain ⟨ra, e5, -, -⟩ := DataW.trod_int Try.underlying3 g2
  obtain ⟨A, n, c, l, rfl, hn, hr⟩ := open_pts q3
  simp at e0 e1 e2 e4 e5
  subst e0 e1 e2 e4 e5
  exact ⟨⟨lo, hi, st⟩, A, n, c, S, l, ra, rfl, hn, hr⟩
end Go.Proofs.Ytageiimcmnebmaa
