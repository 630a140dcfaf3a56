/- Openings: a pair of burdens. -/
import Derived.Deep.Strs
import Derived.Test.YtablphoicidlkaaOPC
import Derived.Test.YtablphoicidlkaaOPA
namespace Go.Proofs.Ytablphoicidlkaa
open Go.Joins Go.ChangeShapes Go.WideShapes Go.ChangeAt Go.RowKit Go.Deep
theorem array4' {α : Type} {cs : Array α} (h : cs.size = 4) : ∃ c0 c1 c2 c3, cs = #[c0, c1, c2, c3] := by
  obtain ⟨l⟩ := cs
  match l, h with
  | [c0, c1, c2, c3], _ => exact ⟨c0, c1, c2, c3, rfl⟩
theorem cellsPair : Try.prog.cellsOf 70 = 4 := by kernel_rfl
theorem cellsIntP : Try.prog.cellsOf 3 = 1 := by kernel_rfl
theorem cellsPtsP : Try.prog.cellsOf 24 = 1 := by kernel_rfl
set_option maxRecDepth 100000 in
theorem open_pair {H : Type} {enc : TypeId × Value → H} {W : World} {base b0 : Nat} {spare : Nat → Bool} {held : Bool} {r : Reach} {v : Value} {d : DataW H} {p : List MemPlace} (hv : Value.okWide Try.prog W r b0 70 v) (h : DataW.Trod enc Try.prog W base spare held 70 v d p) : ∃ A n c S l A' n' c' S' l', v = .agg #[.slice A n c, .int .i64 S, .slice A' n' c', .int .i64 S'] ∧ n ≤ maxLen ∧ n' ≤ maxLen ∧ PtRow W A n l ∧ PtRow W A' n' l' := by
  obtain ⟨cs, rfl, hsz⟩ := okWide_struct Try.underlying70 hv
  obtain ⟨c0, c1, c2, c3, rfl⟩ := array4' (hsz.trans cellsPair)
  obtain ⟨fuel, hf⟩ := h
  obtain ⟨y0, y1, m, -, -, h0, h1⟩ := trod_struct2 Try.underlying70 hf
  simp only [cellsBurden, Value.cells] at h0 h1
  have g0 : DataW.trod enc Try.prog W base spare held m 26 [c0, c1] = some y0 := h0
  have g1 : DataW.trod enc Try.prog W base spare held m 26 [c2, c3] = some y1 := h1
  clear h0 h1
  obtain ⟨u0, u1, j, -, -, a0, a1⟩ := trod_struct2 Try.underlying26 g0
  obtain ⟨v0, v1, k, -, -, b0', b1'⟩ := trod_struct2 Try.underlying26 g1
  simp only [cellsIntP, cellsPtsP] at a0 a1 b0' b1'
  have q0 : DataW.trod enc Try.prog W base spare held j 24 [c0] = some u0 := a0
  have q1 : DataW.trod enc Try.prog W base spare held j 3 [c1] = some u1 := a1
  have q2 : DataW.trod enc Try.prog W base spare held k 24 [c2] = some v0 := b0'
  have q3 : DataW.trod enc Try.prog W base spare held k 3 [c3] = some v1 := b1'
  obtain ⟨S, e1, -, -⟩ := DataW.trod_int Try.underlying3 q1
  obtain ⟨S', e3, -, -⟩ := DataW.trod_int Try.underlying3 q3
  obtain ⟨A, n, c, l, rfl, hn, hr⟩ := open_pts q0
  obtain ⟨A', n', c', l', rfl, hn', hr'⟩ := open_pts q2
  simp at e1 e3
  subst e1 e3
  exact ⟨A, n, c, S, l, A', n', c', S', l', rfl, hn, hn', hr, hr'⟩
end Go.Proofs.Ytablphoicidlkaa
