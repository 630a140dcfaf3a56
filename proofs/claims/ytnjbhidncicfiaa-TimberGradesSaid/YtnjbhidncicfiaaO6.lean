/- Openings of the timber seat's lists of grades. -/
import Derived.Test.YtnjbhidncicfiaaO3
import Derived.Test.YtnjbhidncicfiaaH1
namespace Go.Proofs.Ytnjbhidncicfiaa
open Go.Joins Go.ChangeShapes Go.WideShapes Go.RowKit Go.Deep
set_option maxRecDepth 100000 in
theorem grAt_of {H : Type} {enc : TypeId × Value → H} {w : World} {base : Nat} {spare : Nat → Bool} {held : Bool} {fs : Array Field} (hfs : Try.prog.underlying 96 = some (.struct fs)) {blk off : Nat}
    (hx : ∀ (j : Nat) (f : Field), fs[j]? = some f → ∃ (u : Value) (y : DataW H × List MemPlace) (n : Nat), w.cell? ⟨blk, off + j, none⟩ = some u ∧ DataW.trod enc Try.prog w base spare held n f.type [u] = some y) : ∃ s, GrAt w blk off s := by
  have e := hfs.symm.trans Try.underlying96
  injection e with e
  injection e with e
  subst e
  obtain ⟨u0, y0, n0, c0, t0⟩ := hx 0 _ rfl
  obtain ⟨u1, y1, n1, c1, t1⟩ := hx 1 _ rfl
  obtain ⟨u2, y2, n2, c2, t2⟩ := hx 2 _ rfl
  obtain ⟨u3, y3, n3, c3, t3⟩ := hx 3 _ rfl
  obtain ⟨a0, e0, -, ls⟩ := DataW.trod_string Try.underlying9 t0
  obtain ⟨a1, e1, -, -⟩ := DataW.trod_int Try.underlying3 t1
  obtain ⟨a2, e2, -, -⟩ := DataW.trod_int Try.underlying3 t2
  obtain ⟨a3, e3, -, -⟩ := DataW.trod_int Try.underlying3 t3
  simp at e0 e1 e2 e3
  subst e0 e1 e2 e3
  exact ⟨⟨a0, a1, a2, a3⟩, c0, c1, c2, c3, ls⟩
set_option maxRecDepth 100000 in
theorem open_grades {H : Type} {enc : TypeId × Value → H} {W : World} {base b0 : Nat} {spare : Nat → Bool} {held : Bool} {r : Reach} {v : Value} {d : DataW H} {p : List MemPlace} (hv : Value.okWide Try.prog W r b0 94 v) (h : DataW.Trod enc Try.prog W base spare held 94 v d p) :
    ∃ A n c l, v = .slice A n c ∧ (n ≤ maxLen ∧ n ≤ c) ∧ GrRow W A n l := by
  obtain ⟨A, n, c, rfl⟩ := okWide_slice Try.underlying94 hv
  obtain ⟨fuel, hf⟩ := h
  obtain ⟨A', n', c', l, e, h1, h2⟩ := open_rows (At := GrAt W) Try.underlying94 Try.underlying96 (by kernel_rfl) (by kernel_rfl) (by decide) (fun blk off hx => grAt_of Try.underlying96 hx) hf
  injection e with e1 e2 e3
  subst e1 e2 e3
  exact ⟨A, n, c, l, rfl, ⟨h1, open_cap Try.underlying94 hf⟩, h2⟩
end Go.Proofs.Ytnjbhidncicfiaa
