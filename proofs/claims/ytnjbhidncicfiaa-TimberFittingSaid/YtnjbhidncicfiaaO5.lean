/- Openings of the timber seat's stocks. -/
import Derived.Test.YtnjbhidncicfiaaO4
import Derived.Test.YtnjbhidncicfiaaB7
namespace Go.Proofs.Ytnjbhidncicfiaa
open Go.Joins Go.ChangeShapes Go.WideShapes Go.RowKit Go.Deep
set_option maxRecDepth 100000 in
theorem bdAt_of {H : Type} {enc : TypeId × Value → H} {w : World} {base : Nat} {spare : Nat → Bool} {held : Bool} {fs : Array Field} (hfs : Try.prog.underlying 34 = some (.struct fs)) {blk off : Nat}
    (hx : ∀ (j : Nat) (f : Field), fs[j]? = some f → ∃ (u : Value) (y : DataW H × List MemPlace) (n : Nat), w.cell? ⟨blk, off + j, none⟩ = some u ∧ DataW.trod enc Try.prog w base spare held n f.type [u] = some y) : ∃ s, BdAt w blk off s := by
  have e := hfs.symm.trans Try.underlying34
  injection e with e
  injection e with e
  subst e
  obtain ⟨u0, y0, n0, c0, t0⟩ := hx 0 _ rfl
  obtain ⟨u1, y1, n1, c1, t1⟩ := hx 1 _ rfl
  obtain ⟨u2, y2, n2, c2, t2⟩ := hx 2 _ rfl
  obtain ⟨u3, y3, n3, c3, t3⟩ := hx 3 _ rfl
  obtain ⟨u4, y4, n4, c4, t4⟩ := hx 4 _ rfl
  obtain ⟨u5, y5, n5, c5, t5⟩ := hx 5 _ rfl
  obtain ⟨u6, y6, n6, c6, t6⟩ := hx 6 _ rfl
  obtain ⟨u7, y7, n7, c7, t7⟩ := hx 7 _ rfl
  obtain ⟨a0, e0, -, l0⟩ := DataW.trod_string Try.underlying9 t0
  obtain ⟨a1, e1, -, l1⟩ := DataW.trod_string Try.underlying9 t1
  obtain ⟨a2, e2, -, -⟩ := DataW.trod_int Try.underlying3 t2
  obtain ⟨a3, e3, -, -⟩ := DataW.trod_int Try.underlying3 t3
  obtain ⟨a4, e4, -, -⟩ := DataW.trod_int Try.underlying3 t4
  obtain ⟨a5, e5, -, -⟩ := DataW.trod_int Try.underlying3 t5
  obtain ⟨a6, e6, -, -⟩ := DataW.trod_int Try.underlying3 t6
  obtain ⟨D, dn, dc, ds, e7, h1, h2⟩ := open_rects t7
  simp at e0 e1 e2 e3 e4 e5 e6
  subst e0 e1 e2 e3 e4 e5 e6 e7
  exact ⟨⟨a0, a1, a2, a3, a4, a5, a6, ds⟩, D, dn, dc, ⟨c0, c1, c2, c3, c4, c5, c6, c7⟩, ⟨l0, l1, h1.1, h1.2⟩, h2⟩
set_option maxRecDepth 100000 in
theorem open_stock {H : Type} {enc : TypeId × Value → H} {W : World} {base b0 : Nat} {spare : Nat → Bool} {held : Bool} {r : Reach} {v : Value} {d : DataW H} {p : List MemPlace} (hv : Value.okWide Try.prog W r b0 35 v) (h : DataW.Trod enc Try.prog W base spare held 35 v d p) :
    ∃ A n c l, v = .slice A n c ∧ (n ≤ maxLen ∧ n ≤ c) ∧ BdRow W A n l := by
  obtain ⟨A, n, c, rfl⟩ := okWide_slice Try.underlying35 hv
  obtain ⟨fuel, hf⟩ := h
  obtain ⟨A', n', c', l, e, h1, h2⟩ := open_rows (At := BdAt W) Try.underlying35 Try.underlying34 (by kernel_rfl) (by kernel_rfl) (by decide) (fun blk off hx => bdAt_of Try.underlying34 hx) hf
  injection e with e1 e2 e3
  subst e1 e2 e3
  exact ⟨A, n, c, l, rfl, ⟨h1, open_cap Try.underlying35 hf⟩, h2⟩
end Go.Proofs.Ytnjbhidncicfiaa
