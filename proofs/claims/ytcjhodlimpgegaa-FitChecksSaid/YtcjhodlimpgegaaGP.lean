/- Openings of lists of fits. -/
import Derived.Test.YtcjhodlimpgegaaGO
import Derived.Test.YtcjhodlimpgegaaGW
namespace Go.Proofs.Ytcjhodlimpgegaa
open Go.Joins Go.ChangeShapes Go.WideShapes Go.RowKit Go.Deep

set_option maxRecDepth 100000
theorem ftAt_of {H : Type} {enc : TypeId × Value → H} {w : World} {base : Nat} {spare : Nat → Bool} {held : Bool} {fs : Array Field} (hfs : Try.prog.underlying 37 = some (.struct fs)) {blk off : Nat}
    (hx : ∀ (j : Nat) (f : Field), fs[j]? = some f → ∃ (u : Value) (y : DataW H × List MemPlace) (n : Nat), w.cell? ⟨blk, off + j, none⟩ = some u ∧ DataW.trod enc Try.prog w base spare held n f.type [u] = some y) : ∃ s, FtAt w.heap.size w blk off s := by
  have e := hfs.symm.trans Try.underlying37
  injection e with e
  injection e with e
  subst e
  obtain ⟨u0, y0, n0, c0, t0⟩ := hx 0 _ rfl
  obtain ⟨u1, y1, n1, c1, t1⟩ := hx 1 _ rfl
  obtain ⟨u2, y2, n2, c2, t2⟩ := hx 2 _ rfl
  obtain ⟨u3, y3, n3, c3, t3⟩ := hx 3 _ rfl
  obtain ⟨u4, y4, n4, c4, t4⟩ := hx 4 _ rfl
  obtain ⟨a0, e0, -, l0⟩ := DataW.trod_string Try.underlying9 t0
  obtain ⟨A, n, c, o, rfl, h1, h2⟩ := open_mades_of t1
  obtain ⟨A', n', c', i, rfl, h1', h2'⟩ := open_mades_of t2
  obtain ⟨a3, e3, -, -⟩ := DataW.trod_int Try.underlying3 t3
  obtain ⟨a4, e4, -, -⟩ := DataW.trod_int Try.underlying3 t4
  simp at e0 e3 e4
  subst e0 e3 e4
  exact ⟨⟨a0, ⟨a3, a4, o, i⟩⟩, A, n, c, A', n', c', c0, c1, c2, c3, c4, h2, h2', l0, h1.2, h1'.2, h1.1, h1'.1⟩
theorem open_fits {H : Type} {enc : TypeId × Value → H} {W : World} {base b0 : Nat} {spare : Nat → Bool} {held : Bool} {r : Reach} {v : Value} {d : DataW H} {p : List MemPlace} (hv : Value.okWide Try.prog W r b0 22 v) (h : DataW.Trod enc Try.prog W base spare held 22 v d p) :
    ∃ A n c l, v = .slice A n c ∧ (n ≤ maxLen ∧ n ≤ c) ∧ FtRow W.heap.size W A n l := by
  obtain ⟨A, n, c, rfl⟩ := okWide_slice Try.underlying22 hv
  obtain ⟨fuel, hf⟩ := h
  obtain ⟨A', n', c', l, e, h1, h2⟩ := open_rows (At := FtAt W.heap.size W) Try.underlying22 Try.underlying37 (by kernel_rfl) (by kernel_rfl) (by decide) (fun blk off hx => ftAt_of Try.underlying37 hx) hf
  injection e with e1 e2 e3
  subst e1 e2 e3
  exact ⟨A, n, c, l, rfl, ⟨h1, open_cap Try.underlying22 hf⟩, h2⟩
end Go.Proofs.Ytcjhodlimpgegaa
