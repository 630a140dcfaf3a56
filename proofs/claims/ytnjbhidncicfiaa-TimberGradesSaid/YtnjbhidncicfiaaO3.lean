/- Openings of the timber seat's lists of species. -/
import Derived.Test.YtnjbhidncicfiaaS4
namespace Go.Proofs.Ytnjbhidncicfiaa
open Go.Joins Go.ChangeShapes Go.WideShapes Go.RowKit Go.Deep
theorem open_cap {H : Type} {enc : TypeId × Value → H} {P : Program} {w : World} {base : Nat} {spare : Nat → Bool} {held : Bool} {t e : TypeId} {fuel : Nat} {A : Option Addr} {n c : Nat} {x : DataW H × List MemPlace}
    (ht : P.underlying t = some (.slice e)) (h : DataW.trod enc P w base spare held fuel t [.slice A n c] = some x) : n ≤ c := by
  rcases open_slice ht h with ⟨h0, -⟩ | ⟨a, len, cap, m, k, D, Pl, hcs, hb, hl, -⟩
  · simp at h0; omega
  · simp at hcs; omega
set_option maxRecDepth 100000 in
theorem spAt_of {H : Type} {enc : TypeId × Value → H} {w : World} {base : Nat} {spare : Nat → Bool} {held : Bool} {fs : Array Field} (hfs : Try.prog.underlying 44 = some (.struct fs)) {blk off : Nat}
    (hx : ∀ (j : Nat) (f : Field), fs[j]? = some f → ∃ (u : Value) (y : DataW H × List MemPlace) (n : Nat), w.cell? ⟨blk, off + j, none⟩ = some u ∧ DataW.trod enc Try.prog w base spare held n f.type [u] = some y) : ∃ s, SpAt w blk off s := by
  have e := hfs.symm.trans Try.underlying44
  injection e with e
  injection e with e
  subst e
  obtain ⟨u0, y0, n0, c0, t0⟩ := hx 0 _ rfl
  obtain ⟨u1, y1, n1, c1, t1⟩ := hx 1 _ rfl
  obtain ⟨u2, y2, n2, c2, t2⟩ := hx 2 _ rfl
  obtain ⟨u3, y3, n3, c3, t3⟩ := hx 3 _ rfl
  obtain ⟨u4, y4, n4, c4, t4⟩ := hx 4 _ rfl
  obtain ⟨u5, y5, n5, c5, t5⟩ := hx 5 _ rfl
  obtain ⟨u6, y6, n6, c6, t6⟩ := hx 6 _ rfl
  obtain ⟨a0, e0, -, ls⟩ := DataW.trod_string Try.underlying9 t0
  obtain ⟨a1, e1, -, -⟩ := DataW.trod_int Try.underlying3 t1
  obtain ⟨a2, e2, -, -⟩ := DataW.trod_int Try.underlying3 t2
  obtain ⟨a3, e3, -, -⟩ := DataW.trod_int Try.underlying3 t3
  obtain ⟨a4, e4, -, -⟩ := DataW.trod_int Try.underlying3 t4
  obtain ⟨a5, e5, -, -⟩ := DataW.trod_int Try.underlying3 t5
  obtain ⟨a6, e6, -, -⟩ := DataW.trod_int Try.underlying3 t6
  simp at e0 e1 e2 e3 e4 e5 e6
  subst e0 e1 e2 e3 e4 e5 e6
  exact ⟨⟨a0, a1, a2, a3, a4, a5, a6⟩, c0, c1, c2, c3, c4, c5, c6, ls⟩
set_option maxRecDepth 100000 in
theorem open_species {H : Type} {enc : TypeId × Value → H} {W : World} {base b0 : Nat} {spare : Nat → Bool} {held : Bool} {r : Reach} {v : Value} {d : DataW H} {p : List MemPlace} (hv : Value.okWide Try.prog W r b0 22 v) (h : DataW.Trod enc Try.prog W base spare held 22 v d p) :
    ∃ A n c l, v = .slice A n c ∧ (n ≤ maxLen ∧ n ≤ c) ∧ SpRow W A n l := by
  obtain ⟨A, n, c, rfl⟩ := okWide_slice Try.underlying22 hv
  obtain ⟨fuel, hf⟩ := h
  obtain ⟨A', n', c', l, e, h1, h2⟩ := open_rows (At := SpAt W) Try.underlying22 Try.underlying44 (by kernel_rfl) (by kernel_rfl) (by decide) (fun blk off hx => spAt_of Try.underlying44 hx) hf
  injection e with e1 e2 e3
  subst e1 e2 e3
  exact ⟨A, n, c, l, rfl, ⟨h1, open_cap Try.underlying22 hf⟩, h2⟩
end Go.Proofs.Ytnjbhidncicfiaa
