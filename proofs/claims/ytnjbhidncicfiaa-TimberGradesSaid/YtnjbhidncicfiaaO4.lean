/- Openings of the timber seat's boards. -/
import Derived.Test.YtnjbhidncicfiaaO3
import Derived.Test.YtnjbhidncicfiaaB2
namespace Go.Proofs.Ytnjbhidncicfiaa
open Go.Joins Go.ChangeShapes Go.WideShapes Go.RowKit Go.Deep
theorem cells34 : Try.prog.cellsOf 34 = 8 := by kernel_rfl
set_option maxRecDepth 100000 in
theorem rcAt_of {H : Type} {enc : TypeId × Value → H} {w : World} {base : Nat} {spare : Nat → Bool} {held : Bool} {fs : Array Field} (hfs : Try.prog.underlying 75 = some (.struct fs)) {blk off : Nat}
    (hx : ∀ (j : Nat) (f : Field), fs[j]? = some f → ∃ (u : Value) (y : DataW H × List MemPlace) (n : Nat), w.cell? ⟨blk, off + j, none⟩ = some u ∧ DataW.trod enc Try.prog w base spare held n f.type [u] = some y) : ∃ s, RcAt w blk off s := by
  have e := hfs.symm.trans Try.underlying75
  injection e with e
  injection e with e
  subst e
  obtain ⟨u1, y1, n1, c1, t1⟩ := hx 0 _ rfl
  obtain ⟨u2, y2, n2, c2, t2⟩ := hx 1 _ rfl
  obtain ⟨u3, y3, n3, c3, t3⟩ := hx 2 _ rfl
  obtain ⟨u4, y4, n4, c4, t4⟩ := hx 3 _ rfl
  obtain ⟨a1, e1, -, -⟩ := DataW.trod_int Try.underlying3 t1
  obtain ⟨a2, e2, -, -⟩ := DataW.trod_int Try.underlying3 t2
  obtain ⟨a3, e3, -, -⟩ := DataW.trod_int Try.underlying3 t3
  obtain ⟨a4, e4, -, -⟩ := DataW.trod_int Try.underlying3 t4
  simp at e1 e2 e3 e4
  subst e1 e2 e3 e4
  exact ⟨⟨a1, a2, a3, a4⟩, c1, c2, c3, c4⟩
/-- A field that is a slice. -/
theorem trod_slice_value {H : Type} {enc : TypeId × Value → H} {P : Program} {w : World} {base : Nat} {spare : Nat → Bool} {held : Bool} {t e : TypeId} {fuel : Nat} {v : Value} {x : DataW H × List MemPlace} (ht : P.underlying t = some (.slice e))
    (h : DataW.trod enc P w base spare held fuel t [v] = some x) : ∃ A n c, v = .slice A n c := by
  rcases open_slice ht h with ⟨h0, -⟩ | ⟨a, len, cap, m, k, D, Pl, hcs, -⟩
  · simp at h0; exact ⟨_, _, _, h0⟩
  · simp at hcs; exact ⟨_, _, _, hcs⟩
set_option maxRecDepth 100000 in
theorem open_rects {H : Type} {enc : TypeId × Value → H} {W : World} {base : Nat} {spare : Nat → Bool} {held : Bool} {fuel : Nat} {v : Value} {x : DataW H × List MemPlace} (h : DataW.trod enc Try.prog W base spare held fuel 32 [v] = some x) :
    ∃ A n c l, v = .slice A n c ∧ (n ≤ maxLen ∧ n ≤ c) ∧ RcRow W A n l := by
  obtain ⟨A, n, c, rfl⟩ := trod_slice_value Try.underlying32 h
  obtain ⟨A', n', c', l, e, h1, h2⟩ := open_rows (At := RcAt W) Try.underlying32 Try.underlying75 (by kernel_rfl) (by kernel_rfl) (by decide) (fun blk off hx => rcAt_of Try.underlying75 hx) h
  injection e with e1 e2 e3
  subst e1 e2 e3
  exact ⟨A, n, c, l, rfl, ⟨h1, open_cap Try.underlying32 h⟩, h2⟩
set_option maxRecDepth 100000 in
theorem open_board {H : Type} {enc : TypeId × Value → H} {W : World} {base b0 : Nat} {spare : Nat → Bool} {held : Bool} {r : Reach} {v : Value} {d : DataW H} {p : List MemPlace} (hv : Value.okWide Try.prog W r b0 34 v) (h : DataW.Trod enc Try.prog W base spare held 34 v d p) :
    ∃ (bd : Bd) (D : Option Addr) (dn dc : Nat), v = .agg #[.string bd.nm, .string bd.sp, .int .i64 bd.ln, .int .i64 bd.wd, .int .i64 bd.th, .int .i64 bd.cu, .int .i64 bd.mo, .slice D dn dc] ∧ (bd.nm.size ≤ maxLen ∧ bd.sp.size ≤ maxLen ∧ dn ≤ maxLen ∧ dn ≤ dc) ∧ RcRow W D dn bd.df := by
  obtain ⟨c0, c1, c2, c3, c4, c5, c6, c7, y0, y1, y2, y3, y4, y5, y6, y7, m, rfl, t0, t1, t2, t3, t4, t5, t6, t7⟩ := open_agg8 Try.underlying34 (by kernel_rfl) cells34 hv h
  obtain ⟨a0, e0, -, l0⟩ := DataW.trod_string Try.underlying9 t0
  obtain ⟨a1, e1, -, l1⟩ := DataW.trod_string Try.underlying9 t1
  obtain ⟨a2, e2, -, -⟩ := DataW.trod_int Try.underlying3 t2
  obtain ⟨a3, e3, -, -⟩ := DataW.trod_int Try.underlying3 t3
  obtain ⟨a4, e4, -, -⟩ := DataW.trod_int Try.underlying3 t4
  obtain ⟨a5, e5, -, -⟩ := DataW.trod_int Try.underlying3 t5
  obtain ⟨a6, e6, -, -⟩ := DataW.trod_int Try.underlying3 t6
  obtain ⟨D, dn, dc, ds, e7, h1, h2⟩ := open_rects t7
  simp at e0 e1 e2 e3 e4 e5 e6
  subst e0 e1 e2 e3 e4 e5 e6 e7
  exact ⟨⟨a0, a1, a2, a3, a4, a5, a6, ds⟩, D, dn, dc, rfl, ⟨l0, l1, h1.1, h1.2⟩, h2⟩
end Go.Proofs.Ytnjbhidncicfiaa
