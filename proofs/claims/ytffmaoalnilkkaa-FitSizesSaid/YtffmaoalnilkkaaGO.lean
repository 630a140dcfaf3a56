/- Openings of the arguments of chapter 6's laws. -/
import Derived.Test.YtffmaoalnilkkaaFJ
import Derived.Test.YtffmaoalnilkkaaFM
import Derived.Test.YtffmaoalnilkkaaFO
import Derived.Lib.SmallJoins
import Derived.ChangeMaps5
namespace Go.Proofs.Ytffmaoalnilkkaa
open Go.Joins Go.ChangeShapes Go.WideShapes Go.RowKit Go.Deep

section
variable {H : Type} {enc : TypeId × Value → H} {P : Program} {w : World} {base : Nat} {spare : Nat → Bool} {held : Bool}
theorem open_aggs5 {r : Reach} {b0 : Nat} {t : TypeId} {f0 f1 f2 f3 f4 : Field} {v : Value} {d : DataW H} {p : List MemPlace} (hs : P.underlying t = some (.struct #[f0, f1, f2, f3, f4])) (hone : oneCellFields P #[f0, f1, f2, f3, f4] = true) (hC : P.cellsOf t = 5)
    (hv : Value.okWide P w r b0 t v) (h : DataW.Trod enc P w base spare held t v d p) :
    ∃ (v0 v1 v2 v3 v4 : Value) (y0 y1 y2 y3 y4 : DataW H × List MemPlace) (n : Nat), v = .agg #[v0, v1, v2, v3, v4] ∧
      DataW.trod enc P w base spare held n f0.type [v0] = some y0 ∧ DataW.trod enc P w base spare held n f1.type [v1] = some y1 ∧ DataW.trod enc P w base spare held n f2.type [v2] = some y2 ∧ DataW.trod enc P w base spare held n f3.type [v3] = some y3 ∧ DataW.trod enc P w base spare held n f4.type [v4] = some y4 := by
  obtain ⟨cs, rfl, hsz⟩ := okWide_struct hs hv
  obtain ⟨l⟩ := cs
  match l, hsz.trans hC with
  | [c0, c1, c2, c3, c4], _ =>
    obtain ⟨fuel, hf⟩ := h
    obtain ⟨xs, n, _, hx, _, hlen, hg⟩ := DataW.trod_struct hs hf
    obtain ⟨o0, k0⟩ := hone_of hone 0 f0 rfl
    obtain ⟨o1, k1⟩ := hone_of hone 1 f1 rfl
    obtain ⟨o2, k2⟩ := hone_of hone 2 f2 rfl
    obtain ⟨o3, k3⟩ := hone_of hone 3 f3 rfl
    obtain ⟨o4, k4⟩ := hone_of hone 4 f4 rfl
    match xs, hlen with
    | [y0, y1, y2, y3, y4], _ =>
      exact ⟨c0, c1, c2, c3, c4, y0, y1, y2, y3, y4, n, rfl, by simpa [Value.cells, o0, k0] using hg 0 f0 rfl, by simpa [Value.cells, o1, k1] using hg 1 f1 rfl, by simpa [Value.cells, o2, k2] using hg 2 f2 rfl, by simpa [Value.cells, o3, k3] using hg 3 f3 rfl, by simpa [Value.cells, o4, k4] using hg 4 f4 rfl⟩
theorem open_aggs6 {r : Reach} {b0 : Nat} {t : TypeId} {f0 f1 f2 f3 f4 f5 : Field} {v : Value} {d : DataW H} {p : List MemPlace} (hs : P.underlying t = some (.struct #[f0, f1, f2, f3, f4, f5])) (hone : oneCellFields P #[f0, f1, f2, f3, f4, f5] = true) (hC : P.cellsOf t = 6)
    (hv : Value.okWide P w r b0 t v) (h : DataW.Trod enc P w base spare held t v d p) :
    ∃ (v0 v1 v2 v3 v4 v5 : Value) (y0 y1 y2 y3 y4 y5 : DataW H × List MemPlace) (n : Nat), v = .agg #[v0, v1, v2, v3, v4, v5] ∧
      DataW.trod enc P w base spare held n f0.type [v0] = some y0 ∧ DataW.trod enc P w base spare held n f1.type [v1] = some y1 ∧ DataW.trod enc P w base spare held n f2.type [v2] = some y2 ∧ DataW.trod enc P w base spare held n f3.type [v3] = some y3 ∧ DataW.trod enc P w base spare held n f4.type [v4] = some y4 ∧ DataW.trod enc P w base spare held n f5.type [v5] = some y5 := by
  obtain ⟨cs, rfl, hsz⟩ := okWide_struct hs hv
  obtain ⟨l⟩ := cs
  match l, hsz.trans hC with
  | [c0, c1, c2, c3, c4, c5], _ =>
    obtain ⟨fuel, hf⟩ := h
    obtain ⟨xs, n, _, hx, _, hlen, hg⟩ := DataW.trod_struct hs hf
    obtain ⟨o0, k0⟩ := hone_of hone 0 f0 rfl
    obtain ⟨o1, k1⟩ := hone_of hone 1 f1 rfl
    obtain ⟨o2, k2⟩ := hone_of hone 2 f2 rfl
    obtain ⟨o3, k3⟩ := hone_of hone 3 f3 rfl
    obtain ⟨o4, k4⟩ := hone_of hone 4 f4 rfl
    obtain ⟨o5, k5⟩ := hone_of hone 5 f5 rfl
    match xs, hlen with
    | [y0, y1, y2, y3, y4, y5], _ =>
      exact ⟨c0, c1, c2, c3, c4, c5, y0, y1, y2, y3, y4, y5, n, rfl, by simpa [Value.cells, o0, k0] using hg 0 f0 rfl, by simpa [Value.cells, o1, k1] using hg 1 f1 rfl, by simpa [Value.cells, o2, k2] using hg 2 f2 rfl, by simpa [Value.cells, o3, k3] using hg 3 f3 rfl, by simpa [Value.cells, o4, k4] using hg 4 f4 rfl, by simpa [Value.cells, o5, k5] using hg 5 f5 rfl⟩
end
theorem open_cap {H : Type} {enc : TypeId × Value → H} {P : Program} {w : World} {base : Nat} {spare : Nat → Bool} {held : Bool} {t e : TypeId} {fuel : Nat} {A : Option Addr} {n c : Nat} {x : DataW H × List MemPlace}
    (ht : P.underlying t = some (.slice e)) (h : DataW.trod enc P w base spare held fuel t [.slice A n c] = some x) : n ≤ c := by
  rcases open_slice ht h with ⟨h0, -⟩ | ⟨a, len, cap, m, k, D, Pl, hcs, hb, hl, -⟩
  · simp at h0; omega
  · simp at hcs; omega
theorem trod_slice_value {H : Type} {enc : TypeId × Value → H} {P : Program} {w : World} {base : Nat} {spare : Nat → Bool} {held : Bool} {t e : TypeId} {fuel : Nat} {v : Value} {x : DataW H × List MemPlace} (ht : P.underlying t = some (.slice e))
    (h : DataW.trod enc P w base spare held fuel t [v] = some x) : ∃ A n c, v = .slice A n c := by
  rcases open_slice ht h with ⟨h0, -⟩ | ⟨a, len, cap, m, k, D, Pl, hcs, -⟩
  · simp at h0; exact ⟨_, _, _, h0⟩
  · simp at hcs; exact ⟨_, _, _, hcs⟩
set_option maxRecDepth 100000
theorem mdAt_of {H : Type} {enc : TypeId × Value → H} {w : World} {base : Nat} {spare : Nat → Bool} {held : Bool} {fs : Array Field} (hfs : Try.prog.underlying 44 = some (.struct fs)) {blk off : Nat}
    (hx : ∀ (j : Nat) (f : Field), fs[j]? = some f → ∃ (u : Value) (y : DataW H × List MemPlace) (n : Nat), w.cell? ⟨blk, off + j, none⟩ = some u ∧ DataW.trod enc Try.prog w base spare held n f.type [u] = some y) : ∃ s, MdAt w blk off s := by
  have e := hfs.symm.trans Try.underlying44
  injection e with e
  injection e with e
  subst e
  obtain ⟨u0, y0, n0, c0, t0⟩ := hx 0 _ rfl
  obtain ⟨u1, y1, n1, c1, t1⟩ := hx 1 _ rfl
  obtain ⟨u2, y2, n2, c2, t2⟩ := hx 2 _ rfl
  obtain ⟨u3, y3, n3, c3, t3⟩ := hx 3 _ rfl
  obtain ⟨u4, y4, n4, c4, t4⟩ := hx 4 _ rfl
  obtain ⟨u5, y5, n5, c5, t5⟩ := hx 5 _ rfl
  obtain ⟨a0, e0, -, -⟩ := DataW.trod_int Try.underlying3 t0
  obtain ⟨a1, e1, -, -⟩ := DataW.trod_int Try.underlying3 t1
  obtain ⟨a2, e2, -, -⟩ := DataW.trod_int Try.underlying3 t2
  obtain ⟨a3, e3, -, -⟩ := DataW.trod_int Try.underlying3 t3
  obtain ⟨a4, e4, -, -⟩ := DataW.trod_int Try.underlying3 t4
  obtain ⟨a5, e5, -, -⟩ := DataW.trod_int Try.underlying3 t5
  simp at e0 e1 e2 e3 e4 e5
  subst e0 e1 e2 e3 e4 e5
  exact ⟨⟨a0, a1, a2, a3, a4, a5⟩, c0, c1, c2, c3, c4, c5⟩
theorem snAt_of {H : Type} {enc : TypeId × Value → H} {w : World} {base : Nat} {spare : Nat → Bool} {held : Bool} {fs : Array Field} (hfs : Try.prog.underlying 46 = some (.struct fs)) {blk off : Nat}
    (hx : ∀ (j : Nat) (f : Field), fs[j]? = some f → ∃ (u : Value) (y : DataW H × List MemPlace) (n : Nat), w.cell? ⟨blk, off + j, none⟩ = some u ∧ DataW.trod enc Try.prog w base spare held n f.type [u] = some y) : ∃ s, SnAt w blk off s := by
  have e := hfs.symm.trans Try.underlying46
  injection e with e
  injection e with e
  subst e
  obtain ⟨u0, y0, n0, c0, t0⟩ := hx 0 _ rfl
  obtain ⟨u1, y1, n1, c1, t1⟩ := hx 1 _ rfl
  obtain ⟨u2, y2, n2, c2, t2⟩ := hx 2 _ rfl
  obtain ⟨a0, e0, -, l0⟩ := DataW.trod_string Try.underlying9 t0
  obtain ⟨a1, e1, -, -⟩ := DataW.trod_int Try.underlying3 t1
  obtain ⟨a2, e2, -, -⟩ := DataW.trod_int Try.underlying3 t2
  simp at e0 e1 e2
  subst e0 e1 e2
  exact ⟨⟨a0, a1, a2⟩, c0, c1, c2, l0⟩
theorem open_mades_of {H : Type} {enc : TypeId × Value → H} {W : World} {base : Nat} {spare : Nat → Bool} {held : Bool} {fuel : Nat} {v : Value} {x : DataW H × List MemPlace} (h : DataW.trod enc Try.prog W base spare held fuel 35 [v] = some x) :
    ∃ A n c l, v = .slice A n c ∧ (n ≤ maxLen ∧ n ≤ c) ∧ MdRow W A n l := by
  obtain ⟨A, n, c, rfl⟩ := trod_slice_value Try.underlying35 h
  obtain ⟨A', n', c', l, e, h1, h2⟩ := open_rows (At := MdAt W) Try.underlying35 Try.underlying44 (by kernel_rfl) (by kernel_rfl) (by decide) (fun blk off hx => mdAt_of Try.underlying44 hx) h
  injection e with e1 e2 e3
  subst e1 e2 e3
  exact ⟨A, n, c, l, rfl, ⟨h1, open_cap Try.underlying35 h⟩, h2⟩
theorem open_mades {H : Type} {enc : TypeId × Value → H} {W : World} {base b0 : Nat} {spare : Nat → Bool} {held : Bool} {r : Reach} {v : Value} {d : DataW H} {p : List MemPlace} (hv : Value.okWide Try.prog W r b0 35 v) (h : DataW.Trod enc Try.prog W base spare held 35 v d p) :
    ∃ A n c l, v = .slice A n c ∧ (n ≤ maxLen ∧ n ≤ c) ∧ MdRow W A n l := by
  obtain ⟨A, n, c, rfl⟩ := okWide_slice Try.underlying35 hv
  obtain ⟨fuel, hf⟩ := h
  exact open_mades_of hf
theorem open_seasons_of {H : Type} {enc : TypeId × Value → H} {W : World} {base : Nat} {spare : Nat → Bool} {held : Bool} {fuel : Nat} {v : Value} {x : DataW H × List MemPlace} (h : DataW.trod enc Try.prog W base spare held fuel 23 [v] = some x) :
    ∃ A n c l, v = .slice A n c ∧ (n ≤ maxLen ∧ n ≤ c) ∧ SnRow W A n l := by
  obtain ⟨A, n, c, rfl⟩ := trod_slice_value Try.underlying23 h
  obtain ⟨A', n', c', l, e, h1, h2⟩ := open_rows (At := SnAt W) Try.underlying23 Try.underlying46 (by kernel_rfl) (by kernel_rfl) (by decide) (fun blk off hx => snAt_of Try.underlying46 hx) h
  injection e with e1 e2 e3
  subst e1 e2 e3
  exact ⟨A, n, c, l, rfl, ⟨h1, open_cap Try.underlying23 h⟩, h2⟩
theorem open_seasons {H : Type} {enc : TypeId × Value → H} {W : World} {base b0 : Nat} {spare : Nat → Bool} {held : Bool} {r : Reach} {v : Value} {d : DataW H} {p : List MemPlace} (hv : Value.okWide Try.prog W r b0 23 v) (h : DataW.Trod enc Try.prog W base spare held 23 v d p) :
    ∃ A n c l, v = .slice A n c ∧ (n ≤ maxLen ∧ n ≤ c) ∧ SnRow W A n l := by
  obtain ⟨A, n, c, rfl⟩ := okWide_slice Try.underlying23 hv
  obtain ⟨fuel, hf⟩ := h
  exact open_seasons_of hf
theorem cellsMd : Try.prog.cellsOf 44 = 6 := by kernel_rfl
theorem open_md {H : Type} {enc : TypeId × Value → H} {W : World} {base b0 : Nat} {spare : Nat → Bool} {held : Bool} {r : Reach} {v : Value} {d : DataW H} {p : List MemPlace} (hv : Value.okWide Try.prog W r b0 44 v) (h : DataW.Trod enc Try.prog W base spare held 44 v d p) : ∃ x : Md, v = mdV x := by
  obtain ⟨c0, c1, c2, c3, c4, c5, y0, y1, y2, y3, y4, y5, m, rfl, t0, t1, t2, t3, t4, t5⟩ := open_aggs6 Try.underlying44 (by kernel_rfl) cellsMd hv h
  obtain ⟨a0, e0, -, -⟩ := DataW.trod_int Try.underlying3 t0
  obtain ⟨a1, e1, -, -⟩ := DataW.trod_int Try.underlying3 t1
  obtain ⟨a2, e2, -, -⟩ := DataW.trod_int Try.underlying3 t2
  obtain ⟨a3, e3, -, -⟩ := DataW.trod_int Try.underlying3 t3
  obtain ⟨a4, e4, -, -⟩ := DataW.trod_int Try.underlying3 t4
  obtain ⟨a5, e5, -, -⟩ := DataW.trod_int Try.underlying3 t5
  simp at e0 e1 e2 e3 e4 e5
  subst e0 e1 e2 e3 e4 e5
  exact ⟨⟨a0, a1, a2, a3, a4, a5⟩, rfl⟩
theorem cellsFt : Try.prog.cellsOf 37 = 5 := by kernel_rfl
theorem open_fit {H : Type} {enc : TypeId × Value → H} {W : World} {base b0 : Nat} {spare : Nat → Bool} {held : Bool} {r : Reach} {v : Value} {d : DataW H} {p : List MemPlace} (hv : Value.okWide Try.prog W r b0 37 v) (h : DataW.Trod enc Try.prog W base spare held 37 v d p) :
    ∃ (nm : ByteArray) (F : FitD) (A : Option Addr) (n c : Nat) (A' : Option Addr) (n' c' : Nat), v = ftV nm A n c A' n' c' F.le F.mo ∧ (nm.size ≤ maxLen ∧ (n ≤ maxLen ∧ n ≤ c) ∧ (n' ≤ maxLen ∧ n' ≤ c')) ∧ (MdRow W A n F.o ∧ MdRow W A' n' F.i) := by
  obtain ⟨c0, c1, c2, c3, c4, y0, y1, y2, y3, y4, m, rfl, t0, t1, t2, t3, t4⟩ := open_aggs5 Try.underlying37 (by kernel_rfl) cellsFt hv h
  obtain ⟨a0, e0, -, l0⟩ := DataW.trod_string Try.underlying9 t0
  obtain ⟨A, n, c, o, rfl, h1, h2⟩ := open_mades_of t1
  obtain ⟨A', n', c', i, rfl, h1', h2'⟩ := open_mades_of t2
  obtain ⟨a3, e3, -, -⟩ := DataW.trod_int Try.underlying3 t3
  obtain ⟨a4, e4, -, -⟩ := DataW.trod_int Try.underlying3 t4
  simp at e0 e3 e4
  subst e0 e3 e4
  exact ⟨a0, ⟨a3, a4, o, i⟩, A, n, c, A', n', c', rfl, ⟨l0, h1, h1'⟩, h2, h2'⟩
theorem cellsSn : Try.prog.cellsOf 46 = 3 := by kernel_rfl
end Go.Proofs.Ytffmaoalnilkkaa
