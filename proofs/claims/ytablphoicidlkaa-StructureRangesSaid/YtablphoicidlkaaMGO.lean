/- Openings of the arguments of chapter 7's laws: structs of numbers. -/
import Derived.Lib.SmallJoins
import Derived.KernelRfl
import Derived.Laws.IdiomArrays
import Derived.Deep.Strs
import Derived.Test.YtablphoicidlkaaSC
import Derived.Test.YtablphoicidlkaaSO
import Derived.Test.YtablphoicidlkaaBB
import Derived.Test.YtablphoicidlkaaSD
namespace Go.Proofs.Ytablphoicidlkaa
open Go.Joins Go.ChangeShapes Go.WideShapes Go.RowKit Go.Deep

theorem cellsBeam : Try.prog.cellsOf 23 = 4 := by kernel_rfl
set_option maxRecDepth 100000 in
theorem open_beam {H : Type} {enc : TypeId × Value → H} {W : World} {base b0 : Nat} {spare : Nat → Bool} {held : Bool} {r : Reach} {v : Value} {d : DataW H} {p : List MemPlace} (hv : Value.okWide Try.prog W r b0 23 v) (h : DataW.Trod enc Try.prog W base spare held 23 v d p) : ∃ x : Bm, v = bmV x := by
  obtain ⟨c0, c1, c2, c3, y0, y1, y2, y3, m, rfl, -, -, t0, t1, t2, t3⟩ := open_agg4 Try.underlying23 (by kernel_rfl) cellsBeam hv h
  obtain ⟨a0, e0, -, -⟩ := DataW.trod_int Try.underlying3 t0
  obtain ⟨a1, e1, -, -⟩ := DataW.trod_int Try.underlying3 t1
  obtain ⟨a2, e2, -, -⟩ := DataW.trod_int Try.underlying3 t2
  obtain ⟨a3, e3, -, -⟩ := DataW.trod_int Try.underlying3 t3
  simp at e0 e1 e2 e3
  subst e0 e1 e2 e3
  exact ⟨⟨a0, a1, a2, a3⟩, rfl⟩
theorem cellsWood : Try.prog.cellsOf 79 = 3 := by kernel_rfl
set_option maxRecDepth 100000 in
theorem open_wood {H : Type} {enc : TypeId × Value → H} {W : World} {base b0 : Nat} {spare : Nat → Bool} {held : Bool} {r : Reach} {v : Value} {d : DataW H} {p : List MemPlace} (hv : Value.okWide Try.prog W r b0 79 v) (h : DataW.Trod enc Try.prog W base spare held 79 v d p) : ∃ x : Wd, v = wdV x := by
  obtain ⟨c0, c1, c2, y0, y1, y2, m, rfl, -, -, t0, t1, t2⟩ := open_agg3 Try.underlying79 (by kernel_rfl) cellsWood hv h
  obtain ⟨a0, e0, -, -⟩ := DataW.trod_int Try.underlying3 t0
  obtain ⟨a1, e1, -, -⟩ := DataW.trod_int Try.underlying3 t1
  obtain ⟨a2, e2, -, -⟩ := DataW.trod_int Try.underlying3 t2
  simp at e0 e1 e2
  subst e0 e1 e2
  exact ⟨⟨a0, a1, a2⟩, rfl⟩
theorem cellsEven : Try.prog.cellsOf 96 = 2 := by kernel_rfl
set_option maxRecDepth 100000 in
theorem open_even {H : Type} {enc : TypeId × Value → H} {W : World} {base b0 : Nat} {spare : Nat → Bool} {held : Bool} {r : Reach} {v : Value} {d : DataW H} {p : List MemPlace} (hv : Value.okWide Try.prog W r b0 96 v) (h : DataW.Trod enc Try.prog W base spare held 96 v d p) : ∃ a b : Int, v = .agg #[.int .i64 a, .int .i64 b] := by
  obtain ⟨c0, c1, y0, y1, m, rfl, -, -, t0, t1⟩ := open_agg2 Try.underlying96 (by kernel_rfl) cellsEven hv h
  obtain ⟨a0, e0, -, -⟩ := DataW.trod_int Try.underlying3 t0
  obtain ⟨a1, e1, -, -⟩ := DataW.trod_int Try.underlying3 t1
  simp at e0 e1
  subst e0 e1
  exact ⟨a0, a1, rfl⟩
end Go.Proofs.Ytablphoicidlkaa
namespace Go.Proofs.Ytablphoicidlkaa
open Go.Joins Go.ChangeShapes Go.WideShapes Go.ChangeAt Go.RowKit Go.Deep

theorem cellsArr3 : Try.prog.cellsOf 136 = 3 := by kernel_rfl
theorem cellsInt1 : Try.prog.cellsOf 3 = 1 := by kernel_rfl
theorem underArr3 : Try.prog.underlying 136 = some (.array 3 3) := by kernel_rfl
set_option maxRecDepth 100000 in
theorem open_arr3 {H : Type} {enc : TypeId × Value → H} {W : World} {base b0 : Nat} {spare : Nat → Bool} {held : Bool} {r : Reach} {v : Value} {d : DataW H} {p : List MemPlace} (hv : Value.okWide Try.prog W r b0 136 v) (h : DataW.Trod enc Try.prog W base spare held 136 v d p) : ∃ a b c : Int, v = arV a b c := by
  simp only [Value.okWide, underArr3] at hv
  obtain ⟨cs, rfl, hsz, _⟩ := hv
  obtain ⟨c0, c1, c2, rfl⟩ := array3 (hsz.trans cellsArr3)
  obtain ⟨fuel, hf⟩ := h
  obtain ⟨y0, y1, y2, n, hx, h0, h1, h2⟩ := trod_array3 underArr3 cellsInt1 hf
  obtain ⟨a0, e0, -, -⟩ := DataW.trod_int Try.underlying3 h0
  obtain ⟨a1, e1, -, -⟩ := DataW.trod_int Try.underlying3 h1
  obtain ⟨a2, e2, -, -⟩ := DataW.trod_int Try.underlying3 h2
  simp at e0 e1 e2
  subst e0 e1 e2
  exact ⟨a0, a1, a2, rfl⟩
theorem cellsBond : Try.prog.cellsOf 138 = 3 := by kernel_rfl
set_option maxRecDepth 100000 in
theorem open_bond {H : Type} {enc : TypeId × Value → H} {W : World} {base b0 : Nat} {spare : Nat → Bool} {held : Bool} {r : Reach} {v : Value} {d : DataW H} {p : List MemPlace} (hv : Value.okWide Try.prog W r b0 138 v) (h : DataW.Trod enc Try.prog W base spare held 138 v d p) : ∃ a b c : Int, v = .agg #[.int .i64 a, .int .i64 b, .int .i64 c] := by
  obtain ⟨c0, c1, c2, y0, y1, y2, m, rfl, -, -, t0, t1, t2⟩ := open_agg3 Try.underlying138 (by kernel_rfl) cellsBond hv h
  obtain ⟨a0, e0, -, -⟩ := DataW.trod_int Try.underlying3 t0
  obtain ⟨a1, e1, -, -⟩ := DataW.trod_int Try.underlying3 t1
  obtain ⟨a2, e2, -, -⟩ := DataW.trod_int Try.underlying3 t2
  simp at e0 e1 e2
  subst e0 e1 e2
  exact ⟨a0, a1, a2, rfl⟩
end Go.Proofs.Ytablphoicidlkaa
namespace Go.Proofs.Ytablphoicidlkaa
open Go.Joins Go.ChangeShapes Go.WideShapes Go.ChangeAt Go.RowKit Go.Deep
section
variable {H : Type} {enc : TypeId × Value → H} {P : Program} {w : World} {base : Nat} {spare : Nat → Bool} {held : Bool}
theorem trod_array2 {t e : TypeId} {fuel : Nat} {c0 c1 : Value} {x : DataW H × List MemPlace} (ht : P.underlying t = some (.array 2 e)) (hce : P.cellsOf e = 1)
    (h : DataW.trod enc P w base spare held fuel t [c0, c1] = some x) :
    ∃ y0 y1 n, x = (.agg [y0.1, y1.1], y0.2 ++ y1.2) ∧ DataW.trod enc P w base spare held n e [c0] = some y0 ∧ DataW.trod enc P w base spare held n e [c1] = some y1 := by
  cases fuel with
  | zero => simp [DataW.trod] at h
  | succ n =>
    unfold DataW.trod at h
    rw [ht] at h
    have r2 : List.range 2 = [0, 1] := rfl
    simp [r2, hce] at h
    obtain ⟨_, h⟩ := h
    cases h0 : DataW.trod enc P w base spare held n e [c0] with
    | none => simp [h0] at h
    | some y0 =>
      cases h1 : DataW.trod enc P w base spare held n e [c1] with
      | none => simp [h0, h1] at h
      | some y1 =>
        simp [h0, h1] at h
        exact ⟨y0, y1, n, h.symm, h0, h1⟩
end
theorem cellsPt : Try.prog.cellsOf 90 = 2 := by kernel_rfl
theorem underPt : Try.prog.underlying 90 = some (.array 2 3) := by kernel_rfl
set_option maxRecDepth 100000 in
theorem open_pts {H : Type} {enc : TypeId × Value → H} {W : World} {base : Nat} {spare : Nat → Bool} {held : Bool} {fuel : Nat} {v : Value} {x : DataW H × List MemPlace}
    (h : DataW.trod enc Try.prog W base spare held fuel 24 [v] = some x) : ∃ A n c l, v = .slice A n c ∧ n ≤ maxLen ∧ PtRow W A n l := by
  rcases open_slice Try.underlying24 h with ⟨h0, -⟩ | ⟨a, len, cap, m, n, D, Pl, hcs, hb, hl, hm, hmm, hx, hi⟩
  · exact ⟨none, 0, 0, [], by simpa using h0, by unfold maxLen; omega, rfl, fun h => absurd h (by omega)⟩
  · have hlm : len ≤ m := by rw [hmm]; split <;> omega
    have hat : ∀ i, i < m → ∃ p : Pt, W.cell? (a.add (i * 2)) = some (.int .i64 p.a) ∧ W.cell? (a.add (i * 2 + 1)) = some (.int .i64 p.n) := fun i him => by
      obtain ⟨cs', hc, ht'⟩ := hi i him
      rw [cellsPt] at hc
      obtain ⟨_, hcl, hat⟩ := World.cells?_some hc
      obtain ⟨c0, c1, rfl⟩ : ∃ c0 c1, cs' = [c0, c1] := by
        match cs', hcl with
        | [c0, c1], _ => exact ⟨c0, c1, rfl⟩
      obtain ⟨y0, y1, n', -, h0, h1⟩ := trod_array2 underPt cellsInt1 ht'
      obtain ⟨a0, e0, -, -⟩ := DataW.trod_int Try.underlying3 h0
      obtain ⟨a1, e1, -, -⟩ := DataW.trod_int Try.underlying3 h1
      simp at e0 e1
      subst e0 e1
      have q0 := hat 0 (by omega)
      have q1 := hat 1 (by omega)
      rw [Go.Deep.add_add] at q0 q1
      exact ⟨⟨a0, a1⟩, by simpa using q0, by simpa using q1⟩
    by_cases hz : len = 0
    · subst hz
      exact ⟨some a, 0, cap, [], by simpa using hcs, by omega, rfl, fun h => absurd h (by omega)⟩
    · obtain ⟨p0, hc0, -⟩ := hat 0 (by omega)
      have hc0' : W.cell? a = some (.int .i64 p0.a) := by simpa [Addr.add] using hc0
      obtain ⟨hlt, hsp⟩ := cell_lt hc0'
      obtain ⟨blk, off, spot⟩ := a
      simp only at hsp hlt
      subst hsp
      have hadd : ∀ k, (⟨blk, off, none⟩ : Addr).add k = ⟨blk, off + k, none⟩ := fun k => by
        unfold Addr.add
        by_cases h : k = 0
        · rw [if_pos h, h, Nat.add_zero]
        · rw [if_neg h]
      obtain ⟨xs, hxl, hxs⟩ := exists_list (p := fun k z => PtAt W blk (off + k * 2) z) len (fun i hil => by
        obtain ⟨p, q0, q1⟩ := hat i (by omega)
        rw [hadd] at q0 q1
        exact ⟨p, q0, by rw [Nat.add_assoc]; exact q1⟩)
      exact ⟨some ⟨blk, off, none⟩, len, cap, xs, by simpa using hcs, by omega, hxl, fun _ => ⟨blk, off, rfl, hlt, hxs⟩⟩
theorem cellsBurden : Try.prog.cellsOf 26 = 2 := by kernel_rfl
set_option maxRecDepth 100000 in
theorem open_burden {H : Type} {enc : TypeId × Value → H} {W : World} {base b0 : Nat} {spare : Nat → Bool} {held : Bool} {r : Reach} {v : Value} {d : DataW H} {p : List MemPlace} (hv : Value.okWide Try.prog W r b0 26 v) (h : DataW.Trod enc Try.prog W base spare held 26 v d p) : ∃ A n c S l, v = buV A n c S ∧ n ≤ maxLen ∧ PtRow W A n l := by
  obtain ⟨c0, c1, y0, y1, m, rfl, -, -, t0, t1⟩ := open_agg2 Try.underlying26 (by kernel_rfl) cellsBurden hv h
  obtain ⟨A, n, c, l, rfl, hn, hr⟩ := open_pts t0
  obtain ⟨a1, e1, -, -⟩ := DataW.trod_int Try.underlying3 t1
  simp at e1
  subst e1
  exact ⟨A, n, c, a1, l, rfl, hn, hr⟩
end Go.Proofs.Ytablphoicidlkaa
namespace Go.Proofs.Ytablphoicidlkaa
open Go.Joins Go.ChangeShapes Go.WideShapes Go.ChangeAt Go.RowKit Go.Deep
theorem array4' {α : Type} {cs : Array α} (h : cs.size = 4) : ∃ c0 c1 c2 c3, cs = #[c0, c1, c2, c3] := by
  obtain ⟨l⟩ := cs
  match l, h with
  | [c0, c1, c2, c3], _ => exact ⟨c0, c1, c2, c3, rfl⟩
theorem cellsPair : Try.prog.cellsOf 70 = 4 := by kernel_rfl
theorem cellsIntP : Try.prog.cellsOf 3 = 1 := by kernel_rfl
theorem cellsPtsP : Try.prog.cellsOf 24 = 1 := by kernel_rfl
set_option maxRecDepth 100000 in
theorem open_pair {H : Type} {enc : TypeId × Value → H} {W : World} {base b0 : Nat} {spare : Nat → Bool} {held : Bool} {r : Reach} {v : Value} {d : DataW H} {p : List MemPlace} (hv : Value.okWide Try.prog W r b0 70 v) (h : DataW.Trod enc Try.prog W base spare held 70 v d p) : ∃ A n c S l A' n' c' S' l', v = .agg #[.slice A n c, .int .i64 S, .slice A' n' c', .int .i64 S'] ∧ n ≤ maxLen ∧ n' ≤ maxLen ∧ PtRow W A n l ∧ PtRow W A' n' l' := by
  obtain ⟨cs, rfl, hsz⟩ := okWide_struct Try.underlying70 hv
  obtain ⟨c0, c1, c2, c3, rfl⟩ := array4' (hsz.trans cellsPair)
  obtain ⟨fuel, hf⟩ := h
  obtain ⟨y0, y1, m, -, -, h0, h1⟩ := trod_struct2 Try.underlying70 hf
  simp only [cellsBurden, Value.cells] at h0 h1
  have g0 : DataW.trod enc Try.prog W base spare held m 26 [c0, c1] = some y0 := h0
  have g1 : DataW.trod enc Try.prog W base spare held m 26 [c2, c3] = some y1 := h1
  clear h0 h1
  obtain ⟨u0, u1, j, -, -, a0, a1⟩ := trod_struct2 Try.underlying26 g0
  obtain ⟨v0, v1, k, -, -, b0', b1'⟩ := trod_struct2 Try.underlying26 g1
  simp only [cellsIntP, cellsPtsP] at a0 a1 b0' b1'
  have q0 : DataW.trod enc Try.prog W base spare held j 24 [c0] = some u0 := a0
  have q1 : DataW.trod enc Try.prog W base spare held j 3 [c1] = some u1 := a1
  have q2 : DataW.trod enc Try.prog W base spare held k 24 [c2] = some v0 := b0'
  have q3 : DataW.trod enc Try.prog W base spare held k 3 [c3] = some v1 := b1'
  obtain ⟨S, e1, -, -⟩ := DataW.trod_int Try.underlying3 q1
  obtain ⟨S', e3, -, -⟩ := DataW.trod_int Try.underlying3 q3
  obtain ⟨A, n, c, l, rfl, hn, hr⟩ := open_pts q0
  obtain ⟨A', n', c', l', rfl, hn', hr'⟩ := open_pts q2
  simp at e1 e3
  subst e1 e3
  exact ⟨A, n, c, S, l, A', n', c', S', l', rfl, hn, hn', hr, hr'⟩
end Go.Proofs.Ytablphoicidlkaa
namespace Go.Proofs.Ytablphoicidlkaa
open Go.Joins Go.ChangeShapes Go.WideShapes Go.ChangeAt Go.RowKit Go.Deep
set_option maxRecDepth 100000 in
theorem open_ptsC {H : Type} {enc : TypeId × Value → H} {W : World} {base : Nat} {spare : Nat → Bool} {held : Bool} {fuel : Nat} {v : Value} {x : DataW H × List MemPlace}
    (h : DataW.trod enc Try.prog W base spare held fuel 24 [v] = some x) : ∃ A n c l, v = .slice A n c ∧ n ≤ maxLen ∧ (n ≤ c ∧ c ≤ maxLen) ∧ PtRow W A n l := by
  rcases open_slice Try.underlying24 h with ⟨h0, -⟩ | ⟨a, len, cap, m, n, D, Pl, hcs, hb, hl, hm, hmm, hx, hi⟩
  · exact ⟨none, 0, 0, [], by simpa using h0, by unfold maxLen; omega, by unfold maxLen; omega, rfl, fun h => absurd h (by omega)⟩
  · have hlm : len ≤ m := by rw [hmm]; split <;> omega
    have hat : ∀ i, i < m → ∃ p : Pt, W.cell? (a.add (i * 2)) = some (.int .i64 p.a) ∧ W.cell? (a.add (i * 2 + 1)) = some (.int .i64 p.n) := fun i him => by
      obtain ⟨cs', hc, ht'⟩ := hi i him
      rw [cellsPt] at hc
      obtain ⟨_, hcl, hat⟩ := World.cells?_some hc
      obtain ⟨c0, c1, rfl⟩ : ∃ c0 c1, cs' = [c0, c1] := by
        match cs', hcl with
        | [c0, c1], _ => exact ⟨c0, c1, rfl⟩
      obtain ⟨y0, y1, n', -, h0, h1⟩ := trod_array2 underPt cellsInt1 ht'
      obtain ⟨a0, e0, -, -⟩ := DataW.trod_int Try.underlying3 h0
      obtain ⟨a1, e1, -, -⟩ := DataW.trod_int Try.underlying3 h1
      simp at e0 e1
      subst e0 e1
      have q0 := hat 0 (by omega)
      have q1 := hat 1 (by omega)
      rw [Go.Deep.add_add] at q0 q1
      exact ⟨⟨a0, a1⟩, by simpa using q0, by simpa using q1⟩
    by_cases hz : len = 0
    · subst hz
      exact ⟨some a, 0, cap, [], by simpa using hcs, by omega, ⟨by omega, hm⟩, rfl, fun h => absurd h (by omega)⟩
    · obtain ⟨p0, hc0, -⟩ := hat 0 (by omega)
      have hc0' : W.cell? a = some (.int .i64 p0.a) := by simpa [Addr.add] using hc0
      obtain ⟨hlt, hsp⟩ := cell_lt hc0'
      obtain ⟨blk, off, spot⟩ := a
      simp only at hsp hlt
      subst hsp
      have hadd : ∀ k, (⟨blk, off, none⟩ : Addr).add k = ⟨blk, off + k, none⟩ := fun k => by
        unfold Addr.add
        by_cases h : k = 0
        · rw [if_pos h, h, Nat.add_zero]
        · rw [if_neg h]
      obtain ⟨xs, hxl, hxs⟩ := exists_list (p := fun k z => PtAt W blk (off + k * 2) z) len (fun i hil => by
        obtain ⟨p, q0, q1⟩ := hat i (by omega)
        rw [hadd] at q0 q1
        exact ⟨p, q0, by rw [Nat.add_assoc]; exact q1⟩)
      exact ⟨some ⟨blk, off, none⟩, len, cap, xs, by simpa using hcs, by omega, ⟨hl, hm⟩, hxl, fun _ => ⟨blk, off, rfl, hlt, hxs⟩⟩
set_option maxRecDepth 100000 in
theorem open_pairC {H : Type} {enc : TypeId × Value → H} {W : World} {base b0 : Nat} {spare : Nat → Bool} {held : Bool} {r : Reach} {v : Value} {d : DataW H} {p : List MemPlace} (hv : Value.okWide Try.prog W r b0 70 v) (h : DataW.Trod enc Try.prog W base spare held 70 v d p) : ∃ A n c S l A' n' c' S' l', v = .agg #[.slice A n c, .int .i64 S, .slice A' n' c', .int .i64 S'] ∧ n ≤ maxLen ∧ n' ≤ maxLen ∧ (n ≤ c ∧ c ≤ maxLen) ∧ (n' ≤ c' ∧ c' ≤ maxLen) ∧ PtRow W A n l ∧ PtRow W A' n' l' := by
  obtain ⟨cs, rfl, hsz⟩ := okWide_struct Try.underlying70 hv
  obtain ⟨c0, c1, c2, c3, rfl⟩ := array4' (hsz.trans cellsPair)
  obtain ⟨fuel, hf⟩ := h
  obtain ⟨y0, y1, m, -, -, h0, h1⟩ := trod_struct2 Try.underlying70 hf
  simp only [cellsBurden, Value.cells] at h0 h1
  have g0 : DataW.trod enc Try.prog W base spare held m 26 [c0, c1] = some y0 := h0
  have g1 : DataW.trod enc Try.prog W base spare held m 26 [c2, c3] = some y1 := h1
  clear h0 h1
  obtain ⟨u0, u1, j, -, -, a0, a1⟩ := trod_struct2 Try.underlying26 g0
  obtain ⟨v0, v1, k, -, -, b0', b1'⟩ := trod_struct2 Try.underlying26 g1
  simp only [cellsIntP, cellsPtsP] at a0 a1 b0' b1'
  have q0 : DataW.trod enc Try.prog W base spare held j 24 [c0] = some u0 := a0
  have q1 : DataW.trod enc Try.prog W base spare held j 3 [c1] = some u1 := a1
  have q2 : DataW.trod enc Try.prog W base spare held k 24 [c2] = some v0 := b0'
  have q3 : DataW.trod enc Try.prog W base spare held k 3 [c3] = some v1 := b1'
  obtain ⟨S, e1, -, -⟩ := DataW.trod_int Try.underlying3 q1
  obtain ⟨S', e3, -, -⟩ := DataW.trod_int Try.underlying3 q3
  obtain ⟨A, n, c, l, rfl, hn, hc, hr⟩ := open_ptsC q0
  obtain ⟨A', n', c', l', rfl, hn', hc', hr'⟩ := open_ptsC q2
  simp at e1 e3
  subst e1 e3
  exact ⟨A, n, c, S, l, A', n', c', S', l', rfl, hn, hn', hc, hc', hr, hr'⟩
end Go.Proofs.Ytablphoicidlkaa
