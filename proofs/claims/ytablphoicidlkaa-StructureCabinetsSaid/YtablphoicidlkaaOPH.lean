/- Openings: cabinets, lists of numbers. -/
import Derived.Test.YtablphoicidlkaaOPC
import Derived.Test.YtablphoicidlkaaSO
import Derived.Test.YtablphoicidlkaaMGL
namespace Go.Proofs.Ytablphoicidlkaa
open Go.Joins Go.ChangeShapes Go.WideShapes Go.ChangeAt Go.RowKit Go.Deep

theorem cellsLump : Try.prog.cellsOf 176 = 2 := by kernel_rfl
theorem cellsDrawer : Try.prog.cellsOf 178 = 3 := by kernel_rfl
theorem cellsCabinet : Try.prog.cellsOf 119 = 3 := by kernel_rfl
section
variable {H : Type} {enc : TypeId × Value → H} {W : World} {base : Nat} {spare : Nat → Bool} {held : Bool} {fuel : Nat} {v : Value} {x : DataW H × List MemPlace}
theorem int_cell {n : Nat} {u : Value} {y : DataW H × List MemPlace} (h : DataW.trod enc Try.prog W base spare held n 3 [u] = some y) : ∃ a : Int, u = .int .i64 a := by
  obtain ⟨a, e, -, -⟩ := DataW.trod_int Try.underlying3 h
  simp at e
  exact ⟨a, e⟩
set_option maxRecDepth 100000 in
theorem open_lumps (h : DataW.trod enc Try.prog W base spare held fuel 116 [v] = some x) : ∃ A n c l, v = .slice A n c ∧ n ≤ maxLen ∧ LpRow W A n l :=
  open_rows (At := LpAt W) Try.underlying116 Try.underlying176 (by kernel_rfl) cellsLump (by decide) (fun blk off hc => by
    obtain ⟨u0, y0, n0, c0, t0⟩ := hc 0 _ rfl
    obtain ⟨u1, y1, n1, c1, t1⟩ := hc 1 _ rfl
    obtain ⟨a0, rfl⟩ := int_cell t0
    obtain ⟨a1, rfl⟩ := int_cell t1
    exact ⟨⟨a0, a1⟩, by simpa using c0, c1⟩) h
set_option maxRecDepth 100000 in
theorem open_drawers (h : DataW.trod enc Try.prog W base spare held fuel 117 [v] = some x) : ∃ A n c l, v = .slice A n c ∧ n ≤ maxLen ∧ DwRow W A n l :=
  open_rows (At := DwAt W) Try.underlying117 Try.underlying178 (by kernel_rfl) cellsDrawer (by decide) (fun blk off hc => by
    obtain ⟨u0, y0, n0, c0, t0⟩ := hc 0 _ rfl
    obtain ⟨u1, y1, n1, c1, t1⟩ := hc 1 _ rfl
    obtain ⟨u2, y2, n2, c2, t2⟩ := hc 2 _ rfl
    obtain ⟨a0, rfl⟩ := int_cell t0
    obtain ⟨a1, rfl⟩ := int_cell t1
    obtain ⟨a2, rfl⟩ := int_cell t2
    exact ⟨⟨a0, a1, a2⟩, by simpa using c0, c1, c2⟩) h
set_option maxRecDepth 100000 in
theorem open_ints {b0 : Nat} {r : Reach} {d : DataW H} {p : List MemPlace} (hv : Value.okWide Try.prog W r b0 111 v) (h : DataW.Trod enc Try.prog W base spare held 111 v d p) : ∃ A n c l, v = .slice A n c ∧ n ≤ maxLen ∧ IntRow W A n l := by
  obtain ⟨a9, l9, c9, rfl⟩ := okWide_slice Try.underlying111 hv
  obtain ⟨fuel, hf⟩ := h
  rcases open_slice Try.underlying111 hf with ⟨h0, -⟩ | ⟨a, len, cap, m, n, D, Pl, hcs, hb, hl, hm, hmm, hx, hi⟩
  · exact ⟨none, 0, 0, [], by simpa [Value.cells] using h0, by unfold maxLen; omega, rfl, fun h => absurd h (by omega)⟩
  · have hlm : len ≤ m := by rw [hmm]; split <;> omega
    have hat : ∀ i, i < m → ∃ z : Int, W.cell? (a.add (i * 1)) = some (.int .i64 z) := fun i him => by
      obtain ⟨cs', hc, ht'⟩ := hi i him
      rw [cellsInt1] at hc
      obtain ⟨_, hcl, hat⟩ := World.cells?_some hc
      obtain ⟨c0, rfl⟩ : ∃ c0, cs' = [c0] := by
        match cs', hcl with
        | [c0], _ => exact ⟨c0, rfl⟩
      obtain ⟨a0, rfl⟩ := int_cell ht'
      have q0 := hat 0 (by omega)
      rw [Go.Deep.add_add] at q0
      exact ⟨a0, by simpa using q0⟩
    by_cases hz : len = 0
    · subst hz
      exact ⟨some a, 0, cap, [], by simpa [Value.cells] using hcs, by omega, rfl, fun h => absurd h (by omega)⟩
    · obtain ⟨z0, hc0⟩ := hat 0 (by omega)
      have hc0' : W.cell? a = some (.int .i64 z0) := by simpa [Addr.add] using hc0
      obtain ⟨hlt, hsp⟩ := cell_lt hc0'
      obtain ⟨blk, off, spot⟩ := a
      simp only at hsp hlt
      subst hsp
      have hadd : ∀ k, (⟨blk, off, none⟩ : Addr).add k = ⟨blk, off + k, none⟩ := fun k => by
        unfold Addr.add
        by_cases h : k = 0
        · rw [if_pos h, h, Nat.add_zero]
        · rw [if_neg h]
      obtain ⟨xs, hxl, hxs⟩ := exists_list (p := fun k z => IntAt W blk (off + k * 1) z) len (fun i hil => by
        obtain ⟨z, q0⟩ := hat i (by omega)
        rw [hadd] at q0
        exact ⟨z, q0⟩)
      exact ⟨some ⟨blk, off, none⟩, len, cap, xs, by simpa [Value.cells] using hcs, by omega, hxl, fun _ => ⟨blk, off, rfl, hlt, hxs⟩⟩
set_option maxRecDepth 100000 in
theorem open_cabinet {b0 : Nat} {r : Reach} {d : DataW H} {p : List MemPlace} (hv : Value.okWide Try.prog W r b0 119 v) (h : DataW.Trod enc Try.prog W base spare held 119 v d p) :
    ∃ D A n c ls A' n' c' ds, v = cbV D A n c A' n' c' ∧ n ≤ maxLen ∧ n' ≤ maxLen ∧ LpRow W A n ls ∧ DwRow W A' n' ds := by
  obtain ⟨c0, c1, c2, y0, y1, y2, m, rfl, -, -, t0, t1, t2⟩ := open_agg3 Try.underlying119 (by kernel_rfl) cellsCabinet hv h
  obtain ⟨D, rfl⟩ := int_cell t0
  obtain ⟨A, n, c, ls, rfl, hn, r1⟩ := open_lumps t1
  obtain ⟨A', n', c', ds, rfl, hn', r2⟩ := open_drawers t2
  exact ⟨D, A, n, c, ls, A', n', c', ds, rfl, hn, hn', r1, r2⟩
end
end Go.Proofs.Ytablphoicidlkaa
