/- Walks over the timber seat: the reference's clear lengths: what its loop does to an owned row. -/
import Derived.Test.YtnjbhidncicfiaaE7
namespace Go.Proofs.Ytnjbhidncicfiaa
open Go.RowKit

/-- A store into an owned row. -/
theorem own_setcell {w : World} {base e size n cap g : Nat} {xs : List Value} (h : w.ownsRow base e size (.slice (some ⟨g, 0, none⟩) n cap) n xs) {o : Nat} (_ho : o < n * size) (u : Value) :
    (w.setCell ⟨g, o, none⟩ u).ownsRow base e size (.slice (some ⟨g, 0, none⟩) n cap) n (xs.set o u) := by
  obtain ⟨hl, ⟨he, -⟩ | ⟨g', cap', cur, he, hb, hh, hnc, hcm, hcs, htk⟩⟩ := h
  · cases he
  · injection he with e1 e2 e3
    injection e1 with e1
    injection e1 with e1
    subst e1 e3
    refine ⟨by simpa using hl, .inr ⟨g, cap, cur.setIfInBounds o u, rfl, hb, ?_, hnc, hcm, by simpa using hcs, ?_⟩⟩
    · simp [World.setCell, Array.getElem?_modify, hh]
    · rw [Array.toList_setIfInBounds, List.take_set, htk]
theorem iv_set {l : List Iv} {p : Iv} {y : Int} {n : Nat} (hn : n = l.length) : (ivCells (l ++ [p])).set (n * 2 + 1) (.int .i64 y) = ivCells (l ++ [(p.1, y)]) := by
  rw [ivCells_snoc, ivCells_snoc, List.set_append]
  have hl := ivCells_length l
  rw [if_neg (by omega), show n * 2 + 1 - (ivCells l).length = 1 by omega]
  rfl
theorem addSeg_join {l : List Iv} {p : Iv} {x y : Int} (h : p.2 = x) : addSeg (l ++ [p]) x y = l ++ [(p.1, y)] := by
  unfold addSeg
  rw [List.getLast?_append]
  simp [h]
theorem addSeg_new {l : List Iv} {x y : Int} (h : ∀ l' p, l = l' ++ [p] → p.2 ≠ x) : addSeg l x y = l ++ [(x, y)] := by
  rcases List.eq_nil_or_concat l with rfl | ⟨l', p, rfl⟩
  · rfl
  · unfold addSeg
    have := h l' p (by simp)
    simp [this]
theorem addSeg_len {l : List Iv} {x y : Int} : (addSeg l x y).length ≤ l.length + 1 := by
  rcases List.eq_nil_or_concat l with rfl | ⟨l', p, rfl⟩
  · simp [addSeg]
  · by_cases h : p.2 = x
    · have := addSeg_join (l := l') (y := y) h
      simp at this ⊢
      rw [this]; simp
    · unfold addSeg; simp [h]
theorem clrTo_len {b : Bd} {xs : List Int} : ∀ i, (clrTo b xs i).length ≤ i
  | 0 => Nat.le_refl _
  | i + 1 => by
    have := clrTo_len (b := b) (xs := xs) i
    have h := addSeg_len (l := clrTo b xs i) (x := xs.getD i 0) (y := xs.getD (i + 1) 0)
    show (bif soundB b ⟨xs.getD i 0, 0, xs.getD (i + 1) 0, b.wd⟩ then addSeg (clrTo b xs i) (xs.getD i 0) (xs.getD (i + 1) 0) else clrTo b xs i).length ≤ i + 1
    cases soundB b ⟨xs.getD i 0, 0, xs.getD (i + 1) 0, b.wd⟩
    · rw [cond_false]; omega
    · rw [cond_true]; omega
end Go.Proofs.Ytnjbhidncicfiaa
