/- Walks over the solid seat: a vector turned. -/
import Derived.Test.YtcboppdjjpeeoaaGreatQ9
namespace Go.Proofs.YtcboppdjjpeeoaaGreat
open Go.RowKit

theorem tabA_ext {k : Nat} (hk : k < 48) : tabA.extract (k * 6) (k * 6 + 6) = #[.int .i64 (sgAt k).p0, .int .i64 (sgAt k).p1, .int .i64 (sgAt k).p2, .int .i64 (sgAt k).s0, .int .i64 (sgAt k).s1, .int .i64 (sgAt k).s2] := by
  have h := (cells_sg hk).1
  simp only [cellB, eqI_eq, Bool.and_eq_true, decide_eq_true_eq] at h
  obtain ⟨h0, h1, h2, h3, h4, h5⟩ := h
  rw [← h0, ← h1, ← h2, ← h3, ← h4, ← h5]
  apply Array.ext_getElem?
  intro i
  rw [Array.getElem?_extract]
  by_cases hi : i < 6
  · have hj : k * 6 + i < 288 := by omega
    rw [if_pos (by rw [tabA_size]; omega), tabA_at hj]
    have : i = 0 ∨ i = 1 ∨ i = 2 ∨ i = 3 ∨ i = 4 ∨ i = 5 := by omega
    rcases this with rfl | rfl | rfl | rfl | rfl | rfl <;> rfl
  · rw [if_neg (by omega)]
    symm
    apply Array.getElem?_eq_none
    simp; omega
theorem run_index131 {A : Array Value} (hA : tabA = A) {k : Nat} (hk : k < 48) (w : World) :
    (Instr.index 131 (.agg A) (.int .i64 k)).run Tryz.prog w = .ok (sgV (sgAt k)) w := by
  have hx := tabA_ext hk
  have hs := tabA_size
  rw [hA] at hx hs
  have hk' : (k : Int) < 48 := by omega
  unfold sgV
  rw [← hx]
  clear hx hA
  generalize sgAt k = t at *
  simp [Instr.index, run_underlying Tryz.underlying131, Result.andThen, asIntOf, go_sem, hk, hk', hs]
end Go.Proofs.YtcboppdjjpeeoaaGreat
