/- Mathematics: each board of a right stock is right. -/
import Derived.Test.YtnjbhidncicfiaaMI
import Derived.Test.YtnjbhidncicfiaaB7
namespace Go.Proofs.Ytnjbhidncicfiaa
theorem st_each {l : List Sp} {bs : List Bd} : ∀ (m : Nat), m ≤ bs.length → stFrom l bs m (bs.length - m) = 0 → ∀ k (hk : k < bs.length), bs.length - m ≤ k → bdOf l bs[k] = 0
  | 0, _, _, k, hk, h => by omega
  | m + 1, hm, h, k, hk, hle => by
    have hj : bs.length - (m + 1) < bs.length := by omega
    have e := st_from (l := l) hj
    rw [show bs.length - (bs.length - (m + 1)) = m + 1 by omega, show bs.length - (bs.length - (m + 1) + 1) = m by omega, show bs.length - (m + 1) + 1 = bs.length - m by omega] at e
    rw [e] at h
    by_cases h0 : bdOf l bs[bs.length - (m + 1)] = 0
    · rw [decide_eq_true h0] at h
      cases hs : seenB bs (bs.length - (m + 1)) bs[bs.length - (m + 1)].nm <;> rw [hs] at h
      · by_cases hk' : k = bs.length - (m + 1)
        · subst hk'; exact h0
        · exact st_each m (by omega) h k hk (by omega)
      · exact absurd h (by simp)
    · rw [decide_eq_false h0] at h; exact absurd h h0
theorem st_boards {l : List Sp} {bs : List Bd} (h : stCode l bs = 0) : bs.length ≤ 100 ∧ ∀ b ∈ bs, bdCode b = 0 := by
  unfold stCode at h
  by_cases h0 : spsCode l = 0
  · rw [decide_eq_true h0] at h
    by_cases h1 : 100 < bs.length
    · rw [decide_eq_true h1] at h; exact absurd h (by simp)
    · rw [decide_eq_false h1] at h
      refine ⟨by omega, fun b hb => ?_⟩
      obtain ⟨k, hk, rfl⟩ := List.getElem_of_mem hb
      have hx := st_each bs.length (Nat.le_refl _) (by simpa using h) k hk (by omega)
      unfold bdOf at hx
      by_cases h2 : bdCode bs[k] = 0
      · exact h2
      · rw [decide_eq_false h2] at hx; exact hx
  · rw [decide_eq_false h0] at h; exact absurd h h0
end Go.Proofs.Ytnjbhidncicfiaa
