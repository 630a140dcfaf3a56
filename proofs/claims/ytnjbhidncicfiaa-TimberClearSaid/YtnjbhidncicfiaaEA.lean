/- Clear lengths: what the law asks of each of them. -/
import Derived.Test.YtnjbhidncicfiaaE9
namespace Go.Proofs.Ytnjbhidncicfiaa

theorem norm_each : ∀ {l : List Iv} {b : Int}, NormL b l → ∀ p ∈ l, b < p.1 ∧ p.1 < p.2
  | [], _, _, p, h => by cases h
  | q :: r, b, hn, p, h => by
    obtain ⟨h1, h2, h3⟩ := hn
    rcases List.mem_cons.1 h with rfl | h
    · exact ⟨h1, h2⟩
    · have := norm_each h3 p h
      exact ⟨by omega, this.2⟩
theorem clear_each {b : Bd} (hb : BdOk b) {l : List Iv} (h : IsClear b l) {p : Iv} (hp : p ∈ l) : 0 ≤ p.1 ∧ p.1 < p.2 ∧ p.2 ≤ b.ln ∧ soundB b ⟨p.1, 0, p.2, b.wd⟩ = true := by
  obtain ⟨h1, h2⟩ := norm_each h.1 p hp
  have hm : ∀ x, p.1 ≤ x → x < p.2 → 0 ≤ x ∧ x < b.ln ∧ freeX b x := fun x a c => (h.2 x).1 ⟨p, hp, a, c⟩
  have h3 := hm (p.2 - 1) (by omega) (by omega)
  refine ⟨by omega, h2, by omega, (seg_sound hb).2 fun d hd hc => ?_⟩
  have ho := hb.each d hd
  by_cases hx : d.x1 ≤ p.1
  · exact (hm p.1 (by omega) h2).2.2 d hd ⟨hx, hc.2⟩
  · exact (hm d.x1 (by omega) hc.1).2.2 d hd ⟨by omega, ho.x12⟩
theorem clear_at {b : Bd} (hb : BdOk b) {l : List Iv} (h : IsClear b l) {a : Int} (h0 : 0 ≤ a) (h1 : a < b.ln) : soundB b ⟨a, 0, a + 1, b.wd⟩ = l.any fun p => decide (p.1 ≤ a) && decide (a < p.2) := by
  rw [Bool.eq_iff_iff, seg_sound hb, List.any_eq_true]
  have hm := h.2 a
  constructor
  · intro hs
    obtain ⟨p, hp, h2, h3⟩ := hm.2 ⟨h0, h1, fun d hd hc => hs d hd ⟨by omega, hc.2⟩⟩
    exact ⟨p, hp, by simp [h2, h3]⟩
  · rintro ⟨p, hp, hc⟩ d hd hcc
    simp at hc
    exact (hm.1 ⟨p, hp, hc.1, hc.2⟩).2.2 d hd ⟨by omega, hcc.2⟩
end Go.Proofs.Ytnjbhidncicfiaa
