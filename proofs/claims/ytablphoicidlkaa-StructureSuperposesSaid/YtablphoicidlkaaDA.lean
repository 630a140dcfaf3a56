/- Mathematics of Maxwell's theorem and of superposition. -/
import Derived.Test.YtablphoicidlkaaSA
namespace Go.Proofs.Ytablphoicidlkaa
open Go.RowKit

theorem low_back {n d k : Int} (hd : 0 < d) : (d * k).tmod (lowD n d) = 0 ∧ lowN n d * (d * k).tdiv (lowD n d) = n * k := by
  have h1 := lowD_mul n d
  have h2 := lowN_mul n d
  have h3 := lowD_pos (n := n) hd
  have e : d * k = lowD n d * (lowG n d * k) := by rw [← Int.mul_assoc, h1]
  rw [e]
  refine ⟨Int.mul_tmod_right .., ?_⟩
  rw [Int.mul_tdiv_cancel_left _ (by omega), ← Int.mul_assoc, h2]
theorem low_back1 {n d : Int} (hd : 0 < d) : d.tmod (lowD n d) = 0 ∧ lowN n d * d.tdiv (lowD n d) = n := by
  have h := low_back (n := n) (k := 1) hd
  rwa [Int.mul_one, Int.mul_one] at h

theorem sgP_zero_spread (b : Bm) (x : Int) : spS b 0 x = 0 := by
  unfold spS
  cases b.e == 1 <;> simp
theorem sag_maxwell (b : Bm) (a n x : Int) : sag b [⟨a, n⟩] 0 x = sag b [⟨x, n⟩] 0 a := by
  unfold sag
  rw [sgP_zero_spread, sgP_zero_spread, sumL_one, sumL_one]
  unfold ptS
  by_cases h1 : a < x
  · have h2 : ¬ x < a := by omega
    simp [h1, h2]
  · by_cases h2 : x < a
    · simp [h1, h2]
    · have h3 : a = x := by omega
      subst h3
      simp
theorem mom_between (b : Bm) (a n x : Int) (h : x < a) : mom b [⟨a, n⟩] 0 x + shr b [⟨a, n⟩] 0 x * (a - x) = mom b [⟨a, n⟩] 0 a := by
  unfold mom shr
  rw [sumL_one, sumL_one, sumL_one]
  unfold cutM cutV
  have h1 : ¬ a ≤ x := by omega
  simp [h1]
  rw [Int.mul_sub]
  omega
theorem spR_add (b : Bm) (S T : Int) : spR b (S + T) = spR b S + spR b T := by
  unfold spR
  cases b.e == 1
  · simp only [cond_false]; rw [Int.add_mul]
  · simp only [cond_true]; rw [Int.mul_add]
theorem spM_add (b : Bm) (S T : Int) : spM b (S + T) = spM b S + spM b T := by
  unfold spM
  cases b.e == 1
  · simp
  · simp only [cond_true]; rw [Int.neg_add, Int.add_mul, Int.add_mul]
theorem spS_add (b : Bm) (S T x : Int) : spS b (S + T) x = spS b S x + spS b T x := by
  unfold spS
  cases b.e == 1
  · simp only [cond_false]; rw [Int.add_mul, Int.add_mul]
  · simp only [cond_true]; rw [Int.add_mul, Int.add_mul, Int.add_mul]
theorem mom_both (b : Bm) (l m : List Pt) (S T x : Int) : mom b (l ++ m) (S + T) x = mom b l S x + mom b m T x := by
  unfold mom frM frR
  rw [spM_add, spR_add, sumL_append, sumL_append, sumL_append, Int.neg_add, Int.add_mul, Int.add_mul, Int.add_mul, Int.add_mul, Int.add_mul, Int.add_mul, Int.add_mul]
  omega
theorem sag_both (b : Bm) (l m : List Pt) (S T x : Int) : sag b (l ++ m) (S + T) x = sag b l S x + sag b m T x := by
  unfold sag
  rw [spS_add, sumL_append]
  omega
theorem sgD_two (b : Bm) (E : Int) : sgD b (2 * E) = sgD b E * 2 := by
  unfold sgD
  grind
end Go.Proofs.Ytablphoicidlkaa
