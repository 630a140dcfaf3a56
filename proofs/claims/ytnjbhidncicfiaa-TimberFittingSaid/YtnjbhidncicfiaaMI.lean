/- Mathematics: blanks, and the boards of which one can be cut. -/
import Derived.Test.YtnjbhidncicfiaaMC
import Derived.Test.YtnjbhidncicfiaaMN
import Derived.Test.YtnjbhidncicfiaaMS
import Derived.Test.YtnjbhidncicfiaaMT
namespace Go.Proofs.Ytnjbhidncicfiaa

structure Bk where
  nm : ByteArray
  sp : ByteArray
  ln : Int
  wd : Int
  th : Int
  ct : Int
def bkCode (b : Bk) : Int := bif nameB b.nm then (bif nameB b.sp then (bif inB 1 600000 b.ln then (bif inB 1 600000 b.wd then (bif inB 1 600000 b.th then (bif inB 1 200 b.ct then 0 else 2) else 2) else 2) else 2) else 4) else 4
theorem bk_ok {b : Bk} (h : bkCode b = 0) : (1 ≤ b.ln ∧ b.ln ≤ 600000) ∧ (1 ≤ b.wd ∧ b.wd ≤ 600000) ∧ (1 ≤ b.th ∧ b.th ≤ 600000) := by
  unfold bkCode at h
  cases h0 : nameB b.nm <;> rw [h0] at h
  · exact absurd h (by simp)
  cases h1 : nameB b.sp <;> rw [h1] at h
  · exact absurd h (by simp)
  cases h2 : inB 1 600000 b.ln <;> rw [h2] at h
  · exact absurd h (by simp)
  cases h3 : inB 1 600000 b.wd <;> rw [h3] at h
  · exact absurd h (by simp)
  cases h4 : inB 1 600000 b.th <;> rw [h4] at h
  · exact absurd h (by simp)
  exact ⟨inB_iff.1 h2, inB_iff.1 h3, inB_iff.1 h4⟩
def fitB (k : Bk) (b : Bd) : Bool := bif decide (b.sp = k.sp) then (bif decide (b.th < k.th) then false else (bif decide (b.ln < k.ln) then false else decide (k.wd ≤ wdt (widR b k.ln)))) else false
def fitL (k : Bk) (bs : List Bd) : Nat → List Int
  | 0 => []
  | m + 1 => match bs[m]? with
    | some b => bif fitB k b then fitL k bs m ++ [(m : Int)] else fitL k bs m
    | none => fitL k bs m
theorem fit_yes {k : Bk} {bs : List Bd} {m : Nat} (h : m < bs.length) (hf : fitB k bs[m] = true) : fitL k bs (m + 1) = fitL k bs m ++ [(m : Int)] := by
  show (match bs[m]? with | some b => bif fitB k b then fitL k bs m ++ [(m : Int)] else fitL k bs m | none => fitL k bs m) = _
  rw [List.getElem?_eq_getElem h]; simp only [hf, cond_true]
theorem fit_no {k : Bk} {bs : List Bd} {m : Nat} (h : m < bs.length) (hf : fitB k bs[m] = false) : fitL k bs (m + 1) = fitL k bs m := by
  show (match bs[m]? with | some b => bif fitB k b then fitL k bs m ++ [(m : Int)] else fitL k bs m | none => fitL k bs m) = _
  rw [List.getElem?_eq_getElem h]; simp only [hf, cond_false]
theorem fit_len {k : Bk} {bs : List Bd} : ∀ m, (fitL k bs m).length ≤ m
  | 0 => Nat.le_refl _
  | m + 1 => by
    have ih := fit_len (k := k) (bs := bs) m
    by_cases h : m < bs.length
    · cases hf : fitB k bs[m]
      · rw [fit_no h hf]; omega
      · rw [fit_yes h hf, List.length_append]; simp only [List.length_cons, List.length_nil]; omega
    · have e : fitL k bs (m + 1) = fitL k bs m := by
        show (match bs[m]? with | some b => bif fitB k b then fitL k bs m ++ [(m : Int)] else fitL k bs m | none => fitL k bs m) = _
        rw [List.getElem?_eq_none (by omega)]
      rw [e]; omega
end Go.Proofs.Ytnjbhidncicfiaa
