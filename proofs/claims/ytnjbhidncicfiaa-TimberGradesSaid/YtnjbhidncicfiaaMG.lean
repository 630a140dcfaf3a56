/- Mathematics: grades of boards. -/
import Derived.Test.YtnjbhidncicfiaaMC
import Derived.Test.YtnjbhidncicfiaaMN
import Derived.Test.YtnjbhidncicfiaaMT
namespace Go.Proofs.Ytnjbhidncicfiaa

structure Gr where
  nm : ByteArray
  mo : Int
  sh : Int
  cl : Int
instance : Inhabited Gr := ⟨⟨ByteArray.empty, 0, 0, 0⟩⟩
def grsFrom : List Gr → Int
  | [] => 0
  | g :: t => bif nameB g.nm then (bif inB 0 60 g.mo then (bif inB 0 1000 g.sh then (bif inB 0 600000 g.cl then grsFrom t else 2) else 2) else 2) else 4
def grsCode (l : List Gr) : Int := bif decide (20 < l.length) then 8 else grsFrom l
theorem grs_step {l : List Gr} {k : Nat} (h : k < l.length) : grsFrom (l.drop k) = bif nameB l[k].nm then (bif inB 0 60 l[k].mo then (bif inB 0 1000 l[k].sh then (bif inB 0 600000 l[k].cl then grsFrom (l.drop (k + 1)) else 2) else 2) else 2) else 4 := by
  rw [List.drop_eq_getElem_cons h]; rfl
theorem grs_end {l : List Gr} {k : Nat} (h : ¬ k < l.length) : grsFrom (l.drop k) = 0 := by rw [List.drop_eq_nil_of_le (by omega)]; rfl
theorem grs_each : ∀ {l : List Gr}, grsFrom l = 0 → ∀ g ∈ l, (0 ≤ g.mo ∧ g.mo ≤ 60) ∧ (0 ≤ g.sh ∧ g.sh ≤ 1000) ∧ (0 ≤ g.cl ∧ g.cl ≤ 600000)
  | [], _, g, hg => by cases hg
  | x :: t, h, g, hg => by
    unfold grsFrom at h
    cases h0 : nameB x.nm <;> rw [h0] at h
    · exact absurd h (by simp)
    cases h1 : inB 0 60 x.mo <;> rw [h1] at h
    · exact absurd h (by simp)
    cases h2 : inB 0 1000 x.sh <;> rw [h2] at h
    · exact absurd h (by simp)
    cases h3 : inB 0 600000 x.cl <;> rw [h3] at h
    · exact absurd h (by simp)
    rcases List.mem_cons.1 hg with rfl | hg
    · exact ⟨inB_iff.1 h1, inB_iff.1 h2, inB_iff.1 h3⟩
    · exact grs_each h g hg
theorem grs_ok {l : List Gr} (h : grsCode l = 0) : l.length ≤ 20 ∧ grsFrom l = 0 := by
  unfold grsCode at h
  by_cases h0 : 20 < l.length
  · rw [decide_eq_true h0] at h; exact absurd h (by simp)
  · rw [decide_eq_false h0] at h; exact ⟨by omega, h⟩

def longest (l : List Iv) : Int := l.foldl (fun m p => max m (p.2 - p.1)) 0
theorem longest_take {l : List Iv} {k : Nat} (h : k < l.length) : longest (l.take (k + 1)) = max (longest (l.take k)) (l[k].2 - l[k].1) := by
  unfold longest
  rw [List.take_succ_eq_append_getElem h, List.foldl_append]; rfl
theorem longest_bd {M : Int} : ∀ (l : List Iv) {m : Int}, 0 ≤ m → m ≤ M → (∀ p ∈ l, p.2 - p.1 ≤ M) → 0 ≤ l.foldl (fun m p => max m (p.2 - p.1)) m ∧ l.foldl (fun m p => max m (p.2 - p.1)) m ≤ M
  | [], m, h0, h1, _ => ⟨h0, h1⟩
  | p :: t, m, h0, h1, h => by
    have := h p (List.mem_cons_self ..)
    exact longest_bd t (m := max m (p.2 - p.1)) (by omega) (by omega) fun q hq => h q (List.mem_cons_of_mem _ hq)
theorem norm_each' : ∀ {l : List Iv} {b : Int}, NormL b l → ∀ p ∈ l, b < p.1 ∧ p.1 < p.2
  | [], _, _, p, h => by cases h
  | q :: r, b, hn, p, h => by
    obtain ⟨h1, h2, h3⟩ := hn
    rcases List.mem_cons.1 h with rfl | h
    · exact ⟨h1, h2⟩
    · have := norm_each' h3 p h
      exact ⟨by omega, this.2⟩
theorem clear_in {b : Bd} {l : List Iv} (h : IsClear b l) {p : Iv} (hp : p ∈ l) : 0 ≤ p.1 ∧ p.1 < p.2 ∧ p.2 ≤ b.ln := by
  obtain ⟨h1, h2⟩ := norm_each' h.1 p hp
  have h3 := (h.2 (p.2 - 1)).1 ⟨p, hp, by omega, by omega⟩
  exact ⟨by omega, h2, by omega⟩
theorem longest_in {b : Bd} (hb : BdOk b) {l : List Iv} (h : IsClear b l) (k : Nat) : 0 ≤ longest (l.take k) ∧ longest (l.take k) ≤ b.ln := by
  have hl := hb.l0
  refine longest_bd (l.take k) (Int.le_refl 0) (by omega) fun p hp => ?_
  have := clear_in h (List.mem_of_mem_take hp)
  omega
/-- Whether a board with so many defects, a covered area, sides and a longest clear length has a grade. -/
def hasG (n : Int) (cov ln wd lo : Int) (g : Gr) : Bool := bif decide (n ≤ g.mo) then (bif decide (cov * 1000 ≤ g.sh * ln * wd) then decide (g.cl ≤ lo) else false) else false
def gradeFrom (p : Gr → Bool) : Nat → List Gr → Int
  | _, [] => -1
  | i, g :: t => bif p g then i else gradeFrom p (i + 1) t
theorem grade_step {p : Gr → Bool} {l : List Gr} {k : Nat} (h : k < l.length) : gradeFrom p k (l.drop k) = bif p l[k] then (k : Int) else gradeFrom p (k + 1) (l.drop (k + 1)) := by
  rw [List.drop_eq_getElem_cons h]; rfl
theorem grade_end {p : Gr → Bool} {l : List Gr} {k : Nat} (h : ¬ k < l.length) : gradeFrom p k (l.drop k) = -1 := by rw [List.drop_eq_nil_of_le (by omega)]; rfl
theorem grade_bd {p : Gr → Bool} : ∀ {l : List Gr} {i : Nat}, gradeFrom p i l = -1 ∨ (0 ≤ gradeFrom p i l ∧ gradeFrom p i l < i + l.length)
  | [], _ => .inl rfl
  | g :: t, i => by
    unfold gradeFrom
    cases h : p g
    · have := grade_bd (p := p) (l := t) (i := i + 1)
      simp only [cond_false, List.length_cons]
      omega
    · simp only [cond_true, List.length_cons]
      omega
def gradeB (b : Bd) (cl : List Iv) (l : List Gr) : Int := gradeFrom (hasG b.df.length (covered b) b.ln b.wd (longest cl)) 0 l
end Go.Proofs.Ytnjbhidncicfiaa
