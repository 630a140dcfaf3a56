/- Tables, plainly: no program. -/
import Derived.Test.YtnjbhidncicfiaaW2
import Derived.Test.YtnjbhidncicfiaaMN
namespace Go.Proofs.Ytnjbhidncicfiaa

abbrev Kn := Int × Int
/-- The error of the rest of a table behind a humidity. -/
def tabFrom (last : Int) : List Kn → Int
  | [] => 0
  | k :: r => bif inB 0 1000 k.1 && inB 0 400 k.2 then (bif decide (k.1 ≤ last) then 9 else tabFrom k.1 r) else 2
def tabCode (ks : List Kn) : Int := bif decide (ks.length = 0) then 12 else bif decide (50 < ks.length) then 8 else tabFrom (-1) ks
def lastAt (ks : List Kn) : Nat → Int
  | 0 => -1
  | k + 1 => (ks.getD k (0, 0)).1
theorem lastAt_succ {ks : List Kn} {k : Nat} (h : k < ks.length) : lastAt ks (k + 1) = ks[k].1 := by
  show (ks.getD k (0, 0)).1 = _
  rw [getD_at h]
theorem tab_step {ks : List Kn} {k : Nat} (h : k < ks.length) : tabFrom (lastAt ks k) (ks.drop k) =
    bif inB 0 1000 ks[k].1 && inB 0 400 ks[k].2 then (bif decide (ks[k].1 ≤ lastAt ks k) then 9 else tabFrom (lastAt ks (k + 1)) (ks.drop (k + 1))) else 2 := by
  rw [List.drop_eq_getElem_cons h, lastAt_succ h]
  rfl
theorem tab_end {ks : List Kn} {k : Nat} (h : ¬ k < ks.length) : tabFrom (lastAt ks k) (ks.drop k) = 0 := by
  rw [List.drop_eq_nil_of_le (by omega)]; rfl
theorem inB_iff {lo hi n : Int} : inB lo hi n = true ↔ lo ≤ n ∧ n ≤ hi := by unfold inB; rw [Bool.not_eq_true']; exact outB_iff
/-- What an accepted table is like. -/
structure TabOk (ks : List Kn) : Prop where
  pos : 0 < ks.length
  len : ks.length ≤ 50
  each : ∀ k (h : k < ks.length), (0 ≤ ks[k].1 ∧ ks[k].1 ≤ 1000) ∧ (0 ≤ ks[k].2 ∧ ks[k].2 ≤ 400) ∧ lastAt ks k < ks[k].1
theorem tab_from0 {ks : List Kn} (h : tabFrom (-1) ks = 0) : ∀ k, k ≤ ks.length → tabFrom (lastAt ks k) (ks.drop k) = 0
  | 0, _ => h
  | k + 1, hk => by
    have ih := tab_from0 h k (by omega)
    rw [tab_step (by omega)] at ih
    cases h1 : inB 0 1000 ks[k].1 && inB 0 400 ks[k].2
    · rw [h1] at ih; cases ih
    · rw [h1] at ih
      cases h2 : decide (ks[k].1 ≤ lastAt ks k)
      · rw [h2] at ih; exact ih
      · rw [h2] at ih; cases ih
theorem tabOk_of {ks : List Kn} (h : tabCode ks = 0) : TabOk ks := by
  unfold tabCode at h
  cases h0 : decide (ks.length = 0)
  · rw [h0] at h
    cases h1 : decide (50 < ks.length)
    · rw [h1] at h
      simp only [decide_eq_false_iff_not] at h0 h1
      refine ⟨by omega, by omega, fun k hk => ?_⟩
      have s := tab_from0 h k (by omega)
      rw [tab_step hk] at s
      cases h2 : inB 0 1000 ks[k].1 && inB 0 400 ks[k].2
      · rw [h2] at s; cases s
      · rw [h2] at s
        cases h3 : decide (ks[k].1 ≤ lastAt ks k)
        · rw [Bool.and_eq_true, inB_iff, inB_iff] at h2
          simp only [decide_eq_false_iff_not] at h3
          exact ⟨h2.1, h2.2, by omega⟩
        · rw [h3] at s; cases s
    · rw [h1] at h; cases h
  · rw [h0] at h; cases h

/-! ### Values -/
def betw (a b : Kn) (h : Int) : Int := if h ≤ a.1 then a.2 else (a.2 * (b.1 - h) + b.2 * (h - a.1)).tdiv (b.1 - a.1)
def eqFrom (last : Kn) (h : Int) : List Kn → Int
  | [] => last.2
  | k :: r => if h ≤ k.1 then betw last k h else eqFrom k h r
/-- The knot before k, and the first one before itself. -/
def prevAt (ks : List Kn) : Nat → Kn
  | 0 => ks.getD 0 (0, 0)
  | k + 1 => ks.getD k (0, 0)
theorem prevAt_succ {ks : List Kn} {k : Nat} (h : k < ks.length) : prevAt ks (k + 1) = ks[k] := getD_at h
theorem prevAt_zero {ks : List Kn} (h : 0 < ks.length) : prevAt ks 0 = ks[0] := getD_at h
theorem eq_step {ks : List Kn} {k : Nat} {h : Int} (hk : k < ks.length) : eqFrom (prevAt ks k) h (ks.drop k) =
    if h ≤ ks[k].1 then betw (prevAt ks k) ks[k] h else eqFrom (prevAt ks (k + 1)) h (ks.drop (k + 1)) := by
  rw [List.drop_eq_getElem_cons hk, prevAt_succ hk]
  rfl
theorem eq_end {ks : List Kn} {k : Nat} {h : Int} (hk : ¬ k < ks.length) : eqFrom (prevAt ks k) h (ks.drop k) = (prevAt ks k).2 := by
  rw [List.drop_eq_nil_of_le (by omega)]; rfl
/-- The numerator, as the document has it. -/
theorem betw_num (a b : Kn) (h : Int) : a.2 * (b.1 - h) + b.2 * (h - a.1) = a.2 * (b.1 - a.1) + (b.2 - a.2) * (h - a.1) := by
  rw [Int.mul_sub, Int.mul_sub, Int.mul_sub, Int.sub_mul, Int.mul_sub, Int.mul_sub]; omega
theorem betw_nonneg {a b : Kn} {h : Int} (ha : 0 ≤ a.2) (hb : 0 ≤ b.2) (h1 : a.1 ≤ h) (h2 : h ≤ b.1) : 0 ≤ a.2 * (b.1 - h) + b.2 * (h - a.1) :=
  Int.add_nonneg (Int.mul_nonneg ha (by omega)) (Int.mul_nonneg hb (by omega))
theorem betw_lt {a b : Kn} {h : Int} (h1 : a.1 < h) : betw a b h = (a.2 * (b.1 - h) + b.2 * (h - a.1)).tdiv (b.1 - a.1) := if_neg (by omega)
theorem betw_le {a b : Kn} {h : Int} (h1 : h ≤ a.1) : betw a b h = a.2 := if_pos h1
end Go.Proofs.Ytnjbhidncicfiaa
