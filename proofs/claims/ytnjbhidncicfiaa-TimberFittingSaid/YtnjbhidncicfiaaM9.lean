/- Drying, plainly: no program. -/
namespace Go.Proofs.Ytnjbhidncicfiaa

def chg (d r : Int) : Int := if 0 < d then max 1 (d.tdiv r) else if d < 0 then min (-1) (d.tdiv r) else 0
def nextM (t r m : Int) : Int := m + chg (t - m) r
def dryN (t r m : Int) : Nat → Int
  | 0 => m
  | n + 1 => nextM t r (dryN t r m n)

theorem tdiv_pos {d r : Int} (hd : 0 ≤ d) (hr : 1 ≤ r) : 0 ≤ d.tdiv r ∧ d.tdiv r ≤ d := by
  rw [Int.tdiv_eq_ediv_of_nonneg hd]
  exact ⟨Int.ediv_nonneg hd (by omega), Int.ediv_le_self _ hd⟩
theorem tdiv_neg {d r : Int} (hd : d ≤ 0) (hr : 1 ≤ r) : d ≤ d.tdiv r ∧ d.tdiv r ≤ 0 := by
  have h := tdiv_pos (d := -d) (r := r) (by omega) hr
  rw [Int.neg_tdiv] at h
  omega
theorem chg_pos {d r : Int} (hd : 0 < d) (hr : 1 ≤ r) : 1 ≤ chg d r ∧ chg d r ≤ d := by
  have h := tdiv_pos (d := d) (r := r) (by omega) hr
  unfold chg; rw [if_pos hd]; omega
theorem chg_neg {d r : Int} (hd : d < 0) (hr : 1 ≤ r) : d ≤ chg d r ∧ chg d r ≤ -1 := by
  have h := tdiv_neg (d := d) (r := r) (by omega) hr
  unfold chg; rw [if_neg (by omega), if_pos hd]; omega
theorem chg_zero (r : Int) : chg 0 r = 0 := by unfold chg; rw [if_neg (by omega), if_neg (by omega)]
/-- The distance falls. -/
def dist (t m : Int) : Nat := (t - m).natAbs
theorem next_dist {t r m : Int} (hr : 1 ≤ r) (h : m ≠ t) : dist t (nextM t r m) < dist t m := by
  unfold dist nextM
  by_cases hd : 0 < t - m
  · have := chg_pos hd hr; omega
  · have := chg_neg (show t - m < 0 by omega) hr; omega
theorem next_end (t r : Int) : nextM t r t = t := by unfold nextM; rw [Int.sub_self, chg_zero, Int.add_zero]
theorem next_between {t r m lo hi : Int} (hr : 1 ≤ r) (h1 : lo ≤ m) (h2 : m ≤ hi) (h3 : lo ≤ t) (h4 : t ≤ hi) : lo ≤ nextM t r m ∧ nextM t r m ≤ hi := by
  unfold nextM
  by_cases hd : 0 < t - m
  · have := chg_pos hd hr; omega
  · by_cases hd' : t - m < 0
    · have := chg_neg hd' hr; omega
    · have e : t - m = 0 := by omega
      rw [e, chg_zero]; omega
theorem dry_between {t r m lo hi : Int} (hr : 1 ≤ r) (h1 : lo ≤ m) (h2 : m ≤ hi) (h3 : lo ≤ t) (h4 : t ≤ hi) : ∀ n, lo ≤ dryN t r m n ∧ dryN t r m n ≤ hi
  | 0 => ⟨h1, h2⟩
  | n + 1 => let ⟨a, b⟩ := dry_between hr h1 h2 h3 h4 n; next_between hr a b h3 h4
theorem dry_end {t r m : Int} {k : Nat} (h : dryN t r m k = t) : ∀ n, dryN t r m (k + n) = t
  | 0 => h
  | n + 1 => by show nextM t r (dryN t r m (k + n)) = t; rw [dry_end h n]; exact next_end t r
theorem dry_end' {t r m : Int} {k n : Nat} (h : dryN t r m k = t) (hn : k ≤ n) : dryN t r m n = t := by
  have := dry_end h (n - k); rw [show k + (n - k) = n by omega] at this; exact this
theorem dry_one (t r m : Int) : dryN t r m 1 = nextM t r m := rfl
/-- Near the target. -/
def near (t b m : Int) : Bool := decide (t - b ≤ m) && decide (m ≤ t + b)
def IsFirst (t r m b : Int) (n : Nat) : Prop := near t b (dryN t r m n) = true ∧ ∀ j, j < n → near t b (dryN t r m j) = false
theorem near_of_dist {t b m : Int} (hb : 0 ≤ b) (h : m = t) : near t b m = true := by unfold near; simp; omega
theorem reaches {t r m : Int} (hr : 1 ≤ r) : ∀ (d n : Nat), dist t (dryN t r m n) ≤ d → ∃ k, dryN t r m k = t
  | 0, n, h => ⟨n, by unfold dist at h; omega⟩
  | d + 1, n, h => by
    by_cases e : dryN t r m n = t
    · exact ⟨n, e⟩
    · exact reaches hr d (n + 1) (by have := next_dist hr e; show dist t (nextM t r (dryN t r m n)) ≤ d; omega)
theorem least {p : Nat → Bool} : ∀ (n : Nat), p n = true → ∃ k, p k = true ∧ ∀ j, j < k → p j = false
  | 0, h => ⟨0, h, fun j hj => absurd hj (by omega)⟩
  | n + 1, h => by
    by_cases e : ∃ j, j ≤ n ∧ p j = true
    · obtain ⟨j, hj, hp⟩ := e
      exact least j hp
    · exact ⟨n + 1, h, fun j hj => by
        cases hp : p j
        · rfl
        · exact absurd ⟨j, by omega, hp⟩ e⟩
termination_by n => n
theorem first_exists {t r m b : Int} (hr : 1 ≤ r) (hb : 0 ≤ b) : ∃ n, IsFirst t r m b n := by
  obtain ⟨k, hk⟩ := reaches (m := m) hr _ 0 (Nat.le_refl _)
  exact least (p := fun n => near t b (dryN t r m n)) k (near_of_dist hb hk)
theorem first_le {t r m b : Int} (hr : 1 ≤ r) (hb : 0 ≤ b) {n : Nat} (h : IsFirst t r m b n) : ∀ k, k ≤ n → dist t (dryN t r m k) + k ≤ dist t m
  | 0, _ => by simp [dryN]
  | k + 1, hk => by
    have ih := first_le hr hb h k (by omega)
    have hne : dryN t r m k ≠ t := fun e => by have h1 := h.2 k (by omega); rw [near_of_dist hb e] at h1; cases h1
    have hd := next_dist hr hne
    show dist t (nextM t r (dryN t r m k)) + (k + 1) ≤ _
    omega
end Go.Proofs.Ytnjbhidncicfiaa
