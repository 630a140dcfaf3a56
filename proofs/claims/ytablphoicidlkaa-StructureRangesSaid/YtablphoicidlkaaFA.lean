/- Beams: moments and sags are sums of weights times numbers of one sign; what is lighter bends and breaks less. -/
import Derived.Test.YtablphoicidlkaaSA
namespace Go.Proofs.Ytablphoicidlkaa
open Go.RowKit

/-! ### Moments -/
def momC (b : Bm) (x a : Int) : Int := bif b.e == 1 then (bif decide (a ≤ x) then 0 else -2 * b.s * (a - x)) else (bif decide (a ≤ x) then 2 * a * (b.s - x) else 2 * (b.s - a) * x)
def momS (b : Bm) (x : Int) : Int := bif b.e == 1 then -((b.s - x) * (b.s - x)) else x * (b.s - x)
theorem pt_lin (b : Bm) (x : Int) (p : Pt) : ptM b p + ptR b p * x + cutM b x p = p.n * momC b x p.a := by
  unfold ptM ptR cutM momC
  cases b.e == 1 <;> cases decide (p.a ≤ x) <;> simp only [cond_true, cond_false] <;> grind
theorem pts_lin (b : Bm) (x : Int) : ∀ l : List Pt, sumL (ptM b) l + sumL (ptR b) l * x + sumL (cutM b x) l = sumL (fun p => p.n * momC b x p.a) l
  | [] => by simp [sumL]
  | p :: r => by
    have h := pts_lin b x r
    have h1 := pt_lin b x p
    show (ptM b p + sumL (ptM b) r) + (ptR b p + sumL (ptR b) r) * x + (cutM b x p + sumL (cutM b x) r) = p.n * momC b x p.a + sumL (fun p => p.n * momC b x p.a) r
    rw [Int.add_mul]
    omega
theorem mom_lin (b : Bm) (l : List Pt) (S x : Int) : mom b l S x = S * momS b x + sumL (fun p => p.n * momC b x p.a) l := by
  have h := pts_lin b x l
  have h2 : spM b S + spR b S * x + -S * x * x = S * momS b x := by
    unfold spM spR momS
    cases b.e == 1 <;> simp only [cond_true, cond_false] <;> grind
  unfold mom frM frR
  rw [Int.add_mul]
  omega
/-- The sign of a beam's moments. -/
def sgn (b : Bm) : Int := bif b.e == 1 then -1 else 1
theorem momC_sgn {b : Bm} {x a : Int} (h0 : 0 ≤ x) (h1 : x ≤ b.s) (a0 : 0 ≤ a) (a1 : a ≤ b.s) : 0 ≤ sgn b * momC b x a := by
  unfold sgn momC
  have k1 : 0 ≤ a * (b.s - x) := Int.mul_nonneg a0 (by omega)
  have k2 : 0 ≤ (b.s - a) * x := Int.mul_nonneg (by omega) h0
  cases b.e == 1 <;> cases h : decide (a ≤ x) <;> simp only [cond_true, cond_false]
  · grind
  · grind
  · have h' := of_decide_eq_false h
    have k3 : 0 ≤ b.s * (a - x) := Int.mul_nonneg (by omega) (by omega)
    grind
  · omega
theorem momS_sgn {b : Bm} {x : Int} (h0 : 0 ≤ x) (h1 : x ≤ b.s) : 0 ≤ sgn b * momS b x := by
  unfold sgn momS
  have k1 : 0 ≤ x * (b.s - x) := Int.mul_nonneg h0 (by omega)
  have k2 : 0 ≤ (b.s - x) * (b.s - x) := Int.mul_nonneg (by omega) (by omega)
  cases b.e == 1 <;> simp only [cond_true, cond_false] <;> omega

/-! ### Sags -/
def sgC0 (b : Bm) (a x : Int) : Int := bif b.e == 1 then 4 * b.s * x * x * (3 * a - x) else 4 * (b.s - a) * x * (b.s * b.s - (b.s - a) * (b.s - a) - x * x)
def sagC (b : Bm) (x a : Int) : Int := bif decide (a < x) then sgC0 b x a else sgC0 b a x
def sagS (b : Bm) (x : Int) : Int := bif b.e == 1 then x * x * (x * x - 4 * b.s * x + 6 * b.s * b.s) else x * (b.s * b.s * b.s - 2 * b.s * x * x + x * x * x)
theorem sgP_lin (b : Bm) (a n x : Int) : sgP b a n x = n * sgC0 b a x := by
  unfold sgP sgC0
  cases b.e == 1 <;> simp only [cond_true, cond_false] <;> grind
theorem ptS_lin (b : Bm) (x : Int) (p : Pt) : ptS b x p = p.n * sagC b x p.a := by
  unfold ptS sagC
  cases decide (p.a < x) <;> simp only [cond_true, cond_false] <;> exact sgP_lin _ _ _ _
theorem sag_lin (b : Bm) (l : List Pt) (S x : Int) : sag b l S x = S * sagS b x + sumL (fun p => p.n * sagC b x p.a) l := by
  unfold sag
  rw [sumL_congr (g := fun p => p.n * sagC b x p.a) fun p _ => ptS_lin b x p]
  have : spS b S x = S * sagS b x := by
    unfold spS sagS
    cases b.e == 1 <;> simp only [cond_true, cond_false] <;> grind
  rw [this]
theorem sgC0_nn {b : Bm} {a x : Int} (h0 : 0 ≤ x) (h1 : x ≤ a) (h2 : a ≤ b.s) : 0 ≤ sgC0 b a x := by
  unfold sgC0
  cases b.e == 1 <;> simp only [cond_true, cond_false]
  · have k1 : 0 ≤ (b.s - a) * x := Int.mul_nonneg (by omega) h0
    have k2 : 0 ≤ b.s * b.s - (b.s - a) * (b.s - a) - x * x := by
      have e1 : x * x ≤ a * a := Int.mul_le_mul h1 h1 h0 (by omega)
      have e2 : 0 ≤ a * (b.s - a) := Int.mul_nonneg (by omega) (by omega)
      grind
    have k3 := Int.mul_nonneg (Int.mul_nonneg (show (0 : Int) ≤ 4 by omega) k1) k2
    rw [← Int.mul_assoc] at k3
    exact k3
  · exact Int.mul_nonneg (Int.mul_nonneg (Int.mul_nonneg (by omega) h0) h0) (by omega)
theorem sagC_nn {b : Bm} {a x : Int} (h0 : 0 ≤ x) (h1 : x ≤ b.s) (a0 : 0 ≤ a) (a1 : a ≤ b.s) : 0 ≤ sagC b x a := by
  unfold sagC
  cases h : decide (a < x) <;> simp only [cond_true, cond_false]
  · exact sgC0_nn h0 (by have := of_decide_eq_false h; omega) a1
  · exact sgC0_nn a0 (by have := of_decide_eq_true h; omega) h1
theorem sagS_nn {b : Bm} {x : Int} (h0 : 0 ≤ x) (h1 : x ≤ b.s) : 0 ≤ sagS b x := by
  unfold sagS
  cases b.e == 1 <;> simp only [cond_true, cond_false]
  · refine Int.mul_nonneg h0 ?_
    have e1 : 0 ≤ (b.s - x) * (b.s * b.s + x * (b.s - x)) := Int.mul_nonneg (by omega) (Int.add_nonneg (Int.mul_nonneg (by omega) (by omega)) (Int.mul_nonneg h0 (by omega)))
    grind
  · refine Int.mul_nonneg (Int.mul_nonneg h0 h0) ?_
    have e1 : 0 ≤ x * x := Int.mul_nonneg h0 h0
    have e2 : 0 ≤ b.s * (b.s - x) := Int.mul_nonneg (by omega) (by omega)
    have e3 : 0 ≤ b.s * b.s := Int.mul_nonneg (by omega) (by omega)
    grind

/-! ### Lighter burdens -/
theorem sumL_between {α : Type} {f g : α → Int} : ∀ {l : List α}, (∀ p ∈ l, 0 ≤ f p ∧ f p ≤ g p) → 0 ≤ sumL f l ∧ sumL f l ≤ sumL g l
  | [], _ => ⟨Int.le_refl _, Int.le_refl _⟩
  | p :: r, h => by
    have h1 := h p (List.mem_cons_self ..)
    have h2 := sumL_between (l := r) fun q hq => h q (List.mem_cons_of_mem _ hq)
    show 0 ≤ f p + sumL f r ∧ f p + sumL f r ≤ g p + sumL g r
    omega
theorem sumL_mapP {α β : Type} (f : β → Int) (g : α → β) : ∀ (l : List α), sumL f (l.map g) = sumL (fun x => f (g x)) l
  | [] => rfl
  | x :: r => by show f (g x) + _ = f (g x) + _; rw [sumL_mapP f g r]
theorem sumL_scaleA {α : Type} (f : α → Int) (k : Int) : ∀ (l : List α), sumL (fun x => k * f x) l = k * sumL f l
  | [] => by simp [sumL]
  | x :: r => by show k * f x + sumL (fun x => k * f x) r = k * (f x + sumL f r); rw [sumL_scaleA f k r, Int.mul_add]
theorem mul_between {n m c : Int} (h0 : 0 ≤ n) (h1 : n ≤ m) (hc : 0 ≤ c) : 0 ≤ n * c ∧ n * c ≤ m * c := ⟨Int.mul_nonneg h0 hc, Int.mul_le_mul_of_nonneg_right h1 hc⟩
def hlf (n : Int) : Int := n.tdiv 2
theorem hlf_nn {n : Int} (h : 0 ≤ n) : 0 ≤ hlf n ∧ hlf n ≤ n := by
  unfold hlf
  rw [Int.tdiv_eq_ediv_of_nonneg h]
  omega
def hlfP (p : Pt) : Pt := ⟨p.a, hlf p.n⟩
theorem absI_le {x y : Int} (h : (0 ≤ x ∧ x ≤ y)) : absI x ≤ absI y := by unfold absI; omega
theorem absI_sgn (b : Bm) (x : Int) : absI (sgn b * x) = absI x := by
  unfold sgn absI
  cases b.e == 1 <;> simp only [cond_true, cond_false] <;> omega
theorem sag_half {b : Bm} {l : List Pt} {S x : Int} (hl : ∀ p ∈ l, PtOk b.s p ∧ 0 ≤ p.n) (hS : 0 ≤ S) (h0 : 0 ≤ x) (h1 : x ≤ b.s) : absI (sag b (l.map hlfP) (hlf S) x) ≤ absI (sag b l S x) := by
  refine absI_le ?_
  rw [sag_lin, sag_lin, sumL_mapP]
  obtain ⟨a1, a2⟩ := hlf_nn hS
  have k1 := mul_between a1 a2 (sagS_nn h0 h1)
  have k2 := sumL_between (f := fun p => (hlfP p).n * sagC b x (hlfP p).a) (g := fun p => p.n * sagC b x p.a) (l := l) fun p hp => by
    obtain ⟨h, hn⟩ := hl p hp
    obtain ⟨b1, b2⟩ := hlf_nn hn
    exact mul_between b1 b2 (sagC_nn h0 h1 h.a0 h.a1)
  omega
theorem mom_half {b : Bm} {l : List Pt} {S x : Int} (hl : ∀ p ∈ l, PtOk b.s p ∧ 0 ≤ p.n) (hS : 0 ≤ S) (h0 : 0 ≤ x) (h1 : x ≤ b.s) : absI (mom b (l.map hlfP) (hlf S) x) ≤ absI (mom b l S x) := by
  rw [← absI_sgn b, ← absI_sgn b (mom b l S x)]
  refine absI_le ?_
  rw [mom_lin, mom_lin, sumL_mapP, Int.mul_add, Int.mul_add, ← sumL_scaleA, ← sumL_scaleA]
  obtain ⟨a1, a2⟩ := hlf_nn hS
  have k1 := mul_between a1 a2 (momS_sgn h0 h1)
  have k2 := sumL_between (f := fun p => sgn b * ((hlfP p).n * momC b x (hlfP p).a)) (g := fun p => sgn b * (p.n * momC b x p.a)) (l := l) fun p hp => by
    obtain ⟨h, hn⟩ := hl p hp
    obtain ⟨b1, b2⟩ := hlf_nn hn
    have := mul_between b1 b2 (momC_sgn (b := b) h0 h1 h.a0 h.a1)
    rw [Int.mul_left_comm, Int.mul_left_comm (sgn b) p.n]
    exact this
  rw [Int.mul_left_comm (sgn b) (hlf S), Int.mul_left_comm (sgn b) S]
  omega

/-! ### The greatest one -/
theorem grP_max (g : Nat → Int) (n : Nat) : absI (grP g (n + 1)).2 = max (absI (grP g n).2) (absI (g n)) := by
  rcases e : grP g n with ⟨p, m⟩
  by_cases hl : absI m < absI (g n)
  · rw [grP_succ_lt e hl]; simp only; omega
  · rw [grP_succ_ge e hl]; simp only; omega
theorem grP_mono {g h : Nat → Int} : ∀ {n : Nat}, (∀ k, k < n → absI (g k) ≤ absI (h k)) → absI (grP g n).2 ≤ absI (grP h n).2
  | 0, _ => Int.le_refl _
  | n + 1, hk => by
    rw [grP_max, grP_max]
    have h1 := grP_mono (n := n) fun k hk' => hk k (by omega)
    have h2 := hk n (by omega)
    omega
theorem low_le {n d st : Int} (hd : 0 < d) : lowN n d ≤ st * lowD n d ↔ n ≤ st * d := by
  have hg : (0 : Int) < lowG n d := by have := lowG_pos (n := n) hd; omega
  have h1 := lowN_mul n d
  have h2 := lowD_mul n d
  have h3 : st * lowD n d * lowG n d = st * d := by rw [Int.mul_assoc, h2]
  constructor
  · intro h
    have := Int.mul_le_mul_of_nonneg_right h (Int.le_of_lt hg)
    rw [h1, h3] at this
    exact this
  · intro h
    rw [← h1, ← h3] at h
    exact Int.le_of_mul_le_mul_right h hg
theorem low_le2 {n d r s : Int} (hd : 0 < d) : absI (lowN n d) * r ≤ s * lowD n d ↔ absI n * r ≤ s * d := by
  have hg : (0 : Int) < lowG n d := by have := lowG_pos (n := n) hd; omega
  have h1 : absI (lowN n d) * lowG n d = absI n := by
    have h1 := lowN_mul n d
    have h2 : absI (lowN n d * lowG n d) = absI (lowN n d) * lowG n d := by unfold absI; rw [Int.natAbs_mul, Int.natCast_mul]; simp
    rw [← h2, h1]
  have h2 := lowD_mul n d
  have h3 : s * lowD n d * lowG n d = s * d := by rw [Int.mul_assoc, h2]
  have h4 : absI (lowN n d) * r * lowG n d = absI n * r := by rw [Int.mul_right_comm, h1]
  constructor
  · intro h
    have := Int.mul_le_mul_of_nonneg_right h (Int.le_of_lt hg)
    rw [h4, h3] at this
    exact this
  · intro h
    rw [← h4, ← h3] at h
    exact Int.le_of_mul_le_mul_right h hg
end Go.Proofs.Ytablphoicidlkaa
