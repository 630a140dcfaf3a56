/- Beams: moments and sags are sums of weights times numbers of one sign; what is lighter bends and breaks less. -/
import Derived.Lib.Mul64
import Derived.Laws.Bits64b
import Derived.Test.YtablphoicidlkaaSA
import Derived.Test.YtablphoicidlkaaSN
import Derived.Test.YtablphoicidlkaaSP
import Derived.Test.YtablphoicidlkaaSB
import Derived.Test.YtablphoicidlkaaDD
import Derived.Test.YtablphoicidlkaaDG
import Derived.Test.YtablphoicidlkaaDN
import Derived.Test.YtablphoicidlkaaRI
namespace Go.Proofs.Ytablphoicidlkaa
open Go.RowKit

/-! ### Moments -/
def momC (b : Bm) (x a : Int) : Int := bif b.e == 1 then (bif decide (a ≤ x) then 0 else -2 * b.s * (a - x)) else (bif decide (a ≤ x) then 2 * a * (b.s - x) else 2 * (b.s - a) * x)
def momS (b : Bm) (x : Int) : Int := bif b.e == 1 then -((b.s - x) * (b.s - x)) else x * (b.s - x)
theorem pt_lin (b : Bm) (x : Int) (p : Pt) : ptM b p + ptR b p * x + cutM b x p = p.n * momC b x p.a := by
  unfold ptM ptR cutM momC
  cases b.e == 1 <;> cases decide (p.a ≤ x) <;> simp only [cond_true, cond_false] <;> grind
theorem pts_lin (b : Bm) (x : Int) : ∀ l : List Pt, sumL (ptM b) l + sumL (ptR b) l * x + sumL (cutM b x) l = sumL (fun p => p.n * momC b x p.a) l
  | [] => by simp [sumL]
  | p :: r => by
    have h := pts_lin b x r
    have h1 := pt_lin b x p
    show (ptM b p + sumL (ptM b) r) + (ptR b p + sumL (ptR b) r) * x + (cutM b x p + sumL (cutM b x) r) = p.n * momC b x p.a + sumL (fun p => p.n * momC b x p.a) r
    rw [Int.add_mul]
    omega
theorem mom_lin (b : Bm) (l : List Pt) (S x : Int) : mom b l S x = S * momS b x + sumL (fun p => p.n * momC b x p.a) l := by
  have h := pts_lin b x l
  have h2 : spM b S + spR b S * x + -S * x * x = S * momS b x := by
    unfold spM spR momS
    cases b.e == 1 <;> simp only [cond_true, cond_false] <;> grind
  unfold mom frM frR
  rw [Int.add_mul]
  omega
/-- The sign of a beam's moments. -/
def sgn (b : Bm) : Int := bif b.e == 1 then -1 else 1
theorem momC_sgn {b : Bm} {x a : Int} (h0 : 0 ≤ x) (h1 : x ≤ b.s) (a0 : 0 ≤ a) (a1 : a ≤ b.s) : 0 ≤ sgn b * momC b x a := by
  unfold sgn momC
  have k1 : 0 ≤ a * (b.s - x) := Int.mul_nonneg a0 (by omega)
  have k2 : 0 ≤ (b.s - a) * x := Int.mul_nonneg (by omega) h0
  cases b.e == 1 <;> cases h : decide (a ≤ x) <;> simp only [cond_true, cond_false]
  · grind
  · grind
  · have h' := of_decide_eq_false h
    have k3 : 0 ≤ b.s * (a - x) := Int.mul_nonneg (by omega) (by omega)
    grind
  · omega
theorem momS_sgn {b : Bm} {x : Int} (h0 : 0 ≤ x) (h1 : x ≤ b.s) : 0 ≤ sgn b * momS b x := by
  unfold sgn momS
  have k1 : 0 ≤ x * (b.s - x) := Int.mul_nonneg h0 (by omega)
  have k2 : 0 ≤ (b.s - x) * (b.s - x) := Int.mul_nonneg (by omega) (by omega)
  cases b.e == 1 <;> simp only [cond_true, cond_false] <;> omega

/-! ### Sags -/
def sgC0 (b : Bm) (a x : Int) : Int := bif b.e == 1 then 4 * b.s * x * x * (3 * a - x) else 4 * (b.s - a) * x * (b.s * b.s - (b.s - a) * (b.s - a) - x * x)
def sagC (b : Bm) (x a : Int) : Int := bif decide (a < x) then sgC0 b x a else sgC0 b a x
def sagS (b : Bm) (x : Int) : Int := bif b.e == 1 then x * x * (x * x - 4 * b.s * x + 6 * b.s * b.s) else x * (b.s * b.s * b.s - 2 * b.s * x * x + x * x * x)
theorem sgP_lin (b : Bm) (a n x : Int) : sgP b a n x = n * sgC0 b a x := by
  unfold sgP sgC0
  cases b.e == 1 <;> simp only [cond_true, cond_false] <;> grind
theorem ptS_lin (b : Bm) (x : Int) (p : Pt) : ptS b x p = p.n * sagC b x p.a := by
  unfold ptS sagC
  cases decide (p.a < x) <;> simp only [cond_true, cond_false] <;> exact sgP_lin _ _ _ _
theorem sag_lin (b : Bm) (l : List Pt) (S x : Int) : sag b l S x = S * sagS b x + sumL (fun p => p.n * sagC b x p.a) l := by
  unfold sag
  rw [sumL_congr (g := fun p => p.n * sagC b x p.a) fun p _ => ptS_lin b x p]
  have : spS b S x = S * sagS b x := by
    unfold spS sagS
    cases b.e == 1 <;> simp only [cond_true, cond_false] <;> grind
  rw [this]
theorem sgC0_nn {b : Bm} {a x : Int} (h0 : 0 ≤ x) (h1 : x ≤ a) (h2 : a ≤ b.s) : 0 ≤ sgC0 b a x := by
  unfold sgC0
  cases b.e == 1 <;> simp only [cond_true, cond_false]
  · have k1 : 0 ≤ (b.s - a) * x := Int.mul_nonneg (by omega) h0
    have k2 : 0 ≤ b.s * b.s - (b.s - a) * (b.s - a) - x * x := by
      have e1 : x * x ≤ a * a := Int.mul_le_mul h1 h1 h0 (by omega)
      have e2 : 0 ≤ a * (b.s - a) := Int.mul_nonneg (by omega) (by omega)
      grind
    have k3 := Int.mul_nonneg (Int.mul_nonneg (show (0 : Int) ≤ 4 by omega) k1) k2
    rw [← Int.mul_assoc] at k3
    exact k3
  · exact Int.mul_nonneg (Int.mul_nonneg (Int.mul_nonneg (by omega) h0) h0) (by omega)
theorem sagC_nn {b : Bm} {a x : Int} (h0 : 0 ≤ x) (h1 : x ≤ b.s) (a0 : 0 ≤ a) (a1 : a ≤ b.s) : 0 ≤ sagC b x a := by
  unfold sagC
  cases h : decide (a < x) <;> simp only [cond_true, cond_false]
  · exact sgC0_nn h0 (by have := of_decide_eq_false h; omega) a1
  · exact sgC0_nn a0 (by have := of_decide_eq_true h; omega) h1
theorem sagS_nn {b : Bm} {x : Int} (h0 : 0 ≤ x) (h1 : x ≤ b.s) : 0 ≤ sagS b x := by
  unfold sagS
  cases b.e == 1 <;> simp only [cond_true, cond_false]
  · refine Int.mul_nonneg h0 ?_
    have e1 : 0 ≤ (b.s - x) * (b.s * b.s + x * (b.s - x)) := Int.mul_nonneg (by omega) (Int.add_nonneg (Int.mul_nonneg (by omega) (by omega)) (Int.mul_nonneg h0 (by omega)))
    grind
  · refine Int.mul_nonneg (Int.mul_nonneg h0 h0) ?_
    have e1 : 0 ≤ x * x := Int.mul_nonneg h0 h0
    have e2 : 0 ≤ b.s * (b.s - x) := Int.mul_nonneg (by omega) (by omega)
    have e3 : 0 ≤ b.s * b.s := Int.mul_nonneg (by omega) (by omega)
    grind

/-! ### Lighter burdens -/
theorem sumL_between {α : Type} {f g : α → Int} : ∀ {l : List α}, (∀ p ∈ l, 0 ≤ f p ∧ f p ≤ g p) → 0 ≤ sumL f l ∧ sumL f l ≤ sumL g l
  | [], _ => ⟨Int.le_refl _, Int.le_refl _⟩
  | p :: r, h => by
    have h1 := h p (List.mem_cons_self ..)
    have h2 := sumL_between (l := r) fun q hq => h q (List.mem_cons_of_mem _ hq)
    show 0 ≤ f p + sumL f r ∧ f p + sumL f r ≤ g p + sumL g r
    omega
theorem sumL_mapP {α β : Type} (f : β → Int) (g : α → β) : ∀ (l : List α), sumL f (l.map g) = sumL (fun x => f (g x)) l
  | [] => rfl
  | x :: r => by show f (g x) + _ = f (g x) + _; rw [sumL_mapP f g r]
theorem sumL_scaleA {α : Type} (f : α → Int) (k : Int) : ∀ (l : List α), sumL (fun x => k * f x) l = k * sumL f l
  | [] => by simp [sumL]
  | x :: r => by show k * f x + sumL (fun x => k * f x) r = k * (f x + sumL f r); rw [sumL_scaleA f k r, Int.mul_add]
theorem mul_between {n m c : Int} (h0 : 0 ≤ n) (h1 : n ≤ m) (hc : 0 ≤ c) : 0 ≤ n * c ∧ n * c ≤ m * c := ⟨Int.mul_nonneg h0 hc, Int.mul_le_mul_of_nonneg_right h1 hc⟩
def hlf (n : Int) : Int := n.tdiv 2
theorem hlf_nn {n : Int} (h : 0 ≤ n) : 0 ≤ hlf n ∧ hlf n ≤ n := by
  unfold hlf
  rw [Int.tdiv_eq_ediv_of_nonneg h]
  omega
def hlfP (p : Pt) : Pt := ⟨p.a, hlf p.n⟩
theorem absI_le {x y : Int} (h : (0 ≤ x ∧ x ≤ y)) : absI x ≤ absI y := by unfold absI; omega
theorem absI_sgn (b : Bm) (x : Int) : absI (sgn b * x) = absI x := by
  unfold sgn absI
  cases b.e == 1 <;> simp only [cond_true, cond_false] <;> omega
theorem sag_half {b : Bm} {l : List Pt} {S x : Int} (hl : ∀ p ∈ l, PtOk b.s p ∧ 0 ≤ p.n) (hS : 0 ≤ S) (h0 : 0 ≤ x) (h1 : x ≤ b.s) : absI (sag b (l.map hlfP) (hlf S) x) ≤ absI (sag b l S x) := by
  refine absI_le ?_
  rw [sag_lin, sag_lin, sumL_mapP]
  obtain ⟨a1, a2⟩ := hlf_nn hS
  have k1 := mul_between a1 a2 (sagS_nn h0 h1)
  have k2 := sumL_between (f := fun p => (hlfP p).n * sagC b x (hlfP p).a) (g := fun p => p.n * sagC b x p.a) (l := l) fun p hp => by
    obtain ⟨h, hn⟩ := hl p hp
    obtain ⟨b1, b2⟩ := hlf_nn hn
    exact mul_between b1 b2 (sagC_nn h0 h1 h.a0 h.a1)
  omega
theorem mom_half {b : Bm} {l : List Pt} {S x : Int} (hl : ∀ p ∈ l, PtOk b.s p ∧ 0 ≤ p.n) (hS : 0 ≤ S) (h0 : 0 ≤ x) (h1 : x ≤ b.s) : absI (mom b (l.map hlfP) (hlf S) x) ≤ absI (mom b l S x) := by
  rw [← absI_sgn b, ← absI_sgn b (mom b l S x)]
  refine absI_le ?_
  rw [mom_lin, mom_lin, sumL_mapP, Int.mul_add, Int.mul_add, ← sumL_scaleA, ← sumL_scaleA]
  obtain ⟨a1, a2⟩ := hlf_nn hS
  have k1 := mul_between a1 a2 (momS_sgn h0 h1)
  have k2 := sumL_between (f := fun p => sgn b * ((hlfP p).n * momC b x (hlfP p).a)) (g := fun p => sgn b * (p.n * momC b x p.a)) (l := l) fun p hp => by
    obtain ⟨h, hn⟩ := hl p hp
    obtain ⟨b1, b2⟩ := hlf_nn hn
    have := mul_between b1 b2 (momC_sgn (b := b) h0 h1 h.a0 h.a1)
    rw [Int.mul_left_comm, Int.mul_left_comm (sgn b) p.n]
    exact this
  rw [Int.mul_left_comm (sgn b) (hlf S), Int.mul_left_comm (sgn b) S]
  omega

/-! ### The greatest one -/
theorem grP_max (g : Nat → Int) (n : Nat) : absI (grP g (n + 1)).2 = max (absI (grP g n).2) (absI (g n)) := by
  rcases e : grP g n with ⟨p, m⟩
  by_cases hl : absI m < absI (g n)
  · rw [grP_succ_lt e hl]; simp only; omega
  · rw [grP_succ_ge e hl]; simp only; omega
theorem grP_mono {g h : Nat → Int} : ∀ {n : Nat}, (∀ k, k < n → absI (g k) ≤ absI (h k)) → absI (grP g n).2 ≤ absI (grP h n).2
  | 0, _ => Int.le_refl _
  | n + 1, hk => by
    rw [grP_max, grP_max]
    have h1 := grP_mono (n := n) fun k hk' => hk k (by omega)
    have h2 := hk n (by omega)
    omega
theorem low_le {n d st : Int} (hd : 0 < d) : lowN n d ≤ st * lowD n d ↔ n ≤ st * d := by
  have hg : (0 : Int) < lowG n d := by have := lowG_pos (n := n) hd; omega
  have h1 := lowN_mul n d
  have h2 := lowD_mul n d
  have h3 : st * lowD n d * lowG n d = st * d := by rw [Int.mul_assoc, h2]
  constructor
  · intro h
    have := Int.mul_le_mul_of_nonneg_right h (Int.le_of_lt hg)
    rw [h1, h3] at this
    exact this
  · intro h
    rw [← h1, ← h3] at h
    exact Int.le_of_mul_le_mul_right h hg
theorem low_le2 {n d r s : Int} (hd : 0 < d) : absI (lowN n d) * r ≤ s * lowD n d ↔ absI n * r ≤ s * d := by
  have hg : (0 : Int) < lowG n d := by have := lowG_pos (n := n) hd; omega
  have h1 : absI (lowN n d) * lowG n d = absI n := by
    have h1 := lowN_mul n d
    have h2 : absI (lowN n d * lowG n d) = absI (lowN n d) * lowG n d := by unfold absI; rw [Int.natAbs_mul, Int.natCast_mul]; simp
    rw [← h2, h1]
  have h2 := lowD_mul n d
  have h3 : s * lowD n d * lowG n d = s * d := by rw [Int.mul_assoc, h2]
  have h4 : absI (lowN n d) * r * lowG n d = absI n * r := by rw [Int.mul_right_comm, h1]
  constructor
  · intro h
    have := Int.mul_le_mul_of_nonneg_right h (Int.le_of_lt hg)
    rw [h4, h3] at this
    exact this
  · intro h
    rw [← h4, ← h3] at h
    exact Int.le_of_mul_le_mul_right h hg
end Go.Proofs.Ytablphoicidlkaa
namespace Go.Proofs.Ytablphoicidlkaa
open Go.RowKit

def strongB (b : Bm) (x : Wd) (l : List Pt) (S : Int) : Bool := decide (strN b l S ≤ x.st * strD b)
def stiffB (b : Bm) (x : Wd) (l : List Pt) (S r : Int) : Bool := decide (absI (gS b l S).2 * r ≤ b.s * sgD b x.lo)
def hldB (b : Bm) (x : Wd) (l : List Pt) (S r : Int) : Bool := strongB b x l S && stiffB b x l S r
def hldE (b : Bm) (x : Wd) (l : List Pt) (S r : Int) : Int := firstE [burE b l S, woodE x, rngE 1 1000 [r]]
theorem hldE_ok {b : Bm} {x : Wd} {l : List Pt} {S r : Int} : hldE b x l S r = 0 ↔ (BmOk b ∧ WtOk b.s l S) ∧ WdOk x ∧ (1 ≤ r ∧ r ≤ 1000) := by
  unfold hldE
  rw [firstE_ok]
  simp only [List.mem_cons, List.not_mem_nil, or_false, forall_eq_or_imp, forall_eq, burE_ok, woodE_ok, rngE_ok]
theorem wt_half {s : Int} {l : List Pt} {S : Int} (hl : WtOk s l S) (hS : 0 ≤ S) (hp : ∀ p ∈ l, 0 ≤ p.n) : WtOk s (l.map hlfP) (hlf S) := by
  have h1 := hlf_nn hS
  have h2 := hl.S1
  refine ⟨by rw [List.length_map]; exact hl.len, fun p hq => ?_, by omega, by omega⟩
  obtain ⟨q, hq1, rfl⟩ := List.mem_map.1 hq
  clear hq
  have hq := hq1
  have h3 := hl.pt q hq
  have h4 := hlf_nn (hp q hq)
  exact ⟨h3.a0, h3.a1, by show -2000 ≤ hlf q.n; omega, by have := h3.n1; show hlf q.n ≤ 2000; omega⟩
theorem gM_half {b : Bm} {l : List Pt} {S : Int} (hb : BmOk b) (hl : WtOk b.s l S) (hS : 0 ≤ S) (hp : ∀ p ∈ l, 0 ≤ p.n) : absI (gM b (l.map hlfP) (hlf S)).2 ≤ absI (gM b l S).2 :=
  grP_mono fun k hk => mom_half (fun p hq => ⟨hl.pt p hq, hp p hq⟩) hS (by omega) (by have := hb.s0; omega)
theorem gS_half {b : Bm} {l : List Pt} {S : Int} (hb : BmOk b) (hl : WtOk b.s l S) (hS : 0 ≤ S) (hp : ∀ p ∈ l, 0 ≤ p.n) : absI (gS b (l.map hlfP) (hlf S)).2 ≤ absI (gS b l S).2 :=
  grP_mono fun k hk => sag_half (fun p hq => ⟨hl.pt p hq, hp p hq⟩) hS (by omega) (by have := hb.s0; omega)
theorem hld_half {b : Bm} {x : Wd} {l : List Pt} {S r : Int} (hb : BmOk b) (hl : WtOk b.s l S) (hr : 0 ≤ r) (hS : 0 ≤ S) (hp : ∀ p ∈ l, 0 ≤ p.n) (h : hldB b x l S r = true) : hldB b x (l.map hlfP) (hlf S) r = true := by
  have h1 := gM_half hb hl hS hp
  have h2 := Int.mul_le_mul_of_nonneg_right (gS_half hb hl hS hp) hr
  unfold hldB strongB stiffB strN at *
  rw [Bool.and_eq_true, decide_eq_true_iff, decide_eq_true_iff] at *
  omega
/-! ### Thicker beams -/
def bT (b : Bm) (t : Int) : Bm := ⟨b.s, b.w, t, b.e⟩
theorem gM_bT (b : Bm) (t : Int) (l : List Pt) (S : Int) : gM (bT b t) l S = gM b l S := rfl
theorem gS_bT (b : Bm) (t : Int) (l : List Pt) (S : Int) : gS (bT b t) l S = gS b l S := rfl
theorem strD_mono {b : Bm} {t t' : Int} (hs : 0 ≤ b.s) (hw : 0 ≤ b.w) (h0 : 0 ≤ t) (h : t ≤ t') : strD (bT b t) ≤ strD (bT b t') := by
  show 2 * b.s * b.w * t * t ≤ 2 * b.s * b.w * t' * t'
  have k : 0 ≤ 2 * b.s * b.w := Int.mul_nonneg (by omega) hw
  have := Int.mul_le_mul_of_nonneg_left (Int.mul_le_mul h h h0 (by omega)) k
  rw [← Int.mul_assoc, ← Int.mul_assoc] at this
  exact this
theorem sgD_mono {b : Bm} {E t t' : Int} (hs : 0 ≤ b.s) (hw : 0 ≤ b.w) (hE : 0 ≤ E) (h0 : 0 ≤ t) (h : t ≤ t') : sgD (bT b t) E ≤ sgD (bT b t') E := by
  show 2 * b.s * E * b.w * t * t * t ≤ 2 * b.s * E * b.w * t' * t' * t'
  have k : 0 ≤ 2 * b.s * E * b.w := Int.mul_nonneg (Int.mul_nonneg (by omega) hE) hw
  have h2 : t * t * t ≤ t' * t' * t' := Int.mul_le_mul (Int.mul_le_mul h h h0 (by omega)) h h0 (Int.mul_nonneg (by omega) (by omega))
  have := Int.mul_le_mul_of_nonneg_left h2 k
  simp only [← Int.mul_assoc] at this ⊢
  exact this
theorem hld_mono {b : Bm} {x : Wd} {l : List Pt} {S r t t' : Int} (hs : 0 ≤ b.s) (hw : 0 ≤ b.w) (hx : WdOk x) (h0 : 0 ≤ t) (h : t ≤ t') (hh : hldB (bT b t) x l S r = true) : hldB (bT b t') x l S r = true := by
  have k1 := Int.mul_le_mul_of_nonneg_left (strD_mono hs hw h0 h) (show 0 ≤ x.st by have := hx.s0; omega)
  have k2 := Int.mul_le_mul_of_nonneg_left (sgD_mono (E := x.lo) hs hw (by have := hx.l0; omega) h0 h) hs
  unfold hldB strongB stiffB strN at *
  rw [Bool.and_eq_true, decide_eq_true_iff, decide_eq_true_iff] at *
  rw [gM_bT, gS_bT] at *
  have e1 : (bT b t).s = b.s := rfl
  have e2 : (bT b t').s = b.s := rfl
  rw [e1] at hh
  rw [e2]
  omega
end Go.Proofs.Ytablphoicidlkaa
namespace Go.Proofs.Ytablphoicidlkaa
open Go.RowKit

theorem mskN (a : Nat) (ha : a < 18446744073709551616) : bits .and .u64 (a : Int) 4294967295 = ((a % 4294967296 : Nat) : Int) := by
  have h := bits_and_u64_nat a 4294967295 ha (by omega)
  have e : a &&& 4294967295 = a % 4294967296 := Nat.and_two_pow_sub_one_eq_mod a 32
  rw [e] at h
  exact h
theorem dvN (a : Nat) : (a : Int) / 4294967296 = ((a / 4294967296 : Nat) : Int) := by omega
theorem mlN (a b : Nat) : (a : Int) * (b : Int) = ((a * b : Nat) : Int) := (Int.natCast_mul a b).symm
theorem adN (a b : Nat) : (a : Int) + (b : Int) = ((a + b : Nat) : Int) := (Int.natCast_add a b).symm
theorem wrN (a : Nat) (ha : a < 18446744073709551616) : IntKind.u64.wrap (a : Int) = (a : Int) := by rw [IntKind.wrap_u64]; omega
theorem wrM (a : Nat) : IntKind.u64.wrap (a : Int) = ((a % 18446744073709551616 : Nat) : Int) := by rw [IntKind.wrap_u64]; omega
set_option maxHeartbeats 1000000 in
theorem mul64_any (x y : Nat) (hx : x < 18446744073709551616) (hy : y < 18446744073709551616) (w : World) :
    Calls Try.prog 163 #[.int .u64 x, .int .u64 y] w fun e w' => e = .returned (.tuple #[.int .u64 ((x * y / 18446744073709551616 : Nat) : Int), .int .u64 ((x * y % 18446744073709551616 : Nat) : Int)]) ∧ w = w' := by
  obtain ⟨bd, bt, bw, hhi⟩ := Lib.mul64_hi x y hx hy
  have ba := Lib.half_mul_le (a := x / 4294967296) (b := y / 4294967296) (by omega) (by omega)
  have bb := Lib.half_mul_le (a := x / 4294967296) (b := y % 4294967296) (by omega) (by omega)
  have bc := Lib.half_mul_le (a := x % 4294967296) (b := y / 4294967296) (by omega) (by omega)
  have ba' : x / 4294967296 * (y / 4294967296) < 18446744073709551616 := by omega
  have bb' : x / 4294967296 * (y % 4294967296) < 18446744073709551616 := by omega
  have bc' : x % 4294967296 * (y / 4294967296) < 18446744073709551616 := by omega
  have bh1 : x / 4294967296 * (y / 4294967296) + (x / 4294967296 * (y % 4294967296) + x % 4294967296 * (y % 4294967296) / 4294967296) / 4294967296 < 18446744073709551616 := by omega
  have bh : x / 4294967296 * (y / 4294967296) + (x / 4294967296 * (y % 4294967296) + x % 4294967296 * (y % 4294967296) / 4294967296) / 4294967296 + ((x / 4294967296 * (y % 4294967296) + x % 4294967296 * (y % 4294967296) / 4294967296) % 4294967296 + x % 4294967296 * (y / 4294967296)) / 4294967296 < 18446744073709551616 := by omega
  go_enter Try.func163, Try.ntmps163
  go_wp2
  simp only [mskN x hx, mskN y hy, dvN, mlN, adN, wrN _ bd, wrN _ bb', wrN _ bt, mskN _ bt, wrN _ bc', wrN _ bw, wrN _ ba', wrN _ bh1, wrN _ bh, wrM (x * y)]
  rw [hhi]
  refine bodyPost_ret (v := .tuple #[.int .u64 ((x * y / 18446744073709551616 : Nat) : Int), .int .u64 ((x * y % 18446744073709551616 : Nat) : Int)]) (by simp [results, Try.results163, go_sem]) rfl ⟨rfl, rfl⟩
set_option maxHeartbeats 1000000 in
theorem productAtMost_any {a b c d : Nat} (ha : a ≤ 9223372036854775807) (hb : b ≤ 9223372036854775807) (hc : c ≤ 9223372036854775807) (hd : d ≤ 9223372036854775807) (w : World) :
    Calls Try.prog 153 #[.int .i64 (a : Int), .int .i64 (b : Int), .int .i64 (c : Int), .int .i64 (d : Int)] w fun e w' => e = .returned (.bool (decide ((a : Int) * b ≤ (c : Int) * d))) ∧ Below w.heap.size w w' := by
  have M1 := fun wx => Lib.hid (mul64_any a b (by omega) (by omega) wx)
  have M2 := fun wx => Lib.hid (mul64_any c d (by omega) (by omega) wx)
  have a1 := wrN a (by omega)
  have b1 := wrN b (by omega)
  have c1 := wrN c (by omega)
  have d1 := wrN d (by omega)
  have HX : Hid (decide ((a : Int) * b ≤ (c : Int) * d) = (decide (((a * b / 18446744073709551616 : Nat) : Int) < ((c * d / 18446744073709551616 : Nat) : Int)) || (decide (((a * b / 18446744073709551616 : Nat) : Int) = ((c * d / 18446744073709551616 : Nat) : Int)) && decide (((a * b % 18446744073709551616 : Nat) : Int) ≤ ((c * d % 18446744073709551616 : Nat) : Int))))) := Lib.hid (by
    rw [← Int.natCast_mul, ← Int.natCast_mul]
    generalize a * b = X
    generalize c * d = Y
    rw [Bool.eq_iff_iff]
    simp only [Bool.or_eq_true, Bool.and_eq_true, decide_eq_true_iff]
    omega)
  rw [HX.out]
  clear HX
  generalize ((a * b / 18446744073709551616 : Nat) : Int) = h1 at *
  generalize ((c * d / 18446744073709551616 : Nat) : Int) = h2 at *
  generalize ((a * b % 18446744073709551616 : Nat) : Int) = l1 at *
  generalize ((c * d % 18446744073709551616 : Nat) : Int) = l2 at *
  go_enter Try.func153, Try.ntmps153
  go_wp2_with (first | (go_at_call 163; (with_reducible refine Calls.mono (M1 _).out ?_); rintro e w9 ⟨rfl, rfl⟩) | (go_at_call 163; (with_reducible refine Calls.mono (M2 _).out ?_); rintro e w9 ⟨rfl, rfl⟩) | fail)
  all_goals
    go_ret
    exact ⟨ret_bool (by simp_all), by first | exact Below.refl _ _ | exact below_drewN (Below.refl _ _) _⟩
theorem productI_any {a b c d : Int} (ha : 0 ≤ a ∧ a ≤ 9223372036854775807) (hb : 0 ≤ b ∧ b ≤ 9223372036854775807) (hc : 0 ≤ c ∧ c ≤ 9223372036854775807) (hd : 0 ≤ d ∧ d ≤ 9223372036854775807) (w : World) :
    Calls Try.prog 153 #[.int .i64 a, .int .i64 b, .int .i64 c, .int .i64 d] w fun e w' => e = .returned (.bool (decide (a * b ≤ c * d))) ∧ Below w.heap.size w w' := by
  obtain ⟨a', rfl⟩ : ∃ n : Nat, a = n := ⟨a.toNat, by omega⟩
  obtain ⟨b', rfl⟩ : ∃ n : Nat, b = n := ⟨b.toNat, by omega⟩
  obtain ⟨c', rfl⟩ : ∃ n : Nat, c = n := ⟨c.toNat, by omega⟩
  obtain ⟨d', rfl⟩ : ∃ n : Nat, d = n := ⟨d.toNat, by omega⟩
  exact productAtMost_any (by omega) (by omega) (by omega) (by omega) w
end Go.Proofs.Ytablphoicidlkaa
namespace Go.Proofs.Ytablphoicidlkaa
open Go.RowKit

set_option maxHeartbeats 4000000 in
set_option maxRecDepth 20000 in
theorem strongC_any {b : Bm} {x : Wd} {A : Option Addr} {n c : Nat} {S : Int} {l : List Pt} (hb : BmOk b) (hl : WtOk b.s l S) (hx : WdOk x) (w : World) (h : PtRow w A n l) :
    Calls Try.prog 116 #[bmV b, wdV x, buV A n c S] w fun e w' => e = .returned (.bool (strongB b x l S)) ∧ Below w.heap.size w w' := by
  have ST := Lib.hid (fun wx (hx : Below w.heap.size w wx) => stress_any (c := c) hb hl wx (h.below hx))
  obtain ⟨d1, d2⟩ := strD_bd hb
  have e1 : strongB b x l S = decide (lowN (strN b l S) (strD b) ≤ x.st * lowD (strN b l S) (strD b)) := by
    unfold strongB
    rw [Bool.eq_iff_iff, decide_eq_true_iff, decide_eq_true_iff, low_le d1]
  rw [e1]
  have e2 := lowD_pos (n := strN b l S) d1
  have e3 := lowD_le (n := strN b l S) d1
  have s0 := hx.s0; have s1 := hx.s1
  clear h hb hl hx e1
  obtain ⟨s, ww, t, en⟩ := b
  obtain ⟨lo, hi, st⟩ := x
  unfold bmV wdV buV frV at *
  simp only at ST s0 s1 ⊢
  generalize lowN (strN ⟨s, ww, t, en⟩ l S) (strD ⟨s, ww, t, en⟩) = nn at *
  generalize lowD (strN ⟨s, ww, t, en⟩ l S) (strD ⟨s, ww, t, en⟩) = de at *
  have E1 : Ev st st 1000 := .of (by omega)
  have E2 : Ev de de 1000000000000 := .of (by omega)
  have q1 : wrap64 (st * de) = st * de := by (apply Ev.e; repeat' (first | with_reducible assumption | with_reducible apply Ev.wrap | with_reducible apply Ev.mul | with_reducible apply Ev.add | with_reducible apply Ev.sub | with_reducible apply Ev.neg | exact Ev.lit _ | (decide +kernel)))
  clear E1 E2 e2 e3 s0 s1 d1 d2
  go_enter Try.func116, Try.ntmps116
  go_upto_region 1 with fail
  obtain ⟨w0, hw0⟩ : ∃ w0, (((w.alloc (.cells #[.int .i64 s, .int .i64 ww, .int .i64 t, .int .i64 en] 23)).alloc (.cells #[.int .i64 lo, .int .i64 hi, .int .i64 st] 79)).alloc (.cells #[.slice A n c, .int .i64 S] 26)) = w0 := ⟨_, rfl⟩
  have HB0 : Hid (Below w.heap.size w w0) := Lib.hid (by rw [← hw0]; exact ((((Below.refl _ _).alloc (Nat.le_refl _) _).alloc (by simp; try omega) _).alloc (by simp; try omega) _))
  have HC := Lib.hid (fun wx (hb : Below w0.heap.size w0 wx) => (show wx.cell? ⟨w.heap.size, 0, none⟩ = some (.int .i64 s) ∧ wx.cell? ⟨w.heap.size, 1, none⟩ = some (.int .i64 ww) ∧ wx.cell? ⟨w.heap.size, 2, none⟩ = some (.int .i64 t) ∧ wx.cell? ⟨w.heap.size, 3, none⟩ = some (.int .i64 en) ∧ wx.cell? ⟨w.heap.size + 1, 0, none⟩ = some (.int .i64 lo) ∧ wx.cell? ⟨w.heap.size + 1, 1, none⟩ = some (.int .i64 hi) ∧ wx.cell? ⟨w.heap.size + 1, 2, none⟩ = some (.int .i64 st) ∧ wx.cell? ⟨w.heap.size + 2, 0, none⟩ = some (.slice A n c) ∧ wx.cell? ⟨w.heap.size + 2, 1, none⟩ = some (.int .i64 S) from by
    subst hw0
    obtain ⟨k, kf⟩ := bcell hb
    exact ⟨(k _ _ (by simp; try omega)).trans (by simp [go_sem]), (k _ _ (by simp; try omega)).trans (by simp [go_sem]), (k _ _ (by simp; try omega)).trans (by simp [go_sem]), (k _ _ (by simp; try omega)).trans (by simp [go_sem]), (k _ _ (by simp; try omega)).trans (by simp [go_sem]), (k _ _ (by simp; try omega)).trans (by simp [go_sem]), (k _ _ (by simp; try omega)).trans (by simp [go_sem]), (k _ _ (by simp; try omega)).trans (by simp [go_sem]), (k _ _ (by simp; try omega)).trans (by simp [go_sem])⟩))
  rw [hw0]
  clear hw0
  have HZ0 := Lib.hid (Below.refl w0.heap.size w0)
  obtain ⟨c0, c1, c2, c3, c4, c5, c6, c7, c8⟩ := HC.out w0 HZ0.out
  go_upto_region 2 with (go_at_call 103; (with_reducible refine Calls.mono (ST.out _ HB0.out) ?_); rintro e w1 ⟨rfl, hb1⟩; have H1 := Lib.hid hb1; clear hb1)
  obtain ⟨w2, hw2⟩ : ∃ w2, w1.alloc (.cells #[.int .i64 nn, .int .i64 de] 30) = w2 := ⟨_, rfl⟩
  have H2 : Hid (Below w0.heap.size w0 w2) := Lib.hid (by rw [← hw2]; exact H1.out.alloc H1.out.size _)
  have u0 : w2.cell? ⟨w1.heap.size, 0, none⟩ = some (.int .i64 nn) := by rw [← hw2]; simp [go_sem]
  have u1 : w2.cell? ⟨w1.heap.size, 1, none⟩ = some (.int .i64 de) := by rw [← hw2]; simp [go_sem]
  rw [hw2]
  clear hw2 c0 c1 c2 c3 c4 c5 c6 c7 c8
  obtain ⟨c0, c1, c2, c3, c4, c5, c6, c7, c8⟩ := HC.out w2 H2.out
  go_wp2
  go_ret
  exact ⟨ret_bool (by first | rfl | (rw [q1]; done) | (show decide (nn ≤ wrap64 (st * de)) = _; rw [q1])), HB0.out.trans (H2.out.mono HB0.out.size)⟩
set_option maxHeartbeats 4000000 in
set_option maxRecDepth 20000 in
theorem stiffC_any {b : Bm} {x : Wd} {A : Option Addr} {n c : Nat} {S r : Int} {l : List Pt} (hb : BmOk b) (hl : WtOk b.s l S) (hx : WdOk x) (r0 : 1 ≤ r) (r1 : r ≤ 1000) (w : World) (h : PtRow w A n l) :
    Calls Try.prog 117 #[bmV b, wdV x, buV A n c S, .int .i64 r] w fun e w' => e = .returned (.bool (stiffB b x l S r)) ∧ Below w.heap.size w w' := by
  have GS := Lib.hid (fun wx (hx : Below w.heap.size w wx) => greatestSag_any (c := c) hb hl wx (h.below hx))
  have SPA := fun wx => Lib.hid (sagParts_any (E := x.lo) hb hx.l0 (by have := hx.l1; have := hx.h1; omega) wx)
  obtain ⟨d1, d2⟩ := sgD_bd (E := x.lo) hb hx.l0 (by have := hx.l1; have := hx.h1; omega)
  have g2 := (gS_bd hb hl).2
  have s0 := hb.s0; have s1 := hb.s1
  unfold stiffB
  obtain ⟨pp, hpp⟩ : ∃ x, (gS b l S).1 = x := ⟨_, rfl⟩
  obtain ⟨mm, hmm⟩ : ∃ x, (gS b l S).2 = x := ⟨_, rfl⟩
  rw [hpp] at GS
  rw [hmm] at GS g2 ⊢
  clear hpp hmm h hb hl hx
  obtain ⟨s, ww, t, en⟩ := b
  obtain ⟨lo, hi, st⟩ := x
  have AB := fun wx => Lib.hid (abs_any (n := mm) (by omega) (by omega) wx)
  have ha : 0 ≤ absI mm ∧ absI mm ≤ 9223372036854775807 := by unfold absI; omega
  simp only at s0 s1
  unfold bmV wdV buV at *
  simp only at GS SPA d1 d2 ⊢
  generalize absI mm = am at *
  generalize sgD ⟨s, ww, t, en⟩ lo = dd at *
  have PM := fun wx => Lib.hid (productI_any (a := am) (b := r) (c := s) (d := dd) ha ⟨by omega, by omega⟩ ⟨by omega, by omega⟩ ⟨by omega, by omega⟩ wx)
  generalize decide (am * r ≤ s * dd) = vv at *
  clear d1 d2 g2 s0 s1 ha r0 r1
  go_enter Try.func117, Try.ntmps117
  go_upto_region 1 with fail
  obtain ⟨w0, hw0⟩ : ∃ w0, (((w.alloc (.cells #[.int .i64 s, .int .i64 ww, .int .i64 t, .int .i64 en] 23)).alloc (.cells #[.int .i64 lo, .int .i64 hi, .int .i64 st] 79)).alloc (.cells #[.slice A n c, .int .i64 S] 26)) = w0 := ⟨_, rfl⟩
  have HB0 : Hid (Below w.heap.size w w0) := Lib.hid (by rw [← hw0]; exact ((((Below.refl _ _).alloc (Nat.le_refl _) _).alloc (by simp; try omega) _).alloc (by simp; try omega) _))
  have HC := Lib.hid (fun wx (hb : Below w0.heap.size w0 wx) => (show wx.cell? ⟨w.heap.size, 0, none⟩ = some (.int .i64 s) ∧ wx.cell? ⟨w.heap.size, 1, none⟩ = some (.int .i64 ww) ∧ wx.cell? ⟨w.heap.size, 2, none⟩ = some (.int .i64 t) ∧ wx.cell? ⟨w.heap.size, 3, none⟩ = some (.int .i64 en) ∧ wx.cell? ⟨w.heap.size + 1, 0, none⟩ = some (.int .i64 lo) ∧ wx.cell? ⟨w.heap.size + 1, 1, none⟩ = some (.int .i64 hi) ∧ wx.cell? ⟨w.heap.size + 1, 2, none⟩ = some (.int .i64 st) ∧ wx.cell? ⟨w.heap.size + 2, 0, none⟩ = some (.slice A n c) ∧ wx.cell? ⟨w.heap.size + 2, 1, none⟩ = some (.int .i64 S) from by
    subst hw0
    obtain ⟨k, kf⟩ := bcell hb
    exact ⟨(k _ _ (by simp; try omega)).trans (by simp [go_sem]), (k _ _ (by simp; try omega)).trans (by simp [go_sem]), (k _ _ (by simp; try omega)).trans (by simp [go_sem]), (k _ _ (by simp; try omega)).trans (by simp [go_sem]), (k _ _ (by simp; try omega)).trans (by simp [go_sem]), (k _ _ (by simp; try omega)).trans (by simp [go_sem]), (k _ _ (by simp; try omega)).trans (by simp [go_sem]), (k _ _ (by simp; try omega)).trans (by simp [go_sem]), (k _ _ (by simp; try omega)).trans (by simp [go_sem])⟩))
  rw [hw0]
  clear hw0
  have HZ0 := Lib.hid (Below.refl w0.heap.size w0)
  obtain ⟨c0, c1, c2, c3, c4, c5, c6, c7, c8⟩ := HC.out w0 HZ0.out
  go_upto_region 2 with (go_at_call 106; (with_reducible refine Calls.mono (GS.out _ HB0.out) ?_); rintro e w1 ⟨rfl, hb1⟩; have H1 := Lib.hid hb1; clear hb1)
  have HC1 := Lib.hid (fun wx (hb : Below w1.heap.size w1 wx) => HC.out wx (H1.out.trans (hb.mono H1.out.size)))
  clear c0 c1 c2 c3 c4 c5 c6 c7 c8
  refine wp_region_rk [17, 18, 19, 20, 21, 22, 23, 24, 25, 26, 8] [rEq (.int .i64 mm), rEq (.int .i64 am), rEq (.int .i64 r), rEq (.pointer (some ⟨w.heap.size, 0, none⟩)), rEq (.int .i64 s), rEq (.agg #[.int .i64 s, .int .i64 ww, .int .i64 t, .int .i64 en]), rEq (.pointer (some ⟨w.heap.size + 1, 0, none⟩)), rEq (.int .i64 lo), rEq (.int .i64 dd), rEq (.bool vv), rEq (.bool vv)] (by kernel_rfl) (by kernel_rfl) (by decide) rfl ⟨?_, ?_, ?_, ?_, ?_, ?_, ?_, ?_, ?_, ?_, ?_, trivial⟩ ?_
  · intro ac wx hf hb hd -- 0
    have f10 : ac.tmps[10]?.getD undef = .int .i64 mm := by rw [← Array.getD_eq_getD_getElem?]; exact hf.same 10 (by decide)
    exact rstep_eq (by simp [execOp, Act.eval, f10, go_sem]) rfl
  · intro ac wx hf hb hd -- 1
    have d0 : ac.tmps[17]?.getD undef = .int .i64 mm := by rw [← Array.getD_eq_getD_getElem?]; exact hd 0 (by decide)
    refine rstep_call (f := 144) (args := #[.int .i64 mm]) (by simp [Act.eval, d0, go_sem]) ?_ rfl
    exact (AB wx).out.mono fun e w' ⟨he, hw⟩ => ⟨he, hw ▸ Below.refl _ _⟩
  · intro ac wx hf hb hd -- 2
    have f3 : ac.tmps[3]?.getD undef = .int .i64 r := by rw [← Array.getD_eq_getD_getElem?]; exact hf.same 3 (by decide)
    exact rstep_eq (by simp [execOp, Act.eval, f3, go_sem]) rfl
  · intro ac wx hf hb hd -- 3
    have f4 : ac.tmps[4]?.getD undef = .pointer (some ⟨w.heap.size, 0, none⟩) := by rw [← Array.getD_eq_getD_getElem?]; exact hf.same 4 (by decide)
    exact rstep_eq (by simp [execOp, Act.eval, f4, go_sem]) rfl
  · intro ac wx hf hb hd -- 4
    have d3 : ac.tmps[20]?.getD undef = .pointer (some ⟨w.heap.size, 0, none⟩) := by rw [← Array.getD_eq_getD_getElem?]; exact hd 3 (by decide)
    obtain ⟨c0, c1, c2, c3, c4, c5, c6, c7, c8⟩ := HC1.out wx hb
    exact rstep_eq (by simp [execOp, Act.eval, d3, c0, go_sem]) rfl
  · intro ac wx hf hb hd -- 5
    have f4 : ac.tmps[4]?.getD undef = .pointer (some ⟨w.heap.size, 0, none⟩) := by rw [← Array.getD_eq_getD_getElem?]; exact hf.same 4 (by decide)
    obtain ⟨c0, c1, c2, c3, c4, c5, c6, c7, c8⟩ := HC1.out wx hb
    exact rstep_eq (by simp [execOp, Act.eval, f4, c0, c1, c2, c3, go_sem]) rfl
  · intro ac wx hf hb hd -- 6
    have f5 : ac.tmps[5]?.getD undef = .pointer (some ⟨w.heap.size + 1, 0, none⟩) := by rw [← Array.getD_eq_getD_getElem?]; exact hf.same 5 (by decide)
    exact rstep_eq (by simp [execOp, Act.eval, f5, go_sem]) rfl
  · intro ac wx hf hb hd -- 7
    have d6 : ac.tmps[23]?.getD undef = .pointer (some ⟨w.heap.size + 1, 0, none⟩) := by rw [← Array.getD_eq_getD_getElem?]; exact hd 6 (by decide)
    obtain ⟨c0, c1, c2, c3, c4, c5, c6, c7, c8⟩ := HC1.out wx hb
    exact rstep_eq (by simp [execOp, Act.eval, d6, c4, go_sem]) rfl
  · intro ac wx hf hb hd -- 8
    have d5 : ac.tmps[22]?.getD undef = .agg #[.int .i64 s, .int .i64 ww, .int .i64 t, .int .i64 en] := by rw [← Array.getD_eq_getD_getElem?]; exact hd 5 (by decide)
    have d7 : ac.tmps[24]?.getD undef = .int .i64 lo := by rw [← Array.getD_eq_getD_getElem?]; exact hd 7 (by decide)
    refine rstep_call (f := 107) (args := #[.agg #[.int .i64 s, .int .i64 ww, .int .i64 t, .int .i64 en], .int .i64 lo]) (by simp [Act.eval, d5, d7, go_sem]) ?_ rfl
    exact (SPA wx).out
  · intro ac wx hf hb hd -- 9
    have d1 : ac.tmps[18]?.getD undef = .int .i64 am := by rw [← Array.getD_eq_getD_getElem?]; exact hd 1 (by decide)
    have d2 : ac.tmps[19]?.getD undef = .int .i64 r := by rw [← Array.getD_eq_getD_getElem?]; exact hd 2 (by decide)
    have d4 : ac.tmps[21]?.getD undef = .int .i64 s := by rw [← Array.getD_eq_getD_getElem?]; exact hd 4 (by decide)
    have d8 : ac.tmps[25]?.getD undef = .int .i64 dd := by rw [← Array.getD_eq_getD_getElem?]; exact hd 8 (by decide)
    refine rstep_call (f := 153) (args := #[.int .i64 am, .int .i64 r, .int .i64 s, .int .i64 dd]) (by simp [Act.eval, d1, d2, d4, d8, go_sem]) ?_ rfl
    exact (PM wx).out
  · intro ac wx hf hb hd -- 10
    have d9 : ac.tmps[26]?.getD undef = .bool vv := by rw [← Array.getD_eq_getD_getElem?]; exact hd 9 (by decide)
    exact rstep_eq (by simp [execOp, Act.eval, d9, go_sem]) rfl
  rintro ⟨⟨ll⟩, df⟩ wx hf hb hall
  have hdf : df = [] := hf.defers
  subst hdf
  have hsz : ll.length = 27 := hf.size
  obtain ⟨x0, ll0, rfl, hsz0⟩ := cons_of hsz
  obtain ⟨x1, ll1, rfl, hsz1⟩ := cons_of hsz0
  obtain ⟨x2, ll2, rfl, hsz2⟩ := cons_of hsz1
  obtain ⟨x3, ll3, rfl, hsz3⟩ := cons_of hsz2
  obtain ⟨x4, ll4, rfl, hsz4⟩ := cons_of hsz3
  obtain ⟨x5, ll5, rfl, hsz5⟩ := cons_of hsz4
  obtain ⟨x6, ll6, rfl, hsz6⟩ := cons_of hsz5
  obtain ⟨x7, ll7, rfl, hsz7⟩ := cons_of hsz6
  obtain ⟨x8, ll8, rfl, hsz8⟩ := cons_of hsz7
  obtain ⟨x9, ll9, rfl, hsz9⟩ := cons_of hsz8
  obtain ⟨x10, ll10, rfl, hsz10⟩ := cons_of hsz9
  obtain ⟨x11, ll11, rfl, hsz11⟩ := cons_of hsz10
  obtain ⟨x12, ll12, rfl, hsz12⟩ := cons_of hsz11
  obtain ⟨x13, ll13, rfl, hsz13⟩ := cons_of hsz12
  obtain ⟨x14, ll14, rfl, hsz14⟩ := cons_of hsz13
  obtain ⟨x15, ll15, rfl, hsz15⟩ := cons_of hsz14
  obtain ⟨x16, ll16, rfl, hsz16⟩ := cons_of hsz15
  obtain ⟨x17, ll17, rfl, hsz17⟩ := cons_of hsz16
  obtain ⟨x18, ll18, rfl, hsz18⟩ := cons_of hsz17
  obtain ⟨x19, ll19, rfl, hsz19⟩ := cons_of hsz18
  obtain ⟨x20, ll20, rfl, hsz20⟩ := cons_of hsz19
  obtain ⟨x21, ll21, rfl, hsz21⟩ := cons_of hsz20
  obtain ⟨x22, ll22, rfl, hsz22⟩ := cons_of hsz21
  obtain ⟨x23, ll23, rfl, hsz23⟩ := cons_of hsz22
  obtain ⟨x24, ll24, rfl, hsz24⟩ := cons_of hsz23
  obtain ⟨x25, ll25, rfl, hsz25⟩ := cons_of hsz24
  obtain ⟨x26, ll26, rfl, hsz26⟩ := cons_of hsz25
  obtain rfl := List.eq_nil_of_length_eq_zero hsz26
  obtain rfl : x3 = .int .i64 r := hf.same 3 (by decide)
  obtain rfl : x4 = .pointer (some ⟨w.heap.size, 0, none⟩) := hf.same 4 (by decide)
  obtain rfl : x5 = .pointer (some ⟨w.heap.size + 1, 0, none⟩) := hf.same 5 (by decide)
  obtain rfl : x6 = .pointer (some ⟨w.heap.size + 2, 0, none⟩) := hf.same 6 (by decide)
  obtain rfl : x8 = .bool vv := hall 10 8 rfl
  obtain rfl : x9 = .int .i64 (pp : Int) := hf.same 9 (by decide)
  obtain rfl : x10 = .int .i64 mm := hf.same 10 (by decide)
  obtain rfl : x17 = .int .i64 mm := hall 0 17 rfl
  obtain rfl : x18 = .int .i64 am := hall 1 18 rfl
  obtain rfl : x19 = .int .i64 r := hall 2 19 rfl
  obtain rfl : x20 = .pointer (some ⟨w.heap.size, 0, none⟩) := hall 3 20 rfl
  obtain rfl : x21 = .int .i64 s := hall 4 21 rfl
  obtain rfl : x22 = .agg #[.int .i64 s, .int .i64 ww, .int .i64 t, .int .i64 en] := hall 5 22 rfl
  obtain rfl : x23 = .pointer (some ⟨w.heap.size + 1, 0, none⟩) := hall 6 23 rfl
  obtain rfl : x24 = .int .i64 lo := hall 7 24 rfl
  obtain rfl : x25 = .int .i64 dd := hall 8 25 rfl
  obtain rfl : x26 = .bool vv := hall 9 26 rfl
  clear hall hf
  go_wp2
  go_ret
  exact ⟨rfl, HB0.out.trans ((H1.out.trans (hb.mono H1.out.size)).mono HB0.out.size)⟩
set_option maxHeartbeats 4000000 in
set_option maxRecDepth 20000 in
theorem checkHold_any {b : Bm} {x : Wd} {A : Option Addr} {n c : Nat} {S r : Int} {l : List Pt} (w : World) (h : PtRow w A n l) (hn : n ≤ maxLen) :
    Calls Try.prog 115 #[bmV b, wdV x, buV A n c S, .int .i64 r] w fun e w' => e = .returned (.int .i64 (hldE b x l S r)) ∧ Below w.heap.size w w' := by
  have CB := Lib.hid (fun wx (hx : Below w.heap.size w wx) => checkBurden_any (b := b) (c := c) (S := S) wx (h.below hx) hn)
  have CW := fun wx => Lib.hid (checkWood_any x wx)
  have C1 := fun wx b (h : IntRow wx (some ⟨b, 0, none⟩) 1 [r]) => Lib.hid (checkRange_any (c := 1) (lo := 1) (hi := 1000) wx h (by decide))
  have HE : Hid (hldE b x l S r = firstE [burE b l S, woodE x, rngE 1 1000 [r]]) := Lib.hid rfl
  clear h hn
  obtain ⟨s, ww, t, en⟩ := b
  obtain ⟨lo, hi, st⟩ := x
  unfold bmV wdV buV at *
  simp only at CB CW HE ⊢
  generalize hldE ⟨s, ww, t, en⟩ ⟨lo, hi, st⟩ l S r = ee at *
  generalize burE ⟨s, ww, t, en⟩ l S = e1 at *
  generalize woodE ⟨lo, hi, st⟩ = e2 at *
  generalize rngE 1 1000 [r] = e3 at *
  have C3 := fun wx b (h : IntRow wx (some ⟨b, 0, none⟩) 3 [e1, e2, e3]) => Lib.hid (firstError_any (c := 3) wx h (by decide))
  rw [← HE.out] at C3
  clear HE
  go_enter Try.func115, Try.ntmps115
  go_upto_region 1 with fail
  obtain ⟨w0, hw0⟩ : ∃ w0, (((w.alloc (.cells #[.int .i64 s, .int .i64 ww, .int .i64 t, .int .i64 en] 23)).alloc (.cells #[.int .i64 lo, .int .i64 hi, .int .i64 st] 79)).alloc (.cells #[.slice A n c, .int .i64 S] 26)) = w0 := ⟨_, rfl⟩
  have HB0 : Hid (Below w.heap.size w w0) := Lib.hid (by rw [← hw0]; exact ((((Below.refl _ _).alloc (Nat.le_refl _) _).alloc (by simp; try omega) _).alloc (by simp; try omega) _))
  have HC := Lib.hid (fun wx (hb : Below w0.heap.size w0 wx) => (show wx.cell? ⟨w.heap.size, 0, none⟩ = some (.int .i64 s) ∧ wx.cell? ⟨w.heap.size, 1, none⟩ = some (.int .i64 ww) ∧ wx.cell? ⟨w.heap.size, 2, none⟩ = some (.int .i64 t) ∧ wx.cell? ⟨w.heap.size, 3, none⟩ = some (.int .i64 en) ∧ wx.cell? ⟨w.heap.size + 1, 0, none⟩ = some (.int .i64 lo) ∧ wx.cell? ⟨w.heap.size + 1, 1, none⟩ = some (.int .i64 hi) ∧ wx.cell? ⟨w.heap.size + 1, 2, none⟩ = some (.int .i64 st) ∧ wx.cell? ⟨w.heap.size + 2, 0, none⟩ = some (.slice A n c) ∧ wx.cell? ⟨w.heap.size + 2, 1, none⟩ = some (.int .i64 S) from by
    subst hw0
    obtain ⟨k, kf⟩ := bcell hb
    exact ⟨(k _ _ (by simp; try omega)).trans (by simp [go_sem]), (k _ _ (by simp; try omega)).trans (by simp [go_sem]), (k _ _ (by simp; try omega)).trans (by simp [go_sem]), (k _ _ (by simp; try omega)).trans (by simp [go_sem]), (k _ _ (by simp; try omega)).trans (by simp [go_sem]), (k _ _ (by simp; try omega)).trans (by simp [go_sem]), (k _ _ (by simp; try omega)).trans (by simp [go_sem]), (k _ _ (by simp; try omega)).trans (by simp [go_sem]), (k _ _ (by simp; try omega)).trans (by simp [go_sem])⟩))
  rw [hw0]
  clear hw0
  refine wp_region_rk [9, 10, 11, 12, 13, 14, 15, 16, 17, 18, 8] [rEq (.agg #[.int .i64 s, .int .i64 ww, .int .i64 t, .int .i64 en]), rEq (.agg #[.slice A n c, .int .i64 S]), rEq (.int .i64 e1), rEq (.agg #[.int .i64 lo, .int .i64 hi, .int .i64 st]), rEq (.int .i64 e2), rEq (.int .i64 r), rRow [r] 1, rEq (.int .i64 e3), rRow [e1, e2, e3] 3, rEq (.int .i64 ee), rEq (.int .i64 ee)] (by kernel_rfl) (by kernel_rfl) (by decide) rfl ⟨?_, ?_, ?_, ?_, ?_, ?_, ?_, ?_, ?_, ?_, ?_, trivial⟩ ?_
  · intro ac wx hf hb hd -- 0
    have f4 : ac.tmps[4]?.getD undef = .pointer (some ⟨w.heap.size, 0, none⟩) := by rw [← Array.getD_eq_getD_getElem?]; exact hf.same 4 (by decide)
    obtain ⟨c0, c1, c2, c3, c4, c5, c6, c7, c8⟩ := HC.out wx hb
    exact rstep_eq (by simp [execOp, Act.eval, f4, c0, c1, c2, c3, go_sem]) rfl
  · intro ac wx hf hb hd -- 1
    have f6 : ac.tmps[6]?.getD undef = .pointer (some ⟨w.heap.size + 2, 0, none⟩) := by rw [← Array.getD_eq_getD_getElem?]; exact hf.same 6 (by decide)
    obtain ⟨c0, c1, c2, c3, c4, c5, c6, c7, c8⟩ := HC.out wx hb
    exact rstep_eq (by simp [execOp, Act.eval, f6, c7, c8, go_sem]) rfl
  · intro ac wx hf hb hd -- 2
    have d0 : ac.tmps[9]?.getD undef = .agg #[.int .i64 s, .int .i64 ww, .int .i64 t, .int .i64 en] := by rw [← Array.getD_eq_getD_getElem?]; exact hd 0 (by decide)
    have d1 : ac.tmps[10]?.getD undef = .agg #[.slice A n c, .int .i64 S] := by rw [← Array.getD_eq_getD_getElem?]; exact hd 1 (by decide)
    refine rstep_call (f := 26) (args := #[.agg #[.int .i64 s, .int .i64 ww, .int .i64 t, .int .i64 en], .agg #[.slice A n c, .int .i64 S]]) (by simp [Act.eval, d0, d1, go_sem]) ?_ rfl
    exact CB.out wx (HB0.out.trans (hb.mono HB0.out.size))
  · intro ac wx hf hb hd -- 3
    have f5 : ac.tmps[5]?.getD undef = .pointer (some ⟨w.heap.size + 1, 0, none⟩) := by rw [← Array.getD_eq_getD_getElem?]; exact hf.same 5 (by decide)
    obtain ⟨c0, c1, c2, c3, c4, c5, c6, c7, c8⟩ := HC.out wx hb
    exact rstep_eq (by simp [execOp, Act.eval, f5, c4, c5, c6, go_sem]) rfl
  · intro ac wx hf hb hd -- 4
    have d3 : ac.tmps[12]?.getD undef = .agg #[.int .i64 lo, .int .i64 hi, .int .i64 st] := by rw [← Array.getD_eq_getD_getElem?]; exact hd 3 (by decide)
    refine rstep_call (f := 52) (args := #[.agg #[.int .i64 lo, .int .i64 hi, .int .i64 st]]) (by simp [Act.eval, d3, go_sem]) ?_ rfl
    exact (CW wx).out
  · intro ac wx hf hb hd -- 5
    have f3 : ac.tmps[3]?.getD undef = .int .i64 r := by rw [← Array.getD_eq_getD_getElem?]; exact hf.same 3 (by decide)
    exact rstep_eq (by simp [execOp, Act.eval, f3, go_sem]) rfl
  · intro ac wx hf hb hd -- 6
    have d5 : ac.tmps[14]?.getD undef = .int .i64 r := by rw [← Array.getD_eq_getD_getElem?]; exact hd 5 (by decide)
    exact rstep_row (t := 3) (zs := [r]) rfl rfl (by simp [execOp, Act.eval, d5, go_sem]) rfl
  · intro ac wx hf hb hd -- 7
    obtain ⟨b6, d6, r6⟩ : ∃ b, ac.tmps[15]?.getD undef = .slice (some ⟨b, 0, none⟩) 1 1 ∧ IntRow wx (some ⟨b, 0, none⟩) 1 [r] := by rw [← Array.getD_eq_getD_getElem?]; exact hd 6 (by decide)
    refine rstep_call (f := 96) (args := #[.int .i64 1, .int .i64 1000, .slice (some ⟨b6, 0, none⟩) 1 1]) (by simp [Act.eval, d6, go_sem]) ?_ rfl
    exact (C1 wx b6 r6).out.mono fun e w' ⟨he, hw⟩ => ⟨he, hw ▸ Below.refl _ _⟩
  · intro ac wx hf hb hd -- 8
    have d2 : ac.tmps[11]?.getD undef = .int .i64 e1 := by rw [← Array.getD_eq_getD_getElem?]; exact hd 2 (by decide)
    have d4 : ac.tmps[13]?.getD undef = .int .i64 e2 := by rw [← Array.getD_eq_getD_getElem?]; exact hd 4 (by decide)
    have d7 : ac.tmps[16]?.getD undef = .int .i64 e3 := by rw [← Array.getD_eq_getD_getElem?]; exact hd 7 (by decide)
    exact rstep_row (t := 31) (zs := [e1, e2, e3]) rfl rfl (by simp [execOp, Act.eval, d2, d4, d7, go_sem]) rfl
  · intro ac wx hf hb hd -- 9
    obtain ⟨b8, d8, r8⟩ : ∃ b, ac.tmps[17]?.getD undef = .slice (some ⟨b, 0, none⟩) 3 3 ∧ IntRow wx (some ⟨b, 0, none⟩) 3 [e1, e2, e3] := by rw [← Array.getD_eq_getD_getElem?]; exact hd 8 (by decide)
    refine rstep_call (f := 95) (args := #[.slice (some ⟨b8, 0, none⟩) 3 3]) (by simp [Act.eval, d8, go_sem]) ?_ rfl
    exact (C3 wx b8 r8).out.mono fun e w' ⟨he, hw⟩ => ⟨he, hw ▸ Below.refl _ _⟩
  · intro ac wx hf hb hd -- 10
    have d9 : ac.tmps[18]?.getD undef = .int .i64 ee := by rw [← Array.getD_eq_getD_getElem?]; exact hd 9 (by decide)
    exact rstep_eq (by simp [execOp, Act.eval, d9, go_sem]) rfl
  rintro ⟨⟨ll⟩, df⟩ wx hf hb hall
  have hdf : df = [] := hf.defers
  subst hdf
  have hsz : ll.length = 19 := hf.size
  obtain ⟨x0, ll0, rfl, hsz0⟩ := cons_of hsz
  obtain ⟨x1, ll1, rfl, hsz1⟩ := cons_of hsz0
  obtain ⟨x2, ll2, rfl, hsz2⟩ := cons_of hsz1
  obtain ⟨x3, ll3, rfl, hsz3⟩ := cons_of hsz2
  obtain ⟨x4, ll4, rfl, hsz4⟩ := cons_of hsz3
  obtain ⟨x5, ll5, rfl, hsz5⟩ := cons_of hsz4
  obtain ⟨x6, ll6, rfl, hsz6⟩ := cons_of hsz5
  obtain ⟨x7, ll7, rfl, hsz7⟩ := cons_of hsz6
  obtain ⟨x8, ll8, rfl, hsz8⟩ := cons_of hsz7
  obtain ⟨x9, ll9, rfl, hsz9⟩ := cons_of hsz8
  obtain ⟨x10, ll10, rfl, hsz10⟩ := cons_of hsz9
  obtain ⟨x11, ll11, rfl, hsz11⟩ := cons_of hsz10
  obtain ⟨x12, ll12, rfl, hsz12⟩ := cons_of hsz11
  obtain ⟨x13, ll13, rfl, hsz13⟩ := cons_of hsz12
  obtain ⟨x14, ll14, rfl, hsz14⟩ := cons_of hsz13
  obtain ⟨x15, ll15, rfl, hsz15⟩ := cons_of hsz14
  obtain ⟨x16, ll16, rfl, hsz16⟩ := cons_of hsz15
  obtain ⟨x17, ll17, rfl, hsz17⟩ := cons_of hsz16
  obtain ⟨x18, ll18, rfl, hsz18⟩ := cons_of hsz17
  obtain rfl := List.eq_nil_of_length_eq_zero hsz18
  obtain rfl : x3 = .int .i64 r := hf.same 3 (by decide)
  obtain rfl : x4 = .pointer (some ⟨w.heap.size, 0, none⟩) := hf.same 4 (by decide)
  obtain rfl : x5 = .pointer (some ⟨w.heap.size + 1, 0, none⟩) := hf.same 5 (by decide)
  obtain rfl : x6 = .pointer (some ⟨w.heap.size + 2, 0, none⟩) := hf.same 6 (by decide)
  obtain rfl : x8 = .int .i64 ee := hall 10 8 rfl
  obtain rfl : x9 = .agg #[.int .i64 s, .int .i64 ww, .int .i64 t, .int .i64 en] := hall 0 9 rfl
  obtain rfl : x10 = .agg #[.slice A n c, .int .i64 S] := hall 1 10 rfl
  obtain rfl : x11 = .int .i64 e1 := hall 2 11 rfl
  obtain rfl : x12 = .agg #[.int .i64 lo, .int .i64 hi, .int .i64 st] := hall 3 12 rfl
  obtain rfl : x13 = .int .i64 e2 := hall 4 13 rfl
  obtain rfl : x14 = .int .i64 r := hall 5 14 rfl
  obtain rfl : x16 = .int .i64 e3 := hall 7 16 rfl
  obtain rfl : x18 = .int .i64 ee := hall 9 18 rfl
  clear hall hf
  go_wp2
  go_ret
  exact ⟨rfl, HB0.out.trans (hb.mono HB0.out.size)⟩
def hldA (b : Bm) (x : Wd) (l : List Pt) (S r : Int) : Int := bif hldE b x l S r == 0 then (bif hldB b x l S r then 0 else 20) else hldE b x l S r
theorem hldA_bad {b : Bm} {x : Wd} {l : List Pt} {S r : Int} (h : hldE b x l S r ≠ 0) : hldA b x l S r = hldE b x l S r := by
  unfold hldA
  rw [show (hldE b x l S r == 0) = false by simpa using h]
  rfl
theorem hldA_ok {b : Bm} {x : Wd} {l : List Pt} {S r : Int} (h : hldE b x l S r = 0) : hldA b x l S r = bif hldB b x l S r then 0 else 20 := by
  unfold hldA
  rw [h]
  rfl
set_option maxHeartbeats 4000000 in
set_option maxRecDepth 20000 in
theorem holds_any {b : Bm} {x : Wd} {A : Option Addr} {n c : Nat} {S r : Int} {l : List Pt} (w : World) (h : PtRow w A n l) (hn : n ≤ maxLen) :
    Calls Try.prog 55 #[bmV b, wdV x, buV A n c S, .int .i64 r] w fun e w' => e = .returned (.int .i64 (hldA b x l S r)) ∧ Below w.heap.size w w' := by
  have CH := Lib.hid (fun wx (hx : Below w.heap.size w wx) => checkHold_any (b := b) (x := x) (c := c) (S := S) (r := r) wx (h.below hx) hn)
  have IS := Lib.hid (fun (he : hldE b x l S r = 0) wx (hx : Below w.heap.size w wx) => let k := hldE_ok.1 he; strongC_any (c := c) k.1.1 k.1.2 k.2.1 wx (h.below hx))
  have IT := Lib.hid (fun (he : hldE b x l S r = 0) wx (hx : Below w.heap.size w wx) => let k := hldE_ok.1 he; stiffC_any (c := c) k.1.1 k.1.2 k.2.1 k.2.2.1 k.2.2.2 wx (h.below hx))
  have HA1 := Lib.hid (hldA_bad (b := b) (x := x) (l := l) (S := S) (r := r))
  have HA2 := Lib.hid (hldA_ok (b := b) (x := x) (l := l) (S := S) (r := r))
  unfold hldB at HA2
  clear h hn
  obtain ⟨s, ww, t, en⟩ := b
  obtain ⟨lo, hi, st⟩ := x
  unfold bmV wdV buV at *
  simp only at CH IS IT ⊢
  generalize hldA ⟨s, ww, t, en⟩ ⟨lo, hi, st⟩ l S r = aa at *
  generalize hldE ⟨s, ww, t, en⟩ ⟨lo, hi, st⟩ l S r = ee at *
  generalize strongB ⟨s, ww, t, en⟩ ⟨lo, hi, st⟩ l S = sb at *
  generalize stiffB ⟨s, ww, t, en⟩ ⟨lo, hi, st⟩ l S r = tb at *
  go_enter Try.func55, Try.ntmps55
  go_upto_region 1 with fail
  obtain ⟨w0, hw0⟩ : ∃ w0, (((w.alloc (.cells #[.int .i64 s, .int .i64 ww, .int .i64 t, .int .i64 en] 23)).alloc (.cells #[.int .i64 lo, .int .i64 hi, .int .i64 st] 79)).alloc (.cells #[.slice A n c, .int .i64 S] 26)) = w0 := ⟨_, rfl⟩
  have HB0 : Hid (Below w.heap.size w w0) := Lib.hid (by rw [← hw0]; exact ((((Below.refl _ _).alloc (Nat.le_refl _) _).alloc (by simp; try omega) _).alloc (by simp; try omega) _))
  have HC := Lib.hid (fun wx (hb : Below w0.heap.size w0 wx) => (show wx.cell? ⟨w.heap.size, 0, none⟩ = some (.int .i64 s) ∧ wx.cell? ⟨w.heap.size, 1, none⟩ = some (.int .i64 ww) ∧ wx.cell? ⟨w.heap.size, 2, none⟩ = some (.int .i64 t) ∧ wx.cell? ⟨w.heap.size, 3, none⟩ = some (.int .i64 en) ∧ wx.cell? ⟨w.heap.size + 1, 0, none⟩ = some (.int .i64 lo) ∧ wx.cell? ⟨w.heap.size + 1, 1, none⟩ = some (.int .i64 hi) ∧ wx.cell? ⟨w.heap.size + 1, 2, none⟩ = some (.int .i64 st) ∧ wx.cell? ⟨w.heap.size + 2, 0, none⟩ = some (.slice A n c) ∧ wx.cell? ⟨w.heap.size + 2, 1, none⟩ = some (.int .i64 S) from by
    subst hw0
    obtain ⟨k, kf⟩ := bcell hb
    exact ⟨(k _ _ (by simp; try omega)).trans (by simp [go_sem]), (k _ _ (by simp; try omega)).trans (by simp [go_sem]), (k _ _ (by simp; try omega)).trans (by simp [go_sem]), (k _ _ (by simp; try omega)).trans (by simp [go_sem]), (k _ _ (by simp; try omega)).trans (by simp [go_sem]), (k _ _ (by simp; try omega)).trans (by simp [go_sem]), (k _ _ (by simp; try omega)).trans (by simp [go_sem]), (k _ _ (by simp; try omega)).trans (by simp [go_sem]), (k _ _ (by simp; try omega)).trans (by simp [go_sem])⟩))
  rw [hw0]
  clear hw0
  have HZ0 := Lib.hid (Below.refl w0.heap.size w0)
  obtain ⟨c0, c1, c2, c3, c4, c5, c6, c7, c8⟩ := HC.out w0 HZ0.out
  go_upto_region 2 with (go_at_call 115; (with_reducible refine Calls.mono (CH.out _ HB0.out) ?_); rintro e w1 ⟨rfl, hb1⟩; have H1 := Lib.hid hb1; clear hb1)
  have HW1 := Lib.hid (HB0.out.trans (H1.out.mono HB0.out.size))
  clear c0 c1 c2 c3 c4 c5 c6 c7 c8
  obtain ⟨c0, c1, c2, c3, c4, c5, c6, c7, c8⟩ := HC.out w1 H1.out
  by_cases he : ee = 0
  · subst he
    have IS2 := Lib.hid (IS.out rfl)
    have IT2 := Lib.hid (IT.out rfl)
    have hA := HA2.out rfl
    subst hA
    clear IS IT HA1 HA2 CH
    cases sb <;> cases tb
    all_goals
      go_wp2_with (first | (go_at_call 116; (with_reducible refine Calls.mono (IS2.out _ HW1.out) ?_); rintro e w2 ⟨rfl, hb2⟩; have H2 := Lib.hid (H1.out.trans (hb2.mono H1.out.size)); have HW2 := Lib.hid (HW1.out.trans (hb2.mono HW1.out.size)); clear hb2; obtain ⟨d0, d1, d2, d3, d4, d5, d6, d7, d8⟩ := HC.out w2 H2.out) | (go_at_call 117; (with_reducible refine Calls.mono (IT2.out _ HW2.out) ?_); rintro e w3 ⟨rfl, hb3⟩; have HW3 := Lib.hid (HW2.out.trans (hb3.mono HW2.out.size)); clear hb3) | fail)
      go_ret
      exact ⟨rfl, by first | exact HW3.out | exact HW2.out⟩
  · have e1' : (ee == 0) = false := by simpa using he
    have e2' : (ee != 0) = true := by simpa using he
    have hA := HA1.out he
    subst hA
    go_wp2
    go_ret
    exact ⟨rfl, HW1.out⟩
end Go.Proofs.Ytablphoicidlkaa
namespace Go.Proofs.Ytablphoicidlkaa
open Go.RowKit

theorem sign_le (z : Int) : Int.sign z ≤ 0 ↔ z ≤ 0 := by
  rcases Int.lt_trichotomy z 0 with h | h | h
  · rw [Int.sign_eq_neg_one_of_neg h]; omega
  · subst h; simp
  · rw [Int.sign_eq_one_of_pos h]; omega
theorem gS_bd5 {b : Bm} {l : List Pt} {S : Int} (hb : BmOk b) (hl : WtOk b.s l S) : (gS b l S).2.natAbs ≤ 5000000000000000000 :=
  (grP_bd (g := fun k : Nat => sag b l S k) (B := 5000000000000000000) (N := b.s.toNat + 1) (fun k hk => sag_bd5 hb hl (by omega) (by have := hb.s0; omega)) (n := b.s.toNat + 1) (Nat.le_refl _)).2
set_option maxHeartbeats 4000000 in
set_option maxRecDepth 20000 in
theorem size_any {nn de : Int} (h0 : -9223372036854775807 ≤ nn) (h1 : nn ≤ 9223372036854775807) (w : World) :
    Calls Try.prog 118 #[.agg #[.int .i64 nn, .int .i64 de]] w fun e w' => e = .returned (.agg #[.int .i64 (absI nn), .int .i64 de]) ∧ Below w.heap.size w w' := by
  have AB := fun wx => Lib.hid (rabs_any (n := nn) h0 h1 wx)
  clear h0 h1
  generalize absI nn = ab at *
  go_enter Try.func118, Try.ntmps118
  go_wp2
  obtain ⟨w0, hw0⟩ : ∃ w0, ((w.alloc (.cells #[.int .i64 nn, .int .i64 de] 30)).alloc (.cells #[.int .i64 0, .int .i64 0] 30)) = w0 := ⟨_, rfl⟩
  have HB0 : Hid (Below w.heap.size w w0) := Lib.hid (by rw [← hw0]; exact (((Below.refl _ _).alloc (Nat.le_refl _) _).alloc (by simp; try omega) _))
  have HC := Lib.hid (fun wx (hb : Below w0.heap.size w0 wx) => (show wx.cell? ⟨w.heap.size, 0, none⟩ = some (.int .i64 nn) ∧ wx.cell? ⟨w.heap.size, 1, none⟩ = some (.int .i64 de) ∧ wx.cell? ⟨w.heap.size + 1, 0, none⟩ = some (.int .i64 0) ∧ wx.cell? ⟨w.heap.size + 1, 1, none⟩ = some (.int .i64 0) ∧ wx.frozen? ⟨w.heap.size + 1, 0, none⟩ = false ∧ wx.frozen? ⟨w.heap.size + 1, 1, none⟩ = false from by
    subst hw0
    obtain ⟨k, kf⟩ := bcell hb
    exact ⟨(k _ _ (by simp; try omega)).trans (by simp [go_sem]), (k _ _ (by simp; try omega)).trans (by simp [go_sem]), (k _ _ (by simp; try omega)).trans (by simp [go_sem]), (k _ _ (by simp; try omega)).trans (by simp [go_sem]), (kf _ _ (by simp; try omega)).trans (by simp [go_sem]), (kf _ _ (by simp; try omega)).trans (by simp [go_sem])⟩))
  rw [hw0]
  clear hw0
  refine wp_region_rkt [3, 4, 5, 6, 7, 8] [rEq (.pointer (some ⟨w.heap.size, 0, none⟩)), rEq (.int .i64 nn), rEq (.int .i64 ab), rEq (.pointer (some ⟨w.heap.size, 1, none⟩)), rEq (.int .i64 de), rEq (.agg #[.int .i64 ab, .int .i64 de])] (by kernel_rfl) (by kernel_rfl) (by decide) rfl ⟨?_, ?_, ?_, ?_, ?_, ?_, trivial⟩ ?_
  · intro ac wx hf hb hd -- 0
    have f1 : ac.tmps[1]?.getD undef = .pointer (some ⟨w.heap.size, 0, none⟩) := by rw [← Array.getD_eq_getD_getElem?]; exact hf.same 1 (by decide)
    exact rstep_eq (by simp [execOp, Act.eval, f1, go_sem]) rfl
  · intro ac wx hf hb hd -- 1
    have d0 : ac.tmps[3]?.getD undef = .pointer (some ⟨w.heap.size, 0, none⟩) := by rw [← Array.getD_eq_getD_getElem?]; exact hd 0 (by decide)
    obtain ⟨c0, c1, c2, c3, z1_0, z1_1⟩ := HC.out wx hb
    exact rstep_eq (by simp [execOp, Act.eval, d0, c0, go_sem]) rfl
  · intro ac wx hf hb hd -- 2
    have d1 : ac.tmps[4]?.getD undef = .int .i64 nn := by rw [← Array.getD_eq_getD_getElem?]; exact hd 1 (by decide)
    refine rstep_call (f := 104) (args := #[.int .i64 nn]) (by simp [Act.eval, d1, go_sem]) ?_ rfl
    exact (AB wx).out.mono fun e w' ⟨he, hw⟩ => ⟨he, hw ▸ Below.refl _ _⟩
  · intro ac wx hf hb hd -- 3
    have f1 : ac.tmps[1]?.getD undef = .pointer (some ⟨w.heap.size, 0, none⟩) := by rw [← Array.getD_eq_getD_getElem?]; exact hf.same 1 (by decide)
    exact rstep_eq (by simp [execOp, Act.eval, f1, go_sem]) rfl
  · intro ac wx hf hb hd -- 4
    have d3 : ac.tmps[6]?.getD undef = .pointer (some ⟨w.heap.size, 1, none⟩) := by rw [← Array.getD_eq_getD_getElem?]; exact hd 3 (by decide)
    obtain ⟨c0, c1, c2, c3, z1_0, z1_1⟩ := HC.out wx hb
    exact rstep_eq (by simp [execOp, Act.eval, d3, c1, go_sem]) rfl
  · intro ac wx hf hb hd -- 5
    have d2 : ac.tmps[5]?.getD undef = .int .i64 ab := by rw [← Array.getD_eq_getD_getElem?]; exact hd 2 (by decide)
    have d4 : ac.tmps[7]?.getD undef = .int .i64 de := by rw [← Array.getD_eq_getD_getElem?]; exact hd 4 (by decide)
    exact rstep_eq (by simp [execOp, Act.eval, d2, d4, go_sem]) rfl
  rintro ⟨⟨ll⟩, df⟩ wx hf hb hall
  have hdf : df = [] := hf.defers
  subst hdf
  have hsz : ll.length = 9 := hf.size
  obtain ⟨x0, ll0, rfl, hsz0⟩ := cons_of hsz
  obtain ⟨x1, ll1, rfl, hsz1⟩ := cons_of hsz0
  obtain ⟨x2, ll2, rfl, hsz2⟩ := cons_of hsz1
  obtain ⟨x3, ll3, rfl, hsz3⟩ := cons_of hsz2
  obtain ⟨x4, ll4, rfl, hsz4⟩ := cons_of hsz3
  obtain ⟨x5, ll5, rfl, hsz5⟩ := cons_of hsz4
  obtain ⟨x6, ll6, rfl, hsz6⟩ := cons_of hsz5
  obtain ⟨x7, ll7, rfl, hsz7⟩ := cons_of hsz6
  obtain ⟨x8, ll8, rfl, hsz8⟩ := cons_of hsz7
  obtain rfl := List.eq_nil_of_length_eq_zero hsz8
  obtain rfl : x1 = .pointer (some ⟨w.heap.size, 0, none⟩) := hf.same 1 (by decide)
  obtain rfl : x2 = .pointer (some ⟨w.heap.size + 1, 0, none⟩) := hf.same 2 (by decide)
  obtain rfl : x3 = .pointer (some ⟨w.heap.size, 0, none⟩) := hall 0 3 rfl
  obtain rfl : x4 = .int .i64 nn := hall 1 4 rfl
  obtain rfl : x5 = .int .i64 ab := hall 2 5 rfl
  obtain rfl : x6 = .pointer (some ⟨w.heap.size, 1, none⟩) := hall 3 6 rfl
  obtain rfl : x7 = .int .i64 de := hall 4 7 rfl
  obtain rfl : x8 = .agg #[.int .i64 ab, .int .i64 de] := hall 5 8 rfl
  clear hall hf
  intro o ho
  have ho2 : _ = o := Option.some.inj ho
  subst ho2
  clear ho
  obtain ⟨c0, c1, c2, c3, z1_0, z1_1⟩ := HC.out wx hb
  simp [Oper.wp, Oper.upon, execOp, Act.eval, go_sem, c2, c3, z1_0, z1_1]
  go_wp2
  refine bodyPost_ret (v := .agg #[.int .i64 ab, .int .i64 de]) (by simp [results, Try.results118, go_sem, c2, c3]) rfl ⟨rfl, ?_⟩
  exact ((HB0.out.trans (hb.mono HB0.out.size)).setCell (p := ⟨w.heap.size + 1, 0, none⟩) (by simp) _).setCell (p := ⟨w.heap.size + 1, 1, none⟩) (by simp) _
set_option maxHeartbeats 4000000 in
set_option maxRecDepth 20000 in
theorem rholds_any {b : Bm} {x : Wd} {A : Option Addr} {n c : Nat} {S r : Int} {l : List Pt} (hb : BmOk b) (hl : WtOk b.s l S) (hx : WdOk x) (r0 : 1 ≤ r) (r1 : r ≤ 1000) (w : World) (h : PtRow w A n l) :
    Calls Try.prog 57 #[bmV b, wdV x, buV A n c S, .int .i64 r] w fun e w' => e = .returned (.bool (hldB b x l S r)) ∧ Below w.heap.size w w' := by
  have hhi : x.lo ≤ 30000 := by have := hx.l1; have := hx.h1; omega
  have GS := Lib.hid (fun wx (hw : Below w.heap.size w wx) => rGreatestSag_any (c := c) hb hl hx.l0 hhi wx (h.below hw))
  have ST := Lib.hid (fun wx (hw : Below w.heap.size w wx) => rStress_any (c := c) hb hl wx (h.below hw))
  obtain ⟨d1, d2⟩ := sgD_bd (E := x.lo) hb hx.l0 hhi
  obtain ⟨d3, d4⟩ := strD_bd hb
  have g2 := gS_bd5 hb hl
  have gm := (gM_bd hb hl).2
  have s0 := hb.s0; have s1 := hb.s1
  have t0 := hx.s0; have t1 := hx.s1
  have k1 := lowD_pos (n := strN b l S) d3
  have k2 := lowD_le (n := strN b l S) d3
  have k3 := lowN_bd (n := strN b l S) d3
  have k4 := lowD_pos (n := (gS b l S).2) d1
  have k5 := lowD_le (n := (gS b l S).2) d1
  have k6 := lowN_bd (n := (gS b l S).2) d1
  have k7 : (strN b l S).natAbs ≤ 5000000000000000000 := by unfold strN absI; omega
  have SZ := fun wx => Lib.hid (size_any (nn := lowN (gS b l S).2 (sgD b x.lo)) (de := lowD (gS b l S).2 (sgD b x.lo)) (by omega) (by omega) wx)
  have C1 := fun wx => Lib.hid (cmp_any (an := lowN (strN b l S) (strD b)) (ad := lowD (strN b l S) (strD b)) (bn := x.st) (bd := 1) k1 (by omega) (by omega) (by omega) (by omega) (by omega) wx)
  have C2 := fun wx => Lib.hid (cmp_any (an := absI (lowN (gS b l S).2 (sgD b x.lo))) (ad := lowD (gS b l S).2 (sgD b x.lo)) (bn := b.s) (bd := r) k4 (by omega) (by unfold absI; omega) (by omega) (by omega) (by omega) wx)
  have G1 : decide (Int.sign (lowN (strN b l S) (strD b) * 1 - x.st * lowD (strN b l S) (strD b)) ≤ 0) = strongB b x l S := by
    unfold strongB
    rw [Bool.eq_iff_iff, decide_eq_true_iff, decide_eq_true_iff, sign_le, ← low_le d3]
    omega
  have G2 : decide (Int.sign (absI (lowN (gS b l S).2 (sgD b x.lo)) * r - b.s * lowD (gS b l S).2 (sgD b x.lo)) ≤ 0) = stiffB b x l S r := by
    unfold stiffB
    rw [Bool.eq_iff_iff, decide_eq_true_iff, decide_eq_true_iff, sign_le, ← low_le2 d1]
    omega
  clear d1 d2 d3 d4 g2 gm s0 s1 t0 t1 k1 k2 k3 k4 k5 k6 k7 h hb hl hx hhi
  unfold hldB
  obtain ⟨pp, hpp⟩ : ∃ x, (gS b l S).1 = x := ⟨_, rfl⟩
  obtain ⟨mm, hmm⟩ : ∃ x, (gS b l S).2 = x := ⟨_, rfl⟩
  rw [hpp, hmm] at GS
  rw [hmm] at SZ C2 G2
  clear hpp hmm
  obtain ⟨s, ww, t, en⟩ := b
  obtain ⟨lo, hi, st⟩ := x
  unfold bmV wdV buV frV at *
  simp only at GS ST SZ C1 C2 G1 G2 ⊢
  generalize strongB ⟨s, ww, t, en⟩ ⟨lo, hi, st⟩ l S = sb at *
  generalize stiffB ⟨s, ww, t, en⟩ ⟨lo, hi, st⟩ l S r = tb at *
  generalize lowN (strN ⟨s, ww, t, en⟩ l S) (strD ⟨s, ww, t, en⟩) = nn at *
  generalize lowD (strN ⟨s, ww, t, en⟩ l S) (strD ⟨s, ww, t, en⟩) = de at *
  generalize lowN mm (sgD ⟨s, ww, t, en⟩ lo) = gn at *
  generalize lowD mm (sgD ⟨s, ww, t, en⟩ lo) = gd at *
  generalize absI gn = ab at *
  generalize Int.sign (nn * 1 - st * de) = c1 at *
  generalize Int.sign (ab * r - s * gd) = c2 at *
  have HG := Lib.hid (And.intro G1 G2)
  clear G1 G2 r0 r1
  go_enter Try.func57, Try.ntmps57
  go_upto_region 1 with fail
  obtain ⟨w0, hw0⟩ : ∃ w0, (((w.alloc (.cells #[.int .i64 s, .int .i64 ww, .int .i64 t, .int .i64 en] 23)).alloc (.cells #[.int .i64 lo, .int .i64 hi, .int .i64 st] 79)).alloc (.cells #[.slice A n c, .int .i64 S] 26)) = w0 := ⟨_, rfl⟩
  have HB0 : Hid (Below w.heap.size w w0) := Lib.hid (by rw [← hw0]; exact ((((Below.refl _ _).alloc (Nat.le_refl _) _).alloc (by simp; try omega) _).alloc (by simp; try omega) _))
  have HC := Lib.hid (fun wx (hb : Below w0.heap.size w0 wx) => (show wx.cell? ⟨w.heap.size, 0, none⟩ = some (.int .i64 s) ∧ wx.cell? ⟨w.heap.size, 1, none⟩ = some (.int .i64 ww) ∧ wx.cell? ⟨w.heap.size, 2, none⟩ = some (.int .i64 t) ∧ wx.cell? ⟨w.heap.size, 3, none⟩ = some (.int .i64 en) ∧ wx.cell? ⟨w.heap.size + 1, 0, none⟩ = some (.int .i64 lo) ∧ wx.cell? ⟨w.heap.size + 1, 1, none⟩ = some (.int .i64 hi) ∧ wx.cell? ⟨w.heap.size + 1, 2, none⟩ = some (.int .i64 st) ∧ wx.cell? ⟨w.heap.size + 2, 0, none⟩ = some (.slice A n c) ∧ wx.cell? ⟨w.heap.size + 2, 1, none⟩ = some (.int .i64 S) from by
    subst hw0
    obtain ⟨k, kf⟩ := bcell hb
    exact ⟨(k _ _ (by simp; try omega)).trans (by simp [go_sem]), (k _ _ (by simp; try omega)).trans (by simp [go_sem]), (k _ _ (by simp; try omega)).trans (by simp [go_sem]), (k _ _ (by simp; try omega)).trans (by simp [go_sem]), (k _ _ (by simp; try omega)).trans (by simp [go_sem]), (k _ _ (by simp; try omega)).trans (by simp [go_sem]), (k _ _ (by simp; try omega)).trans (by simp [go_sem]), (k _ _ (by simp; try omega)).trans (by simp [go_sem]), (k _ _ (by simp; try omega)).trans (by simp [go_sem])⟩))
  rw [hw0]
  clear hw0
  have HZ0 := Lib.hid (Below.refl w0.heap.size w0)
  obtain ⟨c0, c1, c2, c3, c4, c5, c6, c7, c8⟩ := HC.out w0 HZ0.out
  go_upto_region 2 with (go_at_call 42; (with_reducible refine Calls.mono (GS.out _ HB0.out) ?_); rintro e w1 ⟨rfl, hb1⟩; have H1 := Lib.hid hb1; clear hb1)
  obtain ⟨w2, hw2⟩ : ∃ w2, w1.alloc (.cells #[.int .i64 gn, .int .i64 gd] 30) = w2 := ⟨_, rfl⟩
  have H2 : Hid (Below w0.heap.size w0 w2) := Lib.hid (by rw [← hw2]; exact H1.out.alloc H1.out.size _)
  obtain ⟨pF, hpF⟩ : ∃ x, w1.heap.size = x := ⟨_, rfl⟩
  have HU : Hid (w2.cell? ⟨pF, 0, none⟩ = some (.int .i64 gn) ∧ w2.cell? ⟨pF, 1, none⟩ = some (.int .i64 gd) ∧ pF < w2.heap.size) := Lib.hid (by rw [← hw2, ← hpF]; exact ⟨by simp [go_sem], by simp [go_sem], by simp⟩)
  rw [hw2, hpF]
  have HW2 := Lib.hid (HB0.out.trans (H2.out.mono HB0.out.size))
  have HC2 := Lib.hid (fun wx (hy : Below w2.heap.size w2 wx) => let h := HC.out wx (H2.out.trans (hy.mono H2.out.size)); And.intro (h.1) (And.intro (h.2.1) (And.intro (h.2.2.1) (And.intro (h.2.2.2.1) (And.intro (h.2.2.2.2.1) (And.intro (h.2.2.2.2.2.1) (And.intro (h.2.2.2.2.2.2.1) (And.intro (h.2.2.2.2.2.2.2.1) (And.intro (h.2.2.2.2.2.2.2.2) (And.intro (((bcell hy).1 _ _ HU.out.2.2).trans HU.out.1) (((bcell hy).1 _ _ HU.out.2.2).trans HU.out.2.1)))))))))))
  clear hw2 hpF c0 c1 c2 c3 c4 c5 c6 c7 c8
  cases sb
  · refine wp_region_rkg [19, 20, 21, 22, 23, 24, 25, 26, 27, 28, 29, 30, 31, 32, 33, 34, 35, 36, 8] [rEq (.agg #[.int .i64 s, .int .i64 ww, .int .i64 t, .int .i64 en]), rEq (.agg #[.slice A n c, .int .i64 S]), rEq (.agg #[.int .i64 nn, .int .i64 de]), rEq (.pointer (some ⟨w.heap.size + 1, 2, none⟩)), rEq (.int .i64 st), rEq (.agg #[.int .i64 st, .int .i64 1]), rEq (.int .i64 c1), rEq (.bool false), rEq (.bool false), (rAny), (rAny), (rAny), (rAny), (rAny), (rAny), (rAny), (rAny), rEq (.bool false), rEq (.bool false)] (by kernel_rfl) (by kernel_rfl) (by decide) rfl ⟨?_, ?_, ?_, ?_, ?_, ?_, ?_, ?_, ?_, ?_, ?_, ?_, ?_, ?_, ?_, ?_, ?_, ?_, ?_, trivial⟩ ?_
    · intro ac wx hf hb hd -- 0
      refine .inl ⟨wanted_free rfl, ?_⟩
      have f4 : ac.tmps[4]?.getD undef = .pointer (some ⟨w.heap.size, 0, none⟩) := by rw [← Array.getD_eq_getD_getElem?]; exact hf.same 4 (by decide)
      obtain ⟨c0, c1, c2, c3, c4, c5, c6, c7, c8, u0, u1⟩ := HC2.out wx hb
      exact rstep_eq (by simp [execOp, Act.eval, f4, c0, c1, c2, c3, go_sem]) rfl
    · intro ac wx hf hb hd -- 1
      refine .inl ⟨wanted_free rfl, ?_⟩
      have f6 : ac.tmps[6]?.getD undef = .pointer (some ⟨w.heap.size + 2, 0, none⟩) := by rw [← Array.getD_eq_getD_getElem?]; exact hf.same 6 (by decide)
      obtain ⟨c0, c1, c2, c3, c4, c5, c6, c7, c8, u0, u1⟩ := HC2.out wx hb
      exact rstep_eq (by simp [execOp, Act.eval, f6, c7, c8, go_sem]) rfl
    · intro ac wx hf hb hd -- 2
      refine .inl ⟨wanted_free rfl, ?_⟩
      have d0 : ac.tmps[19]?.getD undef = .agg #[.int .i64 s, .int .i64 ww, .int .i64 t, .int .i64 en] := by rw [← Array.getD_eq_getD_getElem?]; exact hd 0 (by decide)
      have d1 : ac.tmps[20]?.getD undef = .agg #[.slice A n c, .int .i64 S] := by rw [← Array.getD_eq_getD_getElem?]; exact hd 1 (by decide)
      refine rstep_call (f := 38) (args := #[.agg #[.int .i64 s, .int .i64 ww, .int .i64 t, .int .i64 en], .agg #[.slice A n c, .int .i64 S]]) (by simp [Act.eval, d0, d1, go_sem]) ?_ rfl
      exact ST.out wx (HW2.out.trans (hb.mono HW2.out.size))
    · intro ac wx hf hb hd -- 3
      refine .inl ⟨wanted_free rfl, ?_⟩
      have f5 : ac.tmps[5]?.getD undef = .pointer (some ⟨w.heap.size + 1, 0, none⟩) := by rw [← Array.getD_eq_getD_getElem?]; exact hf.same 5 (by decide)
      exact rstep_eq (by simp [execOp, Act.eval, f5, go_sem]) rfl
    · intro ac wx hf hb hd -- 4
      refine .inl ⟨wanted_free rfl, ?_⟩
      have d3 : ac.tmps[22]?.getD undef = .pointer (some ⟨w.heap.size + 1, 2, none⟩) := by rw [← Array.getD_eq_getD_getElem?]; exact hd 3 (by decide)
      obtain ⟨c0, c1, c2, c3, c4, c5, c6, c7, c8, u0, u1⟩ := HC2.out wx hb
      exact rstep_eq (by simp [execOp, Act.eval, d3, c6, go_sem]) rfl
    · intro ac wx hf hb hd -- 5
      refine .inl ⟨wanted_free rfl, ?_⟩
      have d4 : ac.tmps[23]?.getD undef = .int .i64 st := by rw [← Array.getD_eq_getD_getElem?]; exact hd 4 (by decide)
      exact rstep_eq (by simp [execOp, Act.eval, d4, go_sem]) rfl
    · intro ac wx hf hb hd -- 6
      refine .inl ⟨wanted_free rfl, ?_⟩
      have d2 : ac.tmps[21]?.getD undef = .agg #[.int .i64 nn, .int .i64 de] := by rw [← Array.getD_eq_getD_getElem?]; exact hd 2 (by decide)
      have d5 : ac.tmps[24]?.getD undef = .agg #[.int .i64 st, .int .i64 1] := by rw [← Array.getD_eq_getD_getElem?]; exact hd 5 (by decide)
      refine rstep_call (f := 50) (args := #[.agg #[.int .i64 nn, .int .i64 de], .agg #[.int .i64 st, .int .i64 1]]) (by simp [Act.eval, d2, d5, go_sem]) ?_ rfl
      exact (C1 wx).out
    · intro ac wx hf hb hd -- 7
      refine .inl ⟨wanted_free rfl, ?_⟩
      have d6 : ac.tmps[25]?.getD undef = .int .i64 c1 := by rw [← Array.getD_eq_getD_getElem?]; exact hd 6 (by decide)
      exact rstep_eq (by simp [execOp, Act.eval, d6, HG.out.1, go_sem]) rfl
    · intro ac wx hf hb hd -- 8
      refine .inl ⟨wanted_free rfl, ?_⟩
      have d7 : ac.tmps[26]?.getD undef = .bool false := by rw [← Array.getD_eq_getD_getElem?]; exact hd 7 (by decide)
      exact rstep_eq (by simp [execOp, Act.eval, d7, go_sem]) rfl
    · intro ac wx hf hb hd -- 9
      exact .inr ⟨wanted_not (j := 8) (d := 27) (b := true) rfl rfl (hd 8 (by decide)), by first | exact trivial | rfl⟩
    · intro ac wx hf hb hd -- 10
      exact .inr ⟨wanted_not (j := 8) (d := 27) (b := true) rfl rfl (hd 8 (by decide)), by first | exact trivial | rfl⟩
    · intro ac wx hf hb hd -- 11
      exact .inr ⟨wanted_not (j := 8) (d := 27) (b := true) rfl rfl (hd 8 (by decide)), by first | exact trivial | rfl⟩
    · intro ac wx hf hb hd -- 12
      exact .inr ⟨wanted_not (j := 8) (d := 27) (b := true) rfl rfl (hd 8 (by decide)), by first | exact trivial | rfl⟩
    · intro ac wx hf hb hd -- 13
      exact .inr ⟨wanted_not (j := 8) (d := 27) (b := true) rfl rfl (hd 8 (by decide)), by first | exact trivial | rfl⟩
    · intro ac wx hf hb hd -- 14
      exact .inr ⟨wanted_not (j := 8) (d := 27) (b := true) rfl rfl (hd 8 (by decide)), by first | exact trivial | rfl⟩
    · intro ac wx hf hb hd -- 15
      exact .inr ⟨wanted_not (j := 8) (d := 27) (b := true) rfl rfl (hd 8 (by decide)), by first | exact trivial | rfl⟩
    · intro ac wx hf hb hd -- 16
      exact .inr ⟨wanted_not (j := 8) (d := 27) (b := true) rfl rfl (hd 8 (by decide)), by first | exact trivial | rfl⟩
    · intro ac wx hf hb hd -- 17
      refine .inl ⟨wanted_free rfl, ?_⟩
      have d8 : ac.tmps[27]?.getD undef = .bool false := by rw [← Array.getD_eq_getD_getElem?]; exact hd 8 (by decide)
      exact rstep_eq (by simp [execOp, Act.eval, d8, go_sem]) rfl
    · intro ac wx hf hb hd -- 18
      refine .inl ⟨wanted_free rfl, ?_⟩
      have d17 : ac.tmps[36]?.getD undef = .bool false := by rw [← Array.getD_eq_getD_getElem?]; exact hd 17 (by decide)
      exact rstep_eq (by simp [execOp, Act.eval, d17, go_sem]) rfl
    rintro ⟨⟨ll⟩, df⟩ wx hf hb hall
    have hdf : df = [] := hf.defers
    subst hdf
    have hsz : ll.length = 37 := hf.size
    obtain ⟨x0, ll0, rfl, hsz0⟩ := cons_of hsz
    obtain ⟨x1, ll1, rfl, hsz1⟩ := cons_of hsz0
    obtain ⟨x2, ll2, rfl, hsz2⟩ := cons_of hsz1
    obtain ⟨x3, ll3, rfl, hsz3⟩ := cons_of hsz2
    obtain ⟨x4, ll4, rfl, hsz4⟩ := cons_of hsz3
    obtain ⟨x5, ll5, rfl, hsz5⟩ := cons_of hsz4
    obtain ⟨x6, ll6, rfl, hsz6⟩ := cons_of hsz5
    obtain ⟨x7, ll7, rfl, hsz7⟩ := cons_of hsz6
    obtain ⟨x8, ll8, rfl, hsz8⟩ := cons_of hsz7
    obtain ⟨x9, ll9, rfl, hsz9⟩ := cons_of hsz8
    obtain ⟨x10, ll10, rfl, hsz10⟩ := cons_of hsz9
    obtain ⟨x11, ll11, rfl, hsz11⟩ := cons_of hsz10
    obtain ⟨x12, ll12, rfl, hsz12⟩ := cons_of hsz11
    obtain ⟨x13, ll13, rfl, hsz13⟩ := cons_of hsz12
    obtain ⟨x14, ll14, rfl, hsz14⟩ := cons_of hsz13
    obtain ⟨x15, ll15, rfl, hsz15⟩ := cons_of hsz14
    obtain ⟨x16, ll16, rfl, hsz16⟩ := cons_of hsz15
    obtain ⟨x17, ll17, rfl, hsz17⟩ := cons_of hsz16
    obtain ⟨x18, ll18, rfl, hsz18⟩ := cons_of hsz17
    obtain ⟨x19, ll19, rfl, hsz19⟩ := cons_of hsz18
    obtain ⟨x20, ll20, rfl, hsz20⟩ := cons_of hsz19
    obtain ⟨x21, ll21, rfl, hsz21⟩ := cons_of hsz20
    obtain ⟨x22, ll22, rfl, hsz22⟩ := cons_of hsz21
    obtain ⟨x23, ll23, rfl, hsz23⟩ := cons_of hsz22
    obtain ⟨x24, ll24, rfl, hsz24⟩ := cons_of hsz23
    obtain ⟨x25, ll25, rfl, hsz25⟩ := cons_of hsz24
    obtain ⟨x26, ll26, rfl, hsz26⟩ := cons_of hsz25
    obtain ⟨x27, ll27, rfl, hsz27⟩ := cons_of hsz26
    obtain ⟨x28, ll28, rfl, hsz28⟩ := cons_of hsz27
    obtain ⟨x29, ll29, rfl, hsz29⟩ := cons_of hsz28
    obtain ⟨x30, ll30, rfl, hsz30⟩ := cons_of hsz29
    obtain ⟨x31, ll31, rfl, hsz31⟩ := cons_of hsz30
    obtain ⟨x32, ll32, rfl, hsz32⟩ := cons_of hsz31
    obtain ⟨x33, ll33, rfl, hsz33⟩ := cons_of hsz32
    obtain ⟨x34, ll34, rfl, hsz34⟩ := cons_of hsz33
    obtain ⟨x35, ll35, rfl, hsz35⟩ := cons_of hsz34
    obtain ⟨x36, ll36, rfl, hsz36⟩ := cons_of hsz35
    obtain rfl := List.eq_nil_of_length_eq_zero hsz36
    obtain rfl : x3 = .int .i64 r := hf.same 3 (by decide)
    obtain rfl : x4 = .pointer (some ⟨w.heap.size, 0, none⟩) := hf.same 4 (by decide)
    obtain rfl : x5 = .pointer (some ⟨w.heap.size + 1, 0, none⟩) := hf.same 5 (by decide)
    obtain rfl : x6 = .pointer (some ⟨w.heap.size + 2, 0, none⟩) := hf.same 6 (by decide)
    obtain rfl : x8 = .bool false := hall 18 8 rfl
    obtain rfl : x10 = .pointer (some ⟨pF, 0, none⟩) := hf.same 10 (by decide)
    obtain rfl : x19 = .agg #[.int .i64 s, .int .i64 ww, .int .i64 t, .int .i64 en] := hall 0 19 rfl
    obtain rfl : x20 = .agg #[.slice A n c, .int .i64 S] := hall 1 20 rfl
    obtain rfl : x21 = .agg #[.int .i64 nn, .int .i64 de] := hall 2 21 rfl
    obtain rfl : x22 = .pointer (some ⟨w.heap.size + 1, 2, none⟩) := hall 3 22 rfl
    obtain rfl : x23 = .int .i64 st := hall 4 23 rfl
    obtain rfl : x24 = .agg #[.int .i64 st, .int .i64 1] := hall 5 24 rfl
    obtain rfl : x25 = .int .i64 c1 := hall 6 25 rfl
    obtain rfl : x26 = .bool false := hall 7 26 rfl
    obtain rfl : x27 = .bool false := hall 8 27 rfl
    obtain rfl : x36 = .bool false := hall 17 36 rfl
    clear hall hf
    go_wp2
    go_ret
    exact ⟨rfl, HW2.out.trans (hb.mono HW2.out.size)⟩
  · refine wp_region_rkg [19, 20, 21, 22, 23, 24, 25, 26, 27, 28, 29, 30, 31, 32, 33, 34, 35, 36, 8] [rEq (.agg #[.int .i64 s, .int .i64 ww, .int .i64 t, .int .i64 en]), rEq (.agg #[.slice A n c, .int .i64 S]), rEq (.agg #[.int .i64 nn, .int .i64 de]), rEq (.pointer (some ⟨w.heap.size + 1, 2, none⟩)), rEq (.int .i64 st), rEq (.agg #[.int .i64 st, .int .i64 1]), rEq (.int .i64 c1), rEq (.bool true), rEq (.bool true), rEq (.agg #[.int .i64 gn, .int .i64 gd]), rEq (.agg #[.int .i64 ab, .int .i64 gd]), rEq (.pointer (some ⟨w.heap.size, 0, none⟩)), rEq (.int .i64 s), rEq (.int .i64 r), rEq (.agg #[.int .i64 s, .int .i64 r]), rEq (.int .i64 c2), rEq (.bool tb), rEq (.bool tb), rEq (.bool tb)] (by kernel_rfl) (by kernel_rfl) (by decide) rfl ⟨?_, ?_, ?_, ?_, ?_, ?_, ?_, ?_, ?_, ?_, ?_, ?_, ?_, ?_, ?_, ?_, ?_, ?_, ?_, trivial⟩ ?_
    · intro ac wx hf hb hd -- 0
      refine .inl ⟨wanted_free rfl, ?_⟩
      have f4 : ac.tmps[4]?.getD undef = .pointer (some ⟨w.heap.size, 0, none⟩) := by rw [← Array.getD_eq_getD_getElem?]; exact hf.same 4 (by decide)
      obtain ⟨c0, c1, c2, c3, c4, c5, c6, c7, c8, u0, u1⟩ := HC2.out wx hb
      exact rstep_eq (by simp [execOp, Act.eval, f4, c0, c1, c2, c3, go_sem]) rfl
    · intro ac wx hf hb hd -- 1
      refine .inl ⟨wanted_free rfl, ?_⟩
      have f6 : ac.tmps[6]?.getD undef = .pointer (some ⟨w.heap.size + 2, 0, none⟩) := by rw [← Array.getD_eq_getD_getElem?]; exact hf.same 6 (by decide)
      obtain ⟨c0, c1, c2, c3, c4, c5, c6, c7, c8, u0, u1⟩ := HC2.out wx hb
      exact rstep_eq (by simp [execOp, Act.eval, f6, c7, c8, go_sem]) rfl
    · intro ac wx hf hb hd -- 2
      refine .inl ⟨wanted_free rfl, ?_⟩
      have d0 : ac.tmps[19]?.getD undef = .agg #[.int .i64 s, .int .i64 ww, .int .i64 t, .int .i64 en] := by rw [← Array.getD_eq_getD_getElem?]; exact hd 0 (by decide)
      have d1 : ac.tmps[20]?.getD undef = .agg #[.slice A n c, .int .i64 S] := by rw [← Array.getD_eq_getD_getElem?]; exact hd 1 (by decide)
      refine rstep_call (f := 38) (args := #[.agg #[.int .i64 s, .int .i64 ww, .int .i64 t, .int .i64 en], .agg #[.slice A n c, .int .i64 S]]) (by simp [Act.eval, d0, d1, go_sem]) ?_ rfl
      exact ST.out wx (HW2.out.trans (hb.mono HW2.out.size))
    · intro ac wx hf hb hd -- 3
      refine .inl ⟨wanted_free rfl, ?_⟩
      have f5 : ac.tmps[5]?.getD undef = .pointer (some ⟨w.heap.size + 1, 0, none⟩) := by rw [← Array.getD_eq_getD_getElem?]; exact hf.same 5 (by decide)
      exact rstep_eq (by simp [execOp, Act.eval, f5, go_sem]) rfl
    · intro ac wx hf hb hd -- 4
      refine .inl ⟨wanted_free rfl, ?_⟩
      have d3 : ac.tmps[22]?.getD undef = .pointer (some ⟨w.heap.size + 1, 2, none⟩) := by rw [← Array.getD_eq_getD_getElem?]; exact hd 3 (by decide)
      obtain ⟨c0, c1, c2, c3, c4, c5, c6, c7, c8, u0, u1⟩ := HC2.out wx hb
      exact rstep_eq (by simp [execOp, Act.eval, d3, c6, go_sem]) rfl
    · intro ac wx hf hb hd -- 5
      refine .inl ⟨wanted_free rfl, ?_⟩
      have d4 : ac.tmps[23]?.getD undef = .int .i64 st := by rw [← Array.getD_eq_getD_getElem?]; exact hd 4 (by decide)
      exact rstep_eq (by simp [execOp, Act.eval, d4, go_sem]) rfl
    · intro ac wx hf hb hd -- 6
      refine .inl ⟨wanted_free rfl, ?_⟩
      have d2 : ac.tmps[21]?.getD undef = .agg #[.int .i64 nn, .int .i64 de] := by rw [← Array.getD_eq_getD_getElem?]; exact hd 2 (by decide)
      have d5 : ac.tmps[24]?.getD undef = .agg #[.int .i64 st, .int .i64 1] := by rw [← Array.getD_eq_getD_getElem?]; exact hd 5 (by decide)
      refine rstep_call (f := 50) (args := #[.agg #[.int .i64 nn, .int .i64 de], .agg #[.int .i64 st, .int .i64 1]]) (by simp [Act.eval, d2, d5, go_sem]) ?_ rfl
      exact (C1 wx).out
    · intro ac wx hf hb hd -- 7
      refine .inl ⟨wanted_free rfl, ?_⟩
      have d6 : ac.tmps[25]?.getD undef = .int .i64 c1 := by rw [← Array.getD_eq_getD_getElem?]; exact hd 6 (by decide)
      exact rstep_eq (by simp [execOp, Act.eval, d6, HG.out.1, go_sem]) rfl
    · intro ac wx hf hb hd -- 8
      refine .inl ⟨wanted_free rfl, ?_⟩
      have d7 : ac.tmps[26]?.getD undef = .bool true := by rw [← Array.getD_eq_getD_getElem?]; exact hd 7 (by decide)
      exact rstep_eq (by simp [execOp, Act.eval, d7, go_sem]) rfl
    · intro ac wx hf hb hd -- 9
      refine .inl ⟨wanted_by (j := 8) (d := 27) (b := true) rfl rfl (hd 8 (by decide)), ?_⟩
      have f10 : ac.tmps[10]?.getD undef = .pointer (some ⟨pF, 0, none⟩) := by rw [← Array.getD_eq_getD_getElem?]; exact hf.same 10 (by decide)
      obtain ⟨c0, c1, c2, c3, c4, c5, c6, c7, c8, u0, u1⟩ := HC2.out wx hb
      exact rstep_eq (by simp [execOp, Act.eval, f10, u0, u1, go_sem]) rfl
    · intro ac wx hf hb hd -- 10
      refine .inl ⟨wanted_by (j := 8) (d := 27) (b := true) rfl rfl (hd 8 (by decide)), ?_⟩
      have d9 : ac.tmps[28]?.getD undef = .agg #[.int .i64 gn, .int .i64 gd] := by rw [← Array.getD_eq_getD_getElem?]; exact hd 9 (by decide)
      refine rstep_call (f := 118) (args := #[.agg #[.int .i64 gn, .int .i64 gd]]) (by simp [Act.eval, d9, go_sem]) ?_ rfl
      exact (SZ wx).out
    · intro ac wx hf hb hd -- 11
      refine .inl ⟨wanted_by (j := 8) (d := 27) (b := true) rfl rfl (hd 8 (by decide)), ?_⟩
      have f4 : ac.tmps[4]?.getD undef = .pointer (some ⟨w.heap.size, 0, none⟩) := by rw [← Array.getD_eq_getD_getElem?]; exact hf.same 4 (by decide)
      exact rstep_eq (by simp [execOp, Act.eval, f4, go_sem]) rfl
    · intro ac wx hf hb hd -- 12
      refine .inl ⟨wanted_by (j := 8) (d := 27) (b := true) rfl rfl (hd 8 (by decide)), ?_⟩
      have d11 : ac.tmps[30]?.getD undef = .pointer (some ⟨w.heap.size, 0, none⟩) := by rw [← Array.getD_eq_getD_getElem?]; exact hd 11 (by decide)
      obtain ⟨c0, c1, c2, c3, c4, c5, c6, c7, c8, u0, u1⟩ := HC2.out wx hb
      exact rstep_eq (by simp [execOp, Act.eval, d11, c0, go_sem]) rfl
    · intro ac wx hf hb hd -- 13
      refine .inl ⟨wanted_by (j := 8) (d := 27) (b := true) rfl rfl (hd 8 (by decide)), ?_⟩
      have f3 : ac.tmps[3]?.getD undef = .int .i64 r := by rw [← Array.getD_eq_getD_getElem?]; exact hf.same 3 (by decide)
      exact rstep_eq (by simp [execOp, Act.eval, f3, go_sem]) rfl
    · intro ac wx hf hb hd -- 14
      refine .inl ⟨wanted_by (j := 8) (d := 27) (b := true) rfl rfl (hd 8 (by decide)), ?_⟩
      have d12 : ac.tmps[31]?.getD undef = .int .i64 s := by rw [← Array.getD_eq_getD_getElem?]; exact hd 12 (by decide)
      have d13 : ac.tmps[32]?.getD undef = .int .i64 r := by rw [← Array.getD_eq_getD_getElem?]; exact hd 13 (by decide)
      exact rstep_eq (by simp [execOp, Act.eval, d12, d13, go_sem]) rfl
    · intro ac wx hf hb hd -- 15
      refine .inl ⟨wanted_by (j := 8) (d := 27) (b := true) rfl rfl (hd 8 (by decide)), ?_⟩
      have d10 : ac.tmps[29]?.getD undef = .agg #[.int .i64 ab, .int .i64 gd] := by rw [← Array.getD_eq_getD_getElem?]; exact hd 10 (by decide)
      have d14 : ac.tmps[33]?.getD undef = .agg #[.int .i64 s, .int .i64 r] := by rw [← Array.getD_eq_getD_getElem?]; exact hd 14 (by decide)
      refine rstep_call (f := 50) (args := #[.agg #[.int .i64 ab, .int .i64 gd], .agg #[.int .i64 s, .int .i64 r]]) (by simp [Act.eval, d10, d14, go_sem]) ?_ rfl
      exact (C2 wx).out
    · intro ac wx hf hb hd -- 16
      refine .inl ⟨wanted_by (j := 8) (d := 27) (b := true) rfl rfl (hd 8 (by decide)), ?_⟩
      have d15 : ac.tmps[34]?.getD undef = .int .i64 c2 := by rw [← Array.getD_eq_getD_getElem?]; exact hd 15 (by decide)
      exact rstep_eq (by simp [execOp, Act.eval, d15, HG.out.2, go_sem]) rfl
    · intro ac wx hf hb hd -- 17
      refine .inl ⟨wanted_free rfl, ?_⟩
      have d8 : ac.tmps[27]?.getD undef = .bool true := by rw [← Array.getD_eq_getD_getElem?]; exact hd 8 (by decide)
      have d16 : ac.tmps[35]?.getD undef = .bool tb := by rw [← Array.getD_eq_getD_getElem?]; exact hd 16 (by decide)
      exact rstep_eq (by simp [execOp, Act.eval, d8, d16, go_sem]) rfl
    · intro ac wx hf hb hd -- 18
      refine .inl ⟨wanted_free rfl, ?_⟩
      have d17 : ac.tmps[36]?.getD undef = .bool tb := by rw [← Array.getD_eq_getD_getElem?]; exact hd 17 (by decide)
      exact rstep_eq (by simp [execOp, Act.eval, d17, go_sem]) rfl
    rintro ⟨⟨ll⟩, df⟩ wx hf hb hall
    have hdf : df = [] := hf.defers
    subst hdf
    have hsz : ll.length = 37 := hf.size
    obtain ⟨x0, ll0, rfl, hsz0⟩ := cons_of hsz
    obtain ⟨x1, ll1, rfl, hsz1⟩ := cons_of hsz0
    obtain ⟨x2, ll2, rfl, hsz2⟩ := cons_of hsz1
    obtain ⟨x3, ll3, rfl, hsz3⟩ := cons_of hsz2
    obtain ⟨x4, ll4, rfl, hsz4⟩ := cons_of hsz3
    obtain ⟨x5, ll5, rfl, hsz5⟩ := cons_of hsz4
    obtain ⟨x6, ll6, rfl, hsz6⟩ := cons_of hsz5
    obtain ⟨x7, ll7, rfl, hsz7⟩ := cons_of hsz6
    obtain ⟨x8, ll8, rfl, hsz8⟩ := cons_of hsz7
    obtain ⟨x9, ll9, rfl, hsz9⟩ := cons_of hsz8
    obtain ⟨x10, ll10, rfl, hsz10⟩ := cons_of hsz9
    obtain ⟨x11, ll11, rfl, hsz11⟩ := cons_of hsz10
    obtain ⟨x12, ll12, rfl, hsz12⟩ := cons_of hsz11
    obtain ⟨x13, ll13, rfl, hsz13⟩ := cons_of hsz12
    obtain ⟨x14, ll14, rfl, hsz14⟩ := cons_of hsz13
    obtain ⟨x15, ll15, rfl, hsz15⟩ := cons_of hsz14
    obtain ⟨x16, ll16, rfl, hsz16⟩ := cons_of hsz15
    obtain ⟨x17, ll17, rfl, hsz17⟩ := cons_of hsz16
    obtain ⟨x18, ll18, rfl, hsz18⟩ := cons_of hsz17
    obtain ⟨x19, ll19, rfl, hsz19⟩ := cons_of hsz18
    obtain ⟨x20, ll20, rfl, hsz20⟩ := cons_of hsz19
    obtain ⟨x21, ll21, rfl, hsz21⟩ := cons_of hsz20
    obtain ⟨x22, ll22, rfl, hsz22⟩ := cons_of hsz21
    obtain ⟨x23, ll23, rfl, hsz23⟩ := cons_of hsz22
    obtain ⟨x24, ll24, rfl, hsz24⟩ := cons_of hsz23
    obtain ⟨x25, ll25, rfl, hsz25⟩ := cons_of hsz24
    obtain ⟨x26, ll26, rfl, hsz26⟩ := cons_of hsz25
    obtain ⟨x27, ll27, rfl, hsz27⟩ := cons_of hsz26
    obtain ⟨x28, ll28, rfl, hsz28⟩ := cons_of hsz27
    obtain ⟨x29, ll29, rfl, hsz29⟩ := cons_of hsz28
    obtain ⟨x30, ll30, rfl, hsz30⟩ := cons_of hsz29
    obtain ⟨x31, ll31, rfl, hsz31⟩ := cons_of hsz30
    obtain ⟨x32, ll32, rfl, hsz32⟩ := cons_of hsz31
    obtain ⟨x33, ll33, rfl, hsz33⟩ := cons_of hsz32
    obtain ⟨x34, ll34, rfl, hsz34⟩ := cons_of hsz33
    obtain ⟨x35, ll35, rfl, hsz35⟩ := cons_of hsz34
    obtain ⟨x36, ll36, rfl, hsz36⟩ := cons_of hsz35
    obtain rfl := List.eq_nil_of_length_eq_zero hsz36
    obtain rfl : x3 = .int .i64 r := hf.same 3 (by decide)
    obtain rfl : x4 = .pointer (some ⟨w.heap.size, 0, none⟩) := hf.same 4 (by decide)
    obtain rfl : x5 = .pointer (some ⟨w.heap.size + 1, 0, none⟩) := hf.same 5 (by decide)
    obtain rfl : x6 = .pointer (some ⟨w.heap.size + 2, 0, none⟩) := hf.same 6 (by decide)
    obtain rfl : x8 = .bool tb := hall 18 8 rfl
    obtain rfl : x10 = .pointer (some ⟨pF, 0, none⟩) := hf.same 10 (by decide)
    obtain rfl : x19 = .agg #[.int .i64 s, .int .i64 ww, .int .i64 t, .int .i64 en] := hall 0 19 rfl
    obtain rfl : x20 = .agg #[.slice A n c, .int .i64 S] := hall 1 20 rfl
    obtain rfl : x21 = .agg #[.int .i64 nn, .int .i64 de] := hall 2 21 rfl
    obtain rfl : x22 = .pointer (some ⟨w.heap.size + 1, 2, none⟩) := hall 3 22 rfl
    obtain rfl : x23 = .int .i64 st := hall 4 23 rfl
    obtain rfl : x24 = .agg #[.int .i64 st, .int .i64 1] := hall 5 24 rfl
    obtain rfl : x25 = .int .i64 c1 := hall 6 25 rfl
    obtain rfl : x26 = .bool true := hall 7 26 rfl
    obtain rfl : x27 = .bool true := hall 8 27 rfl
    obtain rfl : x28 = .agg #[.int .i64 gn, .int .i64 gd] := hall 9 28 rfl
    obtain rfl : x29 = .agg #[.int .i64 ab, .int .i64 gd] := hall 10 29 rfl
    obtain rfl : x30 = .pointer (some ⟨w.heap.size, 0, none⟩) := hall 11 30 rfl
    obtain rfl : x31 = .int .i64 s := hall 12 31 rfl
    obtain rfl : x32 = .int .i64 r := hall 13 32 rfl
    obtain rfl : x33 = .agg #[.int .i64 s, .int .i64 r] := hall 14 33 rfl
    obtain rfl : x34 = .int .i64 c2 := hall 15 34 rfl
    obtain rfl : x35 = .bool tb := hall 16 35 rfl
    obtain rfl : x36 = .bool tb := hall 17 36 rfl
    clear hall hf
    go_wp2
    go_ret
    exact ⟨rfl, HW2.out.trans (hb.mono HW2.out.size)⟩
end Go.Proofs.Ytablphoicidlkaa
