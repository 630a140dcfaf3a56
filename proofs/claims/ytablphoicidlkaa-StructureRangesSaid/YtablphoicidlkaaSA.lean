/- Beams: bounds of numbers, fractions in lowest terms, the mathematics of forces and sags. -/
import Derived.WalkKit
import Derived.Lib.Hide
namespace Go.Proofs.Ytablphoicidlkaa
open Go.RowKit

/-! ### Bounds -/
theorem w64 {x : Int} (h : -9223372036854775808 ≤ x ∧ x ≤ 9223372036854775807) : wrap64 x = x := IntWalk.wrap64_in x h
/-- The number x is y, and not greater in size than N. -/
structure Ev (x y : Int) (N : Nat) : Prop where
  e : x = y
  h : y.natAbs ≤ N
theorem Ev.wrap {x y : Int} {N : Nat} (h : Ev x y N) (hN : Nat.ble N 9223372036854775807 = true) : Ev (wrap64 x) y N := by
  have h1 := Nat.le_of_ble_eq_true hN
  have h2 := h.h
  refine ⟨?_, h.h⟩
  rw [h.e]
  exact w64 (by omega)
theorem Ev.lit (x : Int) : Ev x x x.natAbs := ⟨rfl, Nat.le_refl _⟩
theorem Ev.of {x : Int} {N : Nat} (h : x.natAbs ≤ N) : Ev x x N := ⟨rfl, h⟩
theorem Ev.mul {a b a' b' : Int} {A B : Nat} (ha : Ev a a' A) (hb : Ev b b' B) : Ev (a * b) (a' * b') (A * B) :=
  ⟨by rw [ha.e, hb.e], by rw [Int.natAbs_mul]; exact Nat.mul_le_mul ha.h hb.h⟩
theorem Ev.add {a b a' b' : Int} {A B : Nat} (ha : Ev a a' A) (hb : Ev b b' B) : Ev (a + b) (a' + b') (A + B) :=
  ⟨by rw [ha.e, hb.e], by have := ha.h; have := hb.h; omega⟩
theorem Ev.sub {a b a' b' : Int} {A B : Nat} (ha : Ev a a' A) (hb : Ev b b' B) : Ev (a - b) (a' - b') (A + B) :=
  ⟨by rw [ha.e, hb.e], by have := ha.h; have := hb.h; omega⟩
theorem Ev.neg {a a' : Int} {A : Nat} (ha : Ev a a' A) : Ev (-a) (-a') A :=
  ⟨by rw [ha.e], by have := ha.h; omega⟩
theorem Ev.bd {x y : Int} {N : Nat} (h : Ev x y N) {M : Nat} (hN : Nat.ble N M = true) : y.natAbs ≤ M := Nat.le_trans h.h (Nat.le_of_ble_eq_true hN)
theorem wrap_add_l (a b : Int) : wrap64 (wrap64 a + b) = wrap64 (a + b) := by
  unfold wrap64
  omega
theorem wrap_add_r (a b : Int) : wrap64 (a + wrap64 b) = wrap64 (a + b) := by
  rw [Int.add_comm, wrap_add_l, Int.add_comm]

/-! ### Ranges -/
def outB (lo hi n : Int) : Bool := decide (n < lo) || decide (hi < n)
def allIn (lo hi : Int) (zs : List Int) : Bool := !(zs.any (outB lo hi))
theorem allIn_iff {lo hi : Int} {zs : List Int} : allIn lo hi zs = true ↔ ∀ n ∈ zs, lo ≤ n ∧ n ≤ hi := by
  unfold allIn outB
  rw [Bool.not_eq_true', List.any_eq_false]
  constructor
  · intro h n hn
    have := h n hn
    simp at this
    omega
  · intro h n hn
    have := h n hn
    simp
    omega
theorem allIn_one {lo hi n : Int} : allIn lo hi [n] = true ↔ lo ≤ n ∧ n ≤ hi := by rw [allIn_iff]; simp
def rngE (lo hi : Int) (zs : List Int) : Int := bif allIn lo hi zs then 0 else 2
theorem rngE_ok {lo hi : Int} {zs : List Int} : rngE lo hi zs = 0 ↔ ∀ n ∈ zs, lo ≤ n ∧ n ≤ hi := by
  rw [← allIn_iff]
  unfold rngE
  cases allIn lo hi zs <;> simp
theorem rngE_two {lo hi : Int} {zs : List Int} : rngE lo hi zs = 0 ∨ rngE lo hi zs = 2 := by
  unfold rngE
  cases allIn lo hi zs <;> simp
def firstE : List Int → Int
  | [] => 0
  | x :: r => bif x == 0 then firstE r else x
theorem firstE_ok : ∀ {l : List Int}, firstE l = 0 ↔ ∀ x ∈ l, x = 0
  | [] => by simp [firstE]
  | x :: r => by
    unfold firstE
    by_cases h : x = 0
    · subst h; simp [firstE_ok (l := r)]
    · have e : (x == 0) = false := by simpa using h
      rw [e, cond_false]
      simp [h]
theorem firstE_cons (x : Int) (r : List Int) : firstE (x :: r) = bif x == 0 then firstE r else x := rfl
theorem firstE_in : ∀ {l : List Int}, firstE l ≠ 0 → firstE l ∈ l
  | [], h => absurd rfl h
  | x :: r, h => by
    unfold firstE at h ⊢
    by_cases h0 : x = 0
    · subst h0
      simp only [beq_self_eq_true, cond_true] at h ⊢
      exact List.mem_cons_of_mem _ (firstE_in h)
    · have e : (x == 0) = false := by simpa using h0
      rw [e, cond_false]
      exact List.mem_cons_self ..
/-- An error of a list each of whose numbers is 0 or 2 is 0 or 2. -/
theorem firstE_two {l : List Int} (h : ∀ x ∈ l, x = 0 ∨ x = 2) : firstE l = 0 ∨ firstE l = 2 := by
  by_cases h0 : firstE l = 0
  · exact .inl h0
  · rcases h _ (firstE_in h0) with e | e
    · exact absurd e h0
    · exact .inr e

/-! ### Sums -/
def sumL {α : Type} (f : α → Int) : List α → Int
  | [] => 0
  | x :: r => f x + sumL f r
theorem sumL_append {α : Type} (f : α → Int) : ∀ (a b : List α), sumL f (a ++ b) = sumL f a + sumL f b
  | [], b => by simp [sumL]
  | x :: r, b => by simp only [List.cons_append, sumL, sumL_append f r b]; omega
theorem sumL_one {α : Type} (f : α → Int) (x : α) : sumL f [x] = f x := by simp [sumL]
theorem sumL_take_succ {α : Type} (f : α → Int) (l : List α) {k : Nat} (h : k < l.length) : sumL f (l.take (k + 1)) = sumL f (l.take k) + f l[k] := by
  rw [List.take_succ_eq_append_getElem h, sumL_append, sumL_one]
theorem sumL_congr {α : Type} {f g : α → Int} : ∀ {l : List α}, (∀ x ∈ l, f x = g x) → sumL f l = sumL g l
  | [], _ => rfl
  | x :: r, h => by
    show f x + sumL f r = g x + sumL g r
    rw [h x (List.mem_cons_self ..), sumL_congr fun y hy => h y (List.mem_cons_of_mem _ hy)]
theorem sumL_bd {α : Type} {f : α → Int} {B : Nat} : ∀ {l : List α}, (∀ x ∈ l, (f x).natAbs ≤ B) → (sumL f l).natAbs ≤ l.length * B
  | [], _ => by simp [sumL]
  | x :: r, h => by
    have h1 := h x (List.mem_cons_self ..)
    have h2 := sumL_bd (l := r) fun y hy => h y (List.mem_cons_of_mem _ hy)
    show (f x + sumL f r).natAbs ≤ (r.length + 1) * B
    rw [Nat.add_mul]
    omega
theorem sumL_bd8 {α : Type} {f : α → Int} {B : Nat} {l : List α} (hl : l.length ≤ 8) (h : ∀ x ∈ l, (f x).natAbs ≤ B) : (sumL f l).natAbs ≤ 8 * B :=
  Nat.le_trans (sumL_bd h) (Nat.mul_le_mul_right B hl)
theorem sumL_map {α : Type} (f : α → Int) : ∀ (l : List α), sumL id (l.map f) = sumL f l
  | [] => rfl
  | x :: r => by show f x + _ = f x + _; rw [sumL_map f r]

/-! ### Fractions in lowest terms -/
def absI (n : Int) : Int := (n.natAbs : Int)
theorem absI_neg {n : Int} (h : n < 0) : absI n = -n := by unfold absI; omega
theorem absI_nn {n : Int} (h : 0 ≤ n) : absI n = n := by unfold absI; omega
def lowG (n d : Int) : Nat := Nat.gcd n.natAbs d.natAbs
def lowN (n d : Int) : Int := n.tdiv (lowG n d)
def lowD (n d : Int) : Int := d.tdiv (lowG n d)
theorem lowG_pos {n d : Int} (h : 0 < d) : 0 < lowG n d := Nat.gcd_pos_of_pos_right _ (by omega)
theorem lowG_le {n d : Int} (h : 0 < d) : (lowG n d : Int) ≤ d := by
  have := Nat.gcd_le_right n.natAbs (n := d.natAbs) (by omega)
  unfold lowG
  omega
theorem lowG_dvd_n (n d : Int) : (lowG n d : Int) ∣ n := Int.ofNat_dvd_left.2 (Nat.gcd_dvd_left _ _)
theorem lowG_dvd_d (n d : Int) : (lowG n d : Int) ∣ d := Int.ofNat_dvd_left.2 (Nat.gcd_dvd_right _ _)
theorem lowN_mul (n d : Int) : lowN n d * lowG n d = n := Int.tdiv_mul_cancel (lowG_dvd_n n d)
theorem lowD_mul (n d : Int) : lowD n d * lowG n d = d := Int.tdiv_mul_cancel (lowG_dvd_d n d)
theorem lowD_pos {n d : Int} (h : 0 < d) : 0 < lowD n d := by
  have h1 := lowD_mul n d
  have h2 : (0 : Int) < lowG n d := by have := lowG_pos (n := n) h; omega
  rcases Int.lt_or_le 0 (lowD n d) with h3 | h3
  · exact h3
  · have := Int.mul_nonpos_of_nonpos_of_nonneg h3 (Int.le_of_lt h2)
    omega
theorem lowD_le {n d : Int} (h : 0 < d) : lowD n d ≤ d := by
  have h1 := lowD_mul n d
  have h2 : (1 : Int) ≤ lowG n d := by have := lowG_pos (n := n) h; omega
  have h3 := Int.mul_le_mul_of_nonneg_left h2 (Int.le_of_lt (lowD_pos (n := n) h))
  omega
theorem lowN_bd {n d : Int} (h : 0 < d) : (lowN n d).natAbs ≤ n.natAbs := by
  have h1 := congrArg Int.natAbs (lowN_mul n d)
  rw [Int.natAbs_mul] at h1
  have h2 := lowG_pos (n := n) h
  have h3 : (lowN n d).natAbs * 1 ≤ (lowN n d).natAbs * (lowG n d : Int).natAbs := Nat.mul_le_mul_left _ (by omega)
  omega
/-- A common factor changes nothing. -/
theorem low_scale {n d k : Int} (hk : 0 < k) (hd : 0 < d) : lowN (n * k) (d * k) = lowN n d ∧ lowD (n * k) (d * k) = lowD n d := by
  have hg : (lowG (n * k) (d * k) : Int) = lowG n d * k := by
    unfold lowG
    rw [Int.natAbs_mul, Int.natAbs_mul, Nat.gcd_mul_right]
    rw [Int.natCast_mul, Int.natAbs_of_nonneg (Int.le_of_lt hk)]
  have h0 : (0 : Int) < lowG n d := by have := lowG_pos (n := n) hd; omega
  have hz : (lowG n d : Int) * k ≠ 0 := by
    have := Int.mul_pos h0 hk
    omega
  constructor
  · have h1 := lowN_mul (n * k) (d * k)
    have h2 := lowN_mul n d
    rw [hg] at h1
    have : lowN (n * k) (d * k) * (lowG n d * k) = lowN n d * (lowG n d * k) := by rw [h1, ← Int.mul_assoc, h2]
    exact Int.eq_of_mul_eq_mul_right hz this
  · have h1 := lowD_mul (n * k) (d * k)
    have h2 := lowD_mul n d
    rw [hg] at h1
    have : lowD (n * k) (d * k) * (lowG n d * k) = lowD n d * (lowG n d * k) := by rw [h1, ← Int.mul_assoc, h2]
    exact Int.eq_of_mul_eq_mul_right hz this
/-- The value of a fraction. -/
def frV (n d : Int) : Value := .agg #[.int .i64 (lowN n d), .int .i64 (lowD n d)]
theorem frV_scale {n d k : Int} (hk : 0 < k) (hd : 0 < d) : frV (n * k) (d * k) = frV n d := by
  obtain ⟨h1, h2⟩ := low_scale (n := n) hk hd
  unfold frV
  rw [h1, h2]

/-! ### Beams and burdens -/
structure Bm where
  s : Int
  w : Int
  t : Int
  e : Int
structure Pt where
  a : Int
  n : Int
structure BmOk (b : Bm) : Prop where
  s0 : 1 ≤ b.s
  s1 : b.s ≤ 2000
  w0 : 1 ≤ b.w
  w1 : b.w ≤ 1000
  t0 : 1 ≤ b.t
  t1 : b.t ≤ 300
  e0 : b.e = 0 ∨ b.e = 1
def beamE (b : Bm) : Int := firstE [rngE 1 2000 [b.s], rngE 1 1000 [b.w], rngE 1 300 [b.t], rngE 0 1 [b.e]]
theorem beamE_ok {b : Bm} : beamE b = 0 ↔ BmOk b := by
  unfold beamE
  rw [firstE_ok]
  simp only [List.mem_cons, List.not_mem_nil, or_false, forall_eq_or_imp, forall_eq, rngE_ok]
  constructor
  · rintro ⟨⟨a, b⟩, ⟨c, d⟩, ⟨e, f⟩, g, h⟩
    exact ⟨a, b, c, d, e, f, by omega⟩
  · rintro ⟨a, b, c, d, e, f, g⟩
    exact ⟨⟨a, b⟩, ⟨c, d⟩, ⟨e, f⟩, by omega, by omega⟩
theorem beamE_two (b : Bm) : beamE b = 0 ∨ beamE b = 2 := by
  unfold beamE
  refine firstE_two fun x hx => ?_
  simp only [List.mem_cons, List.not_mem_nil, or_false] at hx
  rcases hx with rfl | rfl | rfl | rfl <;> exact rngE_two
/-- The error of a weight at a place. -/
def ptE (span : Int) (p : Pt) : Int := firstE [rngE 0 span [p.a], rngE (-2000) 2000 [p.n]]
structure PtOk (span : Int) (p : Pt) : Prop where
  a0 : 0 ≤ p.a
  a1 : p.a ≤ span
  n0 : -2000 ≤ p.n
  n1 : p.n ≤ 2000
theorem ptE_ok {span : Int} {p : Pt} : ptE span p = 0 ↔ PtOk span p := by
  unfold ptE
  rw [firstE_ok]
  simp only [List.mem_cons, List.not_mem_nil, or_false, forall_eq_or_imp, forall_eq, rngE_ok]
  constructor
  · rintro ⟨⟨a, b⟩, c, d⟩
    exact ⟨a, b, c, d⟩
  · rintro ⟨a, b, c, d⟩
    exact ⟨⟨a, b⟩, c, d⟩
theorem ptE_two (span : Int) (p : Pt) : ptE span p = 0 ∨ ptE span p = 2 := by
  unfold ptE
  refine firstE_two fun x hx => ?_
  simp only [List.mem_cons, List.not_mem_nil, or_false] at hx
  rcases hx with rfl | rfl <;> exact rngE_two
def ptsE (span : Int) (l : List Pt) : Int := bif l.any (fun p => ptE span p != 0) then 2 else 0
def wtsE (span : Int) (l : List Pt) (S : Int) : Int := bif decide (8 < l.length) then 8 else bif l.any (fun p => ptE span p != 0) then 2 else rngE (-20000) 20000 [S]
structure WtOk (span : Int) (l : List Pt) (S : Int) : Prop where
  len : l.length ≤ 8
  pt : ∀ p ∈ l, PtOk span p
  S0 : -20000 ≤ S
  S1 : S ≤ 20000
theorem wtsE_ok {span S : Int} {l : List Pt} : wtsE span l S = 0 ↔ WtOk span l S := by
  unfold wtsE
  constructor
  · intro h
    cases h1 : decide (8 < l.length)
    · rw [h1, cond_false] at h
      cases h2 : l.any (fun p => ptE span p != 0)
      · rw [h2, cond_false] at h
        have h3 := rngE_ok.1 h S (List.mem_cons_self ..)
        rw [List.any_eq_false] at h2
        exact ⟨by have := of_decide_eq_false h1; omega, fun p hp => ptE_ok.1 (by have := h2 p hp; simpa using this), h3.1, h3.2⟩
      · rw [h2] at h; cases h
    · rw [h1] at h; cases h
  · rintro ⟨h1, h2, h3, h4⟩
    have e1 : decide (8 < l.length) = false := decide_eq_false (by omega)
    have e2 : l.any (fun p => ptE span p != 0) = false := by
      rw [List.any_eq_false]
      intro p hp
      simp [ptE_ok.2 (h2 p hp)]
    rw [e1, e2, cond_false, cond_false, rngE_ok]
    intro n hn
    simp only [List.mem_cons, List.not_mem_nil, or_false] at hn
    subst hn
    exact ⟨h3, h4⟩
def burE (b : Bm) (l : List Pt) (S : Int) : Int := firstE [beamE b, wtsE b.s l S]
theorem burE_ok {b : Bm} {l : List Pt} {S : Int} : burE b l S = 0 ↔ BmOk b ∧ WtOk b.s l S := by
  unfold burE
  rw [firstE_ok]
  simp only [List.mem_cons, List.not_mem_nil, or_false, forall_eq_or_imp, forall_eq, beamE_ok, wtsE_ok]

/-! ### Forces -/
def ptR (b : Bm) (p : Pt) : Int := bif b.e == 1 then 2 * b.s * p.n else 2 * p.n * (b.s - p.a)
def ptQ (b : Bm) (p : Pt) : Int := bif b.e == 1 then 0 else 2 * p.n * p.a
def ptM (b : Bm) (p : Pt) : Int := bif b.e == 1 then -2 * b.s * p.n * p.a else 0
def spR (b : Bm) (S : Int) : Int := bif b.e == 1 then 2 * b.s * S else S * b.s
def spQ (b : Bm) (S : Int) : Int := bif b.e == 1 then 0 else S * b.s
def spM (b : Bm) (S : Int) : Int := bif b.e == 1 then -S * b.s * b.s else 0
def frR (b : Bm) (l : List Pt) (S : Int) : Int := spR b S + sumL (ptR b) l
def frQ (b : Bm) (l : List Pt) (S : Int) : Int := spQ b S + sumL (ptQ b) l
def frM (b : Bm) (l : List Pt) (S : Int) : Int := spM b S + sumL (ptM b) l
/-- What a weight takes off the moment at x, and off the shear force. -/
def cutM (b : Bm) (x : Int) (p : Pt) : Int := bif decide (p.a ≤ x) then -2 * b.s * p.n * (x - p.a) else 0
def cutV (b : Bm) (x : Int) (p : Pt) : Int := bif decide (p.a ≤ x) then -2 * b.s * p.n else 0
def mom (b : Bm) (l : List Pt) (S x : Int) : Int := frM b l S + frR b l S * x + -S * x * x + sumL (cutM b x) l
def shr (b : Bm) (l : List Pt) (S x : Int) : Int := frR b l S + -2 * S * x + sumL (cutV b x) l

/-! ### Sags -/
def sgP (b : Bm) (a n x : Int) : Int := bif b.e == 1 then 4 * b.s * n * x * x * (3 * a - x) else 4 * n * (b.s - a) * x * (b.s * b.s - (b.s - a) * (b.s - a) - x * x)
def ptS (b : Bm) (x : Int) (p : Pt) : Int := bif decide (p.a < x) then sgP b x p.n p.a else sgP b p.a p.n x
def spS (b : Bm) (S x : Int) : Int := bif b.e == 1 then S * x * x * (x * x - 4 * b.s * x + 6 * b.s * b.s) else S * x * (b.s * b.s * b.s - 2 * b.s * x * x + x * x * x)
def sag (b : Bm) (l : List Pt) (S x : Int) : Int := spS b S x + sumL (ptS b x) l
def sgD (b : Bm) (E : Int) : Int := 2 * b.s * E * b.w * b.t * b.t * b.t

/-! ### The greatest one of some numbers -/
def grP (g : Nat → Int) : Nat → Nat × Int
  | 0 => (0, 0)
  | n + 1 => match grP g n with
    | (p, m) => bif decide (absI m < absI (g n)) then (n, g n) else (p, m)
theorem grP_succ_lt {g : Nat → Int} {n p : Nat} {m : Int} (h : grP g n = (p, m)) (hl : absI m < absI (g n)) : grP g (n + 1) = (n, g n) := by
  show (match grP g n with | (p, m) => bif decide (absI m < absI (g n)) then (n, g n) else (p, m)) = _
  rw [h]
  simp [hl]
theorem grP_succ_ge {g : Nat → Int} {n p : Nat} {m : Int} (h : grP g n = (p, m)) (hl : ¬ absI m < absI (g n)) : grP g (n + 1) = (p, m) := by
  show (match grP g n with | (p, m) => bif decide (absI m < absI (g n)) then (n, g n) else (p, m)) = _
  rw [h]
  simp [hl]
theorem grP_bd {g : Nat → Int} {B N : Nat} (h : ∀ n, n < N → (g n).natAbs ≤ B) : ∀ {n : Nat}, n ≤ N → (grP g n).1 ≤ N ∧ (grP g n).2.natAbs ≤ B
  | 0, _ => by simp [grP]
  | n + 1, hn => by
    have ih := grP_bd h (n := n) (by omega)
    rcases e : grP g n with ⟨p, m⟩
    rw [e] at ih
    by_cases hl : absI m < absI (g n)
    · rw [grP_succ_lt e hl]; exact ⟨by simp; omega, h n (by omega)⟩
    · rw [grP_succ_ge e hl]; exact ih
end Go.Proofs.Ytablphoicidlkaa
