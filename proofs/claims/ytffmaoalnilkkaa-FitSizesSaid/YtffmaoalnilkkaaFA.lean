/- Fits: the mathematics of pieces, shares and least clearances. -/
import Derived.WalkKit
import Derived.Lib.Hide
import Derived.Maps.Own
import Derived.Maps.OwnOps
import Derived.Maps.OwnSet
import Derived.Maps.Views
namespace Go.Proofs.Ytffmaoalnilkkaa
open Go.RowKit

def outB (lo hi n : Int) : Bool := decide (n < lo) || decide (hi < n)
def allIn (lo hi : Int) (zs : List Int) : Bool := !(zs.any (outB lo hi))
theorem w64 {x : Int} (h : -9223372036854775808 ≤ x ∧ x ≤ 9223372036854775807) : wrap64 x = x := IntWalk.wrap64_in x h
theorem allIn_iff {lo hi : Int} {zs : List Int} : allIn lo hi zs = true ↔ ∀ n ∈ zs, lo ≤ n ∧ n ≤ hi := by
  unfold allIn outB
  rw [Bool.not_eq_true', List.any_eq_false]
  constructor
  · intro h n hn
    have := h n hn
    simp at this
    omega
  · intro h n hn
    have := h n hn
    simp
    omega
theorem allIn_one {lo hi n : Int} : allIn lo hi [n] = true ↔ lo ≤ n ∧ n ≤ hi := by rw [allIn_iff]; simp

/-! ### Movement -/
def millis (size rate f t : Int) : Int := size * (1000000 + rate * (min t 280 - min f 280))
structure Mov (size rate f t : Int) : Prop where
  s0 : 0 ≤ size
  s1 : size ≤ 600000
  r0 : 0 ≤ rate
  r1 : rate ≤ 2000
  f0 : 0 ≤ f
  f1 : f ≤ 400
  t0 : 0 ≤ t
  t1 : t ≤ 400
theorem mul_bd {a b A B : Int} (ha : 0 ≤ a) (hA : a ≤ A) (hb : -B ≤ b) (hB : b ≤ B) : -(A * B) ≤ a * b ∧ a * b ≤ A * B := by
  have hB0 : 0 ≤ B := by omega
  constructor
  · have h1 : a * (-B) ≤ a * b := Int.mul_le_mul_of_nonneg_left hb ha
    have h2 : a * B ≤ A * B := Int.mul_le_mul_of_nonneg_right hA hB0
    rw [Int.mul_neg] at h1; omega
  · have h1 : a * b ≤ a * B := Int.mul_le_mul_of_nonneg_left hB ha
    have h2 : a * B ≤ A * B := Int.mul_le_mul_of_nonneg_right hA hB0
    omega
theorem millis_wrap {size rate d : Int} (s0 : 0 ≤ size) (s1 : size ≤ 600000) (r0 : 0 ≤ rate) (r1 : rate ≤ 2000) (d0 : -280 ≤ d) (d1 : d ≤ 280) :
    wrap64 (size * wrap64 (1000000 + wrap64 (rate * wrap64 d))) = size * (1000000 + rate * d) := by
  have h1 := mul_bd r0 r1 d0 d1
  rw [w64 (x := d) (by omega), w64 (x := rate * d) (by omega), w64 (x := 1000000 + rate * d) (by omega)]
  have h2 := mul_bd (b := 1000000 + rate * d) (B := 1560280) s0 s1 (by omega) (by omega)
  exact w64 (by omega)
theorem millis_bd {size rate f t : Int} (h : Mov size rate f t) : 0 ≤ millis size rate f t ∧ millis size rate f t ≤ 1000000000000 := by
  obtain ⟨s0, s1, r0, r1, f0, f1, t0, t1⟩ := h
  unfold millis
  have h1 := mul_bd (b := min t 280 - min f 280) (B := 280) r0 r1 (by omega) (by omega)
  have h2 := mul_bd (b := 1000000 + rate * (min t 280 - min f 280)) (B := 1560280) s0 s1 (by omega) (by omega)
  have h3 := Int.mul_nonneg s0 (show 0 ≤ 1000000 + rate * (min t 280 - min f 280) by omega)
  omega
theorem millis_nat {size rate f t : Int} (h : Mov size rate f t) : ∃ p : Nat, millis size rate f t = (p : Int) ∧ p ≤ 1000000000000 := by
  have := millis_bd h
  exact ⟨(millis size rate f t).toNat, by omega, by omega⟩
theorem millis_mono_t {size rate f a b : Int} (s0 : 0 ≤ size) (r0 : 0 ≤ rate) (h : a ≤ b) : millis size rate f a ≤ millis size rate f b := by
  unfold millis
  refine Int.mul_le_mul_of_nonneg_left ?_ s0
  have : rate * (min a 280 - min f 280) ≤ rate * (min b 280 - min f 280) := Int.mul_le_mul_of_nonneg_left (by omega) r0
  omega

/-! ### Pieces -/
structure Md where
  s : Int
  r : Int
  m : Int
  g : Int
  lo : Int
  hi : Int
structure MdOk (x : Md) : Prop where
  s0 : 0 ≤ x.s
  s1 : x.s ≤ 600000
  r0 : 0 ≤ x.r
  r1 : x.r ≤ 2000
  m0 : 0 ≤ x.m
  m1 : x.m ≤ 400
  g0 : 0 ≤ x.g
  g1 : x.g ≤ 19
  l0 : 0 ≤ x.lo
  l1 : x.lo ≤ x.s
  h0 : 0 ≤ x.hi
  h1 : x.hi ≤ 600000 - x.s
def madeB (x : Md) : Bool := allIn 0 600000 [x.s] && (allIn 0 2000 [x.r] && (allIn 0 400 [x.m] && (allIn 0 19 [x.g] && (allIn 0 x.s [x.lo] && allIn 0 (600000 - x.s) [x.hi]))))
theorem madeB_iff {x : Md} : madeB x = true ↔ MdOk x := by
  unfold madeB
  simp only [Bool.and_eq_true, allIn_one]
  constructor
  · rintro ⟨⟨a, b⟩, ⟨c, d⟩, ⟨e, f⟩, ⟨g, h⟩, ⟨i, j⟩, k, l⟩
    exact ⟨a, b, c, d, e, f, g, h, i, j, k, l⟩
  · rintro ⟨a, b, c, d, e, f, g, h, i, j, k, l⟩
    exact ⟨⟨a, b⟩, ⟨c, d⟩, ⟨e, f⟩, ⟨g, h⟩, ⟨i, j⟩, k, l⟩
def lowM (x : Md) (t : Int) : Int := millis (x.s - x.lo) x.r x.m t
def hiM (x : Md) (t : Int) : Int := millis (x.s + x.hi) x.r x.m t
theorem mov_low {x : Md} (h : MdOk x) {t : Int} (t0 : 0 ≤ t) (t1 : t ≤ 400) : Mov (x.s - x.lo) x.r x.m t := by
  obtain ⟨a, b, c, d, e, f, g, h, i, j, k, l⟩ := h
  exact ⟨by omega, by omega, c, d, e, f, t0, t1⟩
theorem mov_hi {x : Md} (h : MdOk x) {t : Int} (t0 : 0 ≤ t) (t1 : t ≤ 400) : Mov (x.s + x.hi) x.r x.m t := by
  obtain ⟨a, b, c, d, e, f, g, h, i, j, k, l⟩ := h
  exact ⟨by omega, by omega, c, d, e, f, t0, t1⟩

/-! ### Sums -/
def sumL {α : Type} (f : α → Int) : List α → Int
  | [] => 0
  | x :: r => f x + sumL f r
theorem sumL_append {α : Type} (f : α → Int) : ∀ (a b : List α), sumL f (a ++ b) = sumL f a + sumL f b
  | [], b => by simp [sumL]
  | x :: r, b => by simp only [List.cons_append, sumL, sumL_append f r b]; omega
theorem sumL_one {α : Type} (f : α → Int) (x : α) : sumL f [x] = f x := by simp [sumL]
theorem sumL_take_succ {α : Type} (f : α → Int) (l : List α) {k : Nat} (h : k < l.length) : sumL f (l.take (k + 1)) = sumL f (l.take k) + f l[k] := by
  rw [List.take_succ_eq_append_getElem h, sumL_append, sumL_one]
theorem sumL_congr {α : Type} {f g : α → Int} : ∀ {l : List α}, (∀ x ∈ l, f x = g x) → sumL f l = sumL g l
  | [], _ => rfl
  | x :: r, h => by
    simp only [sumL]
    rw [h x (by simp), sumL_congr (fun y hy => h y (by simp [hy]))]
theorem sumL_bd {α : Type} {f : α → Int} {B : Int} : ∀ {l : List α}, (∀ x ∈ l, -B ≤ f x ∧ f x ≤ B) → -(B * l.length) ≤ sumL f l ∧ sumL f l ≤ B * l.length
  | [], _ => by simp [sumL]
  | x :: r, h => by
    have h1 := h x (by simp)
    have h2 := sumL_bd (l := r) (fun y hy => h y (by simp [hy]))
    simp only [sumL, List.length_cons, Int.natCast_add, Int.mul_add, Int.cast_ofNat_Int, Int.mul_one]
    omega
theorem sumL_perm {α : Type} (f : α → Int) {a b : List α} (h : a.Perm b) : sumL f a = sumL f b := by
  induction h with
  | nil => rfl
  | cons x _ ih => simp [sumL, ih]
  | swap x y l => simp only [sumL]; omega
  | trans _ _ h1 h2 => exact h1.trans h2

/-! ### Shares -/
def shO (t g : Int) (o : List Md) : Int := sumL (fun x => bif decide (x.g = g) then lowM x t else 0) o
def shI (t g : Int) (i : List Md) : Int := sumL (fun x => bif decide (x.g = g) then hiM x t else 0) i
/-- What the pieces of a group add to the least clearance at a moisture. -/
def share (t : Int) (o i : List Md) (g : Int) : Int := shO t g o - shI t g i
def hasG (l : List Md) (g : Int) : Bool := l.any fun x => decide (x.g = g)
theorem shO_snoc (t g : Int) (o : List Md) (x : Md) : shO t g (o ++ [x]) = shO t g o + (bif decide (x.g = g) then lowM x t else 0) := by
  unfold shO; rw [sumL_append, sumL_one]
theorem shI_snoc (t g : Int) (o : List Md) (x : Md) : shI t g (o ++ [x]) = shI t g o + (bif decide (x.g = g) then hiM x t else 0) := by
  unfold shI; rw [sumL_append, sumL_one]
theorem hasG_snoc (l : List Md) (x : Md) (g : Int) : hasG (l ++ [x]) g = (hasG l g || decide (x.g = g)) := by
  unfold hasG; simp
theorem shO_bd {t g : Int} {o : List Md} (h : ∀ x ∈ o, MdOk x) (t0 : 0 ≤ t) (t1 : t ≤ 400) (hl : o.length ≤ 20) : 0 ≤ shO t g o ∧ shO t g o ≤ 20000000000000 := by
  unfold shO
  have key : ∀ l : List Md, (∀ x ∈ l, MdOk x) → 0 ≤ sumL (fun x => bif decide (x.g = g) then lowM x t else 0) l ∧ sumL (fun x => bif decide (x.g = g) then lowM x t else 0) l ≤ 1000000000000 * l.length := by
    intro l
    induction l with
    | nil => intro _; simp [sumL]
    | cons x r ih =>
      intro hx
      have h1 := ih (fun y hy => hx y (by simp [hy]))
      have h2 : 0 ≤ lowM x t ∧ lowM x t ≤ 1000000000000 := millis_bd (mov_low (hx x (by simp)) t0 t1)
      simp only [sumL, List.length_cons, Int.natCast_add, Int.mul_add, Int.cast_ofNat_Int, Int.mul_one]
      cases decide (x.g = g) <;> simp only [cond_true, cond_false] <;> omega
  have := key o h
  omega
theorem shI_bd {t g : Int} {o : List Md} (h : ∀ x ∈ o, MdOk x) (t0 : 0 ≤ t) (t1 : t ≤ 400) (hl : o.length ≤ 20) : 0 ≤ shI t g o ∧ shI t g o ≤ 20000000000000 := by
  unfold shI
  have key : ∀ l : List Md, (∀ x ∈ l, MdOk x) → 0 ≤ sumL (fun x => bif decide (x.g = g) then hiM x t else 0) l ∧ sumL (fun x => bif decide (x.g = g) then hiM x t else 0) l ≤ 1000000000000 * l.length := by
    intro l
    induction l with
    | nil => intro _; simp [sumL]
    | cons x r ih =>
      intro hx
      have h1 := ih (fun y hy => hx y (by simp [hy]))
      have h2 : 0 ≤ hiM x t ∧ hiM x t ≤ 1000000000000 := millis_bd (mov_hi (hx x (by simp)) t0 t1)
      simp only [sumL, List.length_cons, Int.natCast_add, Int.mul_add, Int.cast_ofNat_Int, Int.mul_one]
      cases decide (x.g = g) <;> simp only [cond_true, cond_false] <;> omega
  have := key o h
  omega
theorem share_bd {t g : Int} {o i : List Md} (ho : ∀ x ∈ o, MdOk x) (hi : ∀ x ∈ i, MdOk x) (t0 : 0 ≤ t) (t1 : t ≤ 400) (hl : o.length ≤ 20) (hl' : i.length ≤ 20) : -20000000000000 ≤ share t o i g ∧ share t o i g ≤ 20000000000000 := by
  have h1 := shO_bd (g := g) ho t0 t1 hl
  have h2 := shI_bd (g := g) hi t0 t1 hl'
  unfold share
  omega

/-! ### Maps of numbers, as ghosts -/
def intL (g : Int) : Lit := .int .i64 g
theorem intL_inj {a b : Int} (h : intL a = intL b) : a = b := by unfold intL at h; injection h
theorem intL_isKey (g : Int) : WideAt.IsKeyLit (intL g) := by unfold intL; simp [WideAt.IsKeyLit]
/-- The map of the shares. -/
structure SharesOf (D : DataW Unit) (mo : Int → Int) (o i : List Md) : Prop where
  isMap : Maps.IsMap D
  has : ∀ g, Maps.has D (intL g) = (hasG o g || hasG i g)
  at_ : ∀ g, D.atKey (intL g) (.lit (.int .i64 0)) = .lit (.int .i64 (share (mo g) o i g))
theorem sharesOf_nil (mo : Int → Int) : SharesOf (.map []) mo [] [] := ⟨Maps.isMap_empty, fun g => by simp [Maps.has, hasG], fun g => by simp [DataW.atKey, share, shO, shI, sumL]⟩
theorem SharesOf.outer {D : DataW Unit} {mo : Int → Int} {o i : List Md} (h : SharesOf D mo o i) (x : Md) {v : Int} (hv : v = share (mo x.g) o i x.g + lowM x (mo x.g)) :
    SharesOf (D.put (intL x.g) (.lit (.int .i64 v))) mo (o ++ [x]) i := by
  refine ⟨h.isMap.put _ _, fun g => ?_, fun g => ?_⟩
  · by_cases e : g = x.g
    · subst e
      rw [Maps.has_put_same h.isMap (intL_isKey _), hasG_snoc]
      simp
    · rw [Maps.has_put_other (fun c => e (intL_inj c)), h.has g, hasG_snoc]
      simp [Ne.symm e]
  · by_cases e : g = x.g
    · subst e
      rw [Maps.atKey_put_same h.isMap (intL_isKey _), hv]
      unfold share
      rw [shO_snoc]
      simp only [decide_true, cond_true]
      congr 2
      omega
    · rw [Maps.atKey_put_other (fun c => e (intL_inj c)), h.at_ g]
      unfold share
      rw [shO_snoc]
      simp [Ne.symm e]
theorem SharesOf.inner {D : DataW Unit} {mo : Int → Int} {o i : List Md} (h : SharesOf D mo o i) (x : Md) {v : Int} (hv : v = share (mo x.g) o i x.g - hiM x (mo x.g)) :
    SharesOf (D.put (intL x.g) (.lit (.int .i64 v))) mo o (i ++ [x]) := by
  refine ⟨h.isMap.put _ _, fun g => ?_, fun g => ?_⟩
  · by_cases e : g = x.g
    · subst e
      rw [Maps.has_put_same h.isMap (intL_isKey _), hasG_snoc]
      simp
    · rw [Maps.has_put_other (fun c => e (intL_inj c)), h.has g, hasG_snoc]
      simp [Ne.symm e]
  · by_cases e : g = x.g
    · subst e
      rw [Maps.atKey_put_same h.isMap (intL_isKey _), hv]
      unfold share
      rw [shI_snoc]
      simp only [decide_true, cond_true]
      congr 2
      omega
    · rw [Maps.atKey_put_other (fun c => e (intL_inj c)), h.at_ g]
      unfold share
      rw [shI_snoc]
      simp [Ne.symm e]
/-- The set of the groups. -/
structure GroupsOf (D : DataW Unit) (l : List Md) : Prop where
  isMap : Maps.IsMap D
  has : ∀ g, Maps.has D (intL g) = hasG l g
theorem groupsOf_nil : GroupsOf (.map []) [] := ⟨Maps.isMap_empty, fun g => by simp [Maps.has, hasG]⟩
theorem GroupsOf.snoc {D : DataW Unit} {l : List Md} (h : GroupsOf D l) (x : Md) (v : DataW Unit) : GroupsOf (D.put (intL x.g) v) (l ++ [x]) := by
  refine ⟨h.isMap.put _ _, fun g => ?_⟩
  by_cases e : g = x.g
  · subst e
    rw [Maps.has_put_same h.isMap (intL_isKey _), hasG_snoc]
    simp
  · rw [Maps.has_put_other (fun c => e (intL_inj c)), h.has g, hasG_snoc]
    simp [Ne.symm e]

/-! ### Groups, and the least clearance of a season -/
def gsOf (l : List Md) : List Int := ((List.range 20).map Int.ofNat).filter (hasG l)
/-- What a group adds to the least clearance of a season. -/
def lowG (o i : List Md) (lo hi g : Int) : Int := bif decide (share hi o i g < share lo o i g) then share hi o i g else share lo o i g
def leastS (o i : List Md) (lo hi : Int) : Int := sumL (lowG o i lo hi) (gsOf (o ++ i))
def moistS (o i : List Md) (lo hi : Int) : List Int := (gsOf (o ++ i)).map fun g => bif decide (share hi o i g < share lo o i g) then hi else lo
theorem gsOf_length (l : List Md) : (gsOf l).length ≤ 20 := by
  unfold gsOf
  refine Nat.le_trans (List.length_filter_le _ _) ?_
  simp
end Go.Proofs.Ytffmaoalnilkkaa
