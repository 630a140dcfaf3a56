/- Walks over the timber seat: greatest common divisors, exact sizes. -/
import Derived.Test.YtnjbhidncicfiaaW5
import Derived.RegionTactic
namespace Go.Proofs.Ytnjbhidncicfiaa
open Go.RowKit

def GcdOut (a b : Nat) (w : World) (e : Ending) (w' : World) : Prop := e = .returned (.int .i64 (Nat.gcd a b : Int)) ∧ ∃ n, w' = w.drewN n
set_option maxHeartbeats 400000 in
theorem gcd_any (a b : Nat) (ha : a ≤ 1000000000000) (hb : b ≤ 1000000000000) (w : World) :
    Calls Try.prog 83 #[.int .i64 a, .int .i64 b] w (GcdOut a b w) := by
  have HA := Lib.hid ha; have HB := Lib.hid hb
  clear ha hb
  go_enter Try.func83, Try.ntmps83
  go_wp2
  go_loopw [0, 1] (fun p q wr => ∃ x y n : Nat, x ≤ 1000000000000 ∧ y ≤ 1000000000000 ∧ Nat.gcd x y = Nat.gcd a b ∧ p = .int .i64 x ∧ q = .int .i64 y ∧ wr = w.drewN n) (fun _ q _ => (intOf q).toNat)
  case atStart => exact ⟨a, b, 0, HA.out, HB.out, rfl, rfl, rfl, rfl⟩
  case round =>
    obtain ⟨x, y, n, hx, hy, hg, rfl, rfl, rfl⟩ := hrel
    have HG := Lib.hid hg
    clear hg
    by_cases h0 : y = 0
    · subst h0
      go_wp2
      go_ret
      exact ⟨ret_int (by rw [← HG.out]; simp), n, rfl⟩
    · have hne : ((y : Int) == 0) = false := by simp; omega
      have hne' : ((y : Int) != 0) = true := by simp; omega
      have ht : (x : Int).tmod (y : Int) = ((x % y : Nat) : Int) := rfl
      have HLT := Lib.hid (Nat.mod_lt x (Nat.pos_of_ne_zero h0))
      have HGR := Lib.hid (Nat.gcd_rec y x)
      have hpos := Lib.hid (Nat.pos_of_ne_zero h0)
      go_wp2
      go_region
      go_wp2
      go_roundw
      case rel => exact ⟨y, x % y, n + 1, hy, by have := HLT.out; omega, by rw [← HG.out, Nat.gcd_comm y, Nat.gcd_comm x y]; exact (Nat.gcd_rec y x).symm, rfl, by simp, rfl⟩
      case measure => have := HLT.out; simp [intOf]; omega
set_option maxHeartbeats 400000 in
theorem abs_nat (n : Nat) (_hn : n ≤ 1000000000000) (w : World) : Calls Try.prog 108 #[.int .i64 n] w fun e w' => e = .returned (.int .i64 n) ∧ w = w' := by
  go_enter Try.func108, Try.ntmps108
  go_wp2
  go_ret
  exact ⟨rfl, rfl⟩
set_option maxHeartbeats 400000 in
theorem rgcd_any (a b : Nat) (ha : a ≤ 1000000000000) (hb : b ≤ 1000000000000) (w : World) :
    Calls Try.prog 116 #[.int .i64 a, .int .i64 b] w (GcdOut a b w) := by
  have HA := Lib.hid ha; have HB := Lib.hid hb
  clear ha hb
  go_enter Try.func116, Try.ntmps116
  go_wp2_with (go_at_call 108; (first | (with_reducible refine (abs_nat a HA.out _).mono ?_) | (with_reducible refine (abs_nat b HB.out _).mono ?_)); rintro e w' ⟨rfl, rfl⟩)
  go_loopw [0, 1] (fun p q wr => ∃ x y n : Nat, x ≤ 1000000000000 ∧ y ≤ 1000000000000 ∧ Nat.gcd x y = Nat.gcd a b ∧ p = .int .i64 x ∧ q = .int .i64 y ∧ wr = w.drewN n) (fun _ q _ => (intOf q).toNat)
  case atStart => exact ⟨a, b, 0, HA.out, HB.out, rfl, rfl, rfl, rfl⟩
  case round =>
    obtain ⟨x, y, n, hx, hy, hg, rfl, rfl, rfl⟩ := hrel
    have HG := Lib.hid hg
    clear hg
    by_cases h0 : y = 0
    · subst h0
      go_wp2
      go_ret
      exact ⟨ret_int (by rw [← HG.out]; simp), n, rfl⟩
    · have hne : ((y : Int) == 0) = false := by simp; omega
      have ht : (x : Int).tmod (y : Int) = ((x % y : Nat) : Int) := rfl
      have HLT := Lib.hid (Nat.mod_lt x (Nat.pos_of_ne_zero h0))
      have hp : 0 < y := Nat.pos_of_ne_zero h0
      go_wp2
      go_region
      go_wp2
      go_roundw
      case rel => exact ⟨y, x % y, n + 1, hy, by have := HLT.out; omega, by rw [← HG.out, Nat.gcd_comm y, Nat.gcd_comm x y]; exact (Nat.gcd_rec y x).symm, rfl, by simp, rfl⟩
      case measure => have := HLT.out; simp [intOf]; omega

/-! ### Exact sizes -/
def fracNum (p : Nat) : Int := ((p / Nat.gcd p 1000000 : Nat) : Int)
def fracDen (p : Nat) : Int := ((1000000 / Nat.gcd p 1000000 : Nat) : Int)
set_option maxHeartbeats 400000 in
theorem lowest_any (p : Nat) (hp : p ≤ 1000000000000) (w : World) :
    Calls Try.prog 85 #[.int .i64 p, .int .i64 1000000] w fun e w' => e = .returned (.agg #[.int .i64 (fracNum p), .int .i64 (fracDen p)]) ∧ Below w.heap.size w w' := by
  have hg0 : 0 < Nat.gcd p 1000000 := Nat.gcd_pos_of_pos_right _ (by decide)
  have hgl : Nat.gcd p 1000000 ≤ 1000000 := Nat.gcd_le_right _ (by decide)
  have C := fun w => Lib.hid (rgcd_any p 1000000 hp (by decide) w)
  have F1 : Hid (((p / Nat.gcd p 1000000 : Nat) : Int) = fracNum p) := Lib.hid rfl
  have F2 : Hid (((1000000 / Nat.gcd p 1000000 : Nat) : Int) = fracDen p) := Lib.hid rfl
  unfold GcdOut at C
  generalize Nat.gcd p 1000000 = g at *
  have hne : ¬ g = 0 := by omega
  have d1 := Nat.div_le_self p g
  have d2 := Nat.div_le_self 1000000 g
  have F3 : Hid (((p : Int)).tdiv (g : Int) = fracNum p) := Lib.hid F1.out
  have F4 : Hid ((1000000 : Int).tdiv (g : Int) = fracDen p) := Lib.hid F2.out
  have B1 : Hid (-9223372036854775808 ≤ fracNum p ∧ fracNum p ≤ 9223372036854775807) := Lib.hid (by rw [← F1.out]; generalize p / g = q at d1; omega)
  have B2 : Hid (-9223372036854775808 ≤ fracDen p ∧ fracDen p ≤ 9223372036854775807) := Lib.hid (by rw [← F2.out]; generalize 1000000 / g = q at d2; omega)
  go_enter Try.func85, Try.ntmps85
  go_wp2_with (go_at_call 116; (refine Calls.mono (C _).out ?_); rintro e w' ⟨rfl, n, rfl⟩)
  go_region
  go_wp2
  have e1 : wrap64 ((p : Int) / (g : Int)) = fracNum p := by
    have h : (p : Int) / (g : Int) = fracNum p := F1.out
    rw [h]; exact w64 B1.out
  have e2 : (1000000 : Int) / (g : Int) = fracDen p := F2.out
  refine bodyPost_ret (v := .agg #[.int .i64 (wrap64 ((p : Int) / (g : Int))), .int .i64 ((1000000 : Int) / (g : Int))]) (by simp [results, Try.results85, go_sem]) rfl ⟨by rw [e1, e2], ?_⟩
  exact ((below_drewN ((Below.refl _ _).alloc (Nat.le_refl _) _) _).setCell (by simp) _).setCell (by simp) _
theorem millis_nat {size rate f t : Int} (h : Mov size rate f t) : ∃ p : Nat, millis size rate f t = (p : Int) ∧ p ≤ 1000000000000 := by
  have := millis_bd h
  exact ⟨(millis size rate f t).toNat, by omega, by omega⟩
set_option maxHeartbeats 400000 in
theorem rexact_any {size rate f t : Int} {p : Nat} (h : Mov size rate f t) (hp : millis size rate f t = (p : Int)) (hp' : p ≤ 1000000000000) (w : World) :
    Calls Try.prog 35 #[.int .i64 size, .int .i64 rate, .agg #[.int .i64 f, .int .i64 t]] w fun e w' => e = .returned (.agg #[.int .i64 (fracNum p), .int .i64 (fracDen p)]) ∧ Below w.heap.size w w' := by
  have C := fun w => Lib.hid (rmillionths_any h w)
  rw [hp] at C
  have P := Lib.hid hp'
  clear h hp hp'
  go_enter Try.func35, Try.ntmps35
  go_wp2_with (first | (go_at_call 86; (refine Calls.mono (C _).out ?_); rintro e w' ⟨rfl, rfl⟩) | (go_at_call 85; (with_reducible refine (lowest_any p P.out _).mono ?_); rintro e w2 ⟨rfl, hb⟩; have hz : w.heap.size + 1 < w2.heap.size := (by have := hb.size; simp at this; omega); obtain ⟨hc, hf⟩ := bcell hb))
  refine bodyPost_ret (v := .agg #[.int .i64 (fracNum p), .int .i64 (fracDen p)]) (by simp [results, Try.results35, go_sem, hc]) rfl ⟨rfl, ?_⟩
  exact (((((Below.refl _ _).alloc (Nat.le_refl _) _).alloc (by simp) _).trans (hb.mono (by simp; omega))).setCell (by simp) _).setCell (by simp) _
set_option maxHeartbeats 400000 in
theorem exact_err {size rate a b : Int} (hno : moveOk size rate [a, b] = false) (w : World) :
    Calls Try.prog 32 #[.int .i64 size, .int .i64 rate, .agg #[.int .i64 a, .int .i64 b]] w
      fun e w' => e = .returned (.tuple #[.agg #[.int .i64 0, .int .i64 0], .int .i64 2]) ∧ Below w.heap.size w w' := by
  have C := Lib.hid (moveCode_no hno)
  clear hno
  go_enter Try.func32, Try.ntmps32
  go_wp2_with (go_at_call 81; (with_reducible refine (checkMovement_two C.out _ _ (by simp)).mono ?_); rintro e w' ⟨rfl, hb⟩; obtain ⟨hc, hf⟩ := bcell hb)
  refine bodyPost_ret (v := .tuple #[.agg #[.int .i64 0, .int .i64 0], .int .i64 2]) (by simp [results, Try.results32, go_sem, hc]) rfl ⟨rfl, ?_⟩
  exact (((((Below.refl _ _).alloc (Nat.le_refl _) _).alloc (by simp) _).trans (hb.mono (by simp; omega))).setCell (by simp) _).setCell (by simp) _
set_option maxHeartbeats 1000000 in
theorem exact_ok {size rate a b : Int} {p : Nat} (hok : moveOk size rate [a, b] = true) (hp : millis size rate a b = (p : Int)) (hp' : p ≤ 1000000000000) (w : World) :
    Calls Try.prog 32 #[.int .i64 size, .int .i64 rate, .agg #[.int .i64 a, .int .i64 b]] w
      fun e w' => e = .returned (.tuple #[.agg #[.int .i64 (fracNum p), .int .i64 (fracDen p)], .int .i64 0]) ∧ Below w.heap.size w w' := by
  have hm := mov_of hok (f := a) (t := b) (by simp) (by simp)
  have C := Lib.hid (moveCode_ok hok)
  have M := fun w => Lib.hid (millionths_any hm w)
  rw [hp] at M
  have hg0 : 0 < Nat.gcd p 1000000 := Nat.gcd_pos_of_pos_right _ (by decide)
  have hgl : Nat.gcd p 1000000 ≤ 1000000 := Nat.gcd_le_right _ (by decide)
  have G := fun w => Lib.hid (gcd_any p 1000000 hp' (by decide) w)
  have F1 : Hid (((p / Nat.gcd p 1000000 : Nat) : Int) = fracNum p) := Lib.hid rfl
  have F2 : Hid (((1000000 / Nat.gcd p 1000000 : Nat) : Int) = fracDen p) := Lib.hid rfl
  unfold GcdOut at G
  generalize Nat.gcd p 1000000 = g at *
  have hne : ¬ g = 0 := by omega
  have d1 := Nat.div_le_self p g
  have d2 := Nat.div_le_self 1000000 g
  have B1 : Hid (-9223372036854775808 ≤ fracNum p ∧ fracNum p ≤ 9223372036854775807) := Lib.hid (by rw [← F1.out]; generalize p / g = q at d1; omega)
  clear hok hm hp d1 d2
  go_enter Try.func32, Try.ntmps32
  go_wp2_with (first | (go_at_call 81; (with_reducible refine (checkMovement_two C.out _ _ (by simp)).mono ?_); rintro e w' ⟨rfl, hb⟩; have hz : w.heap.size + 1 < w'.heap.size := (by have := hb.size; simp at this; omega); obtain ⟨hc, hf⟩ := bcell hb) | (go_at_call 82; (refine Calls.mono (M _).out ?_); rintro e w2 ⟨rfl, rfl⟩) | (go_at_call 83; (refine Calls.mono (G _).out ?_); rintro e w3 ⟨rfl, n, rfl⟩))
  have c0 : w'.cell? ⟨w.heap.size + 1, 0, none⟩ = some (.int .i64 0) := by rw [hc _ _ (by simp)]; simp [go_sem]
  have c1 : w'.cell? ⟨w.heap.size + 1, 1, none⟩ = some (.int .i64 0) := by rw [hc _ _ (by simp)]; simp [go_sem]
  have f0 : w'.frozen? ⟨w.heap.size + 1, 0, none⟩ = false := by rw [hf _ _ (by simp)]; simp [go_sem]
  have f1 : w'.frozen? ⟨w.heap.size + 1, 1, none⟩ = false := by rw [hf _ _ (by simp)]; simp [go_sem]
  have HBB := Lib.hid hb
  clear hc hf hb
  go_region
  go_wp2
  have e1 : wrap64 ((p : Int) / (g : Int)) = fracNum p := by
    have h : (p : Int) / (g : Int) = fracNum p := F1.out
    rw [h]; exact w64 B1.out
  have e2 : (1000000 : Int) / (g : Int) = fracDen p := F2.out
  refine bodyPost_ret (v := .tuple #[.agg #[.int .i64 (wrap64 ((p : Int) / (g : Int))), .int .i64 ((1000000 : Int) / (g : Int))], .int .i64 0]) (by simp [results, Try.results32, go_sem, c0, c1]) rfl ⟨by rw [e1, e2], ?_⟩
  exact ((below_drewN ((((Below.refl _ _).alloc (Nat.le_refl _) _).alloc (by simp) _).trans (HBB.out.mono (by simp; omega))) _).setCell (by simp) _).setCell (by simp) _
end Go.Proofs.Ytnjbhidncicfiaa
