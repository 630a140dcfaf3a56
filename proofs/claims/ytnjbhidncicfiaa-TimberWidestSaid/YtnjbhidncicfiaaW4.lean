/- Walks over the timber seat: the reference's numbers; Over. -/
import Derived.Test.YtnjbhidncicfiaaW2
namespace Go.Proofs.Ytnjbhidncicfiaa
open Go.RowKit

set_option maxHeartbeats 400000 in
theorem rmillionths_any {size rate f t : Int} (h : Mov size rate f t) (w : World) :
    Calls Try.prog 86 #[.int .i64 size, .int .i64 rate, .int .i64 f, .int .i64 t] w fun e w' => e = .returned (.int .i64 (millis size rate f t)) ∧ w = w' := by
  obtain ⟨s0, s1, r0, r1, f0, f1, t0, t1⟩ := h
  have hall : ∀ d : Int, -280 ≤ d → d ≤ 280 → d = min t 280 - min f 280 → wrap64 (size * wrap64 (1000000 + wrap64 (rate * wrap64 d))) = millis size rate f t := fun d d0 d1 hd => by
    rw [millis_wrap s0 s1 r0 r1 d0 d1, hd]; rfl
  have H := Lib.hid hall
  clear hall s0 s1 r0 r1
  have F0 := Lib.hid f0; have F1 := Lib.hid f1; have T0 := Lib.hid t0; have T1 := Lib.hid t1
  clear f0 f1 t0 t1
  go_enter Try.func86, Try.ntmps86
  go_wp2
  all_goals
    go_ret
    have f0 := F0.out; have f1 := F1.out; have t0 := T0.out; have t1 := T1.out
    exact ⟨ret_int (H.out _ (by omega) (by omega) (by omega)), rfl⟩
set_option maxHeartbeats 400000 in
theorem mod_any {n m : Int} (hm : 0 < m) (hm' : m ≤ 4000000000000000000) (_h0 : -4000000000000000000 ≤ n) (_h1 : n ≤ 4000000000000000000) (w : World) :
    Calls Try.prog 123 #[.int .i64 n, .int .i64 m] w fun e w' => e = .returned (.int .i64 (n % m)) ∧ w = w' := by
  have hne : (m == 0) = false := by simp; omega
  have hb1 := Int.emod_nonneg n (show m ≠ 0 by omega)
  have hb2 := Int.emod_lt_of_pos n hm
  have ht : n.tmod m = if 0 ≤ n ∨ n % m = 0 then n % m else n % m - m := by
    rw [Int.tmod_eq_emod]
    by_cases hx : 0 ≤ n ∨ m ∣ n
    · rw [if_pos hx, if_pos (by rcases hx with h | h; exact .inl h; exact .inr (Int.emod_eq_zero_of_dvd h))]; omega
    · rw [if_neg hx, if_neg (fun h => hx (by rcases h with h | h; exact .inl h; exact .inr (Int.dvd_of_emod_eq_zero h)))]
      have : (m.natAbs : Int) = m := by omega
      rw [this]
  obtain ⟨r, hr⟩ : ∃ r, n.tmod m = r := ⟨_, rfl⟩
  have HR := Lib.hid hr
  rw [hr] at ht
  have HT := Lib.hid ht
  clear ht
  go_enter Try.func123, Try.ntmps123
  go_wp2
  · go_ret
    refine ⟨ret_int ?_, rfl⟩
    have h := HT.out
    rw [w64 (by split at h <;> omega)]
    split at h <;> omega
  · go_ret
    refine ⟨ret_int ?_, rfl⟩
    have h := HT.out
    split at h <;> omega
theorem floor_math {a b : Int} (hb : 0 < b) : (a - a % b).tdiv b = a / b := by
  have h : a - a % b = b * (a / b) := by have := Int.mul_ediv_add_emod a b; omega
  rw [h, Int.mul_tdiv_cancel_left _ (by omega)]
theorem div_bd {a b : Int} (hb : 0 < b) (h0 : -4000000000000000000 ≤ a) (h1 : a ≤ 4000000000000000000) : -4000000000000000000 ≤ a / b ∧ a / b ≤ 4000000000000000000 :=
  ⟨Int.le_ediv_of_mul_le hb (by have := Int.mul_le_mul_of_nonneg_left (show (1 : Int) ≤ b by omega) (show (0 : Int) ≤ 4000000000000000000 by decide); omega),
   Int.ediv_le_of_le_mul hb (by have := Int.mul_le_mul_of_nonneg_left (show (1 : Int) ≤ b by omega) (show (0 : Int) ≤ 4000000000000000000 by decide); omega)⟩
set_option maxHeartbeats 400000 in
theorem floor_any {a b : Int} (hb : 0 < b) (hb' : b ≤ 4000000000000000000) (h0 : -4000000000000000000 ≤ a) (h1 : a ≤ 4000000000000000000) (w : World) :
    Calls Try.prog 103 #[.int .i64 a, .int .i64 b] w fun e w' => e = .returned (.int .i64 (a / b)) ∧ w = w' := by
  have hne : (b == 0) = false := by simp; omega
  have hf := Lib.hid (floor_math (a := a) hb)
  have hd := div_bd hb h0 h1
  have m0 := Int.emod_nonneg a (show b ≠ 0 by omega)
  have m1 := Int.emod_lt_of_pos a hb
  obtain ⟨r, hr⟩ : ∃ r, a % b = r := ⟨_, rfl⟩
  obtain ⟨q, hq⟩ : ∃ q, a / b = q := ⟨_, rfl⟩
  rw [hr] at m0 m1; rw [hq] at hd
  have C := fun w => Lib.hid (mod_any hb hb' h0 h1 w)
  rw [hr] at C
  have HR := Lib.hid hr; have HQ := Lib.hid hq
  have h2 : wrap64 (a - r) = a - r := w64 (by omega)
  have h3 : (a - r).tdiv b = q := by have := hf.out; rw [hr, hq] at this; exact this
  have H3 := Lib.hid h3; have H2 := Lib.hid h2
  rw [hq]
  clear hr hq hf h2 h3
  go_enter Try.func103, Try.ntmps103
  go_wp2_with (go_at_call 123; (refine Calls.mono (C _).out ?_); rintro e w' ⟨rfl, rfl⟩)
  go_ret
  exact ⟨ret_int (by first | rw [H2.out, H3.out, w64 (by omega)] | rw [H3.out, w64 (by omega)] | rw [H3.out] | rw [H2.out, H3.out]), rfl⟩
set_option maxHeartbeats 400000 in
theorem ceil_any {a b : Int} (hb : 0 < b) (hb' : b ≤ 4000000000000000000) (h0 : -4000000000000000000 ≤ a) (h1 : a ≤ 4000000000000000000) (w : World) :
    Calls Try.prog 117 #[.int .i64 a, .int .i64 b] w fun e w' => e = .returned (.int .i64 (-(-a / b))) ∧ w = w' := by
  have hd := div_bd (a := -a) hb (by omega) (by omega)
  have C := fun w => Lib.hid (floor_any (a := -a) hb hb' (by omega) (by omega) w)
  obtain ⟨q, hq⟩ : ∃ q, -a / b = q := ⟨_, rfl⟩
  rw [hq] at hd C ⊢
  have HQ := Lib.hid hq
  clear hq
  go_enter Try.func117, Try.ntmps117
  go_wp2_with (go_at_call 103; (refine Calls.mono (C _).out ?_); rintro e w' ⟨rfl, rfl⟩)
  go_ret
  exact ⟨ret_int (by first | rfl | rw [w64 (by omega)]), rfl⟩
theorem ceil_math {n : Int} (_h : 0 ≤ n) : -(-n / 1000000) = (n + 999999) / 1000000 := by omega
set_option maxHeartbeats 400000 in
theorem round_any {a b : Int} (a0 : 0 ≤ a) (a1 : a ≤ 1000000000000) (b0 : 0 ≤ b) (b1 : b ≤ 1000000000000) (w : World) :
    Calls Try.prog 87 #[.int .i64 a, .int .i64 b] w fun e w' => e = .returned (.agg #[.int .i64 (a / 1000000), .int .i64 ((b + 999999) / 1000000)]) ∧ Below w.heap.size w w' := by
  have C1 := fun w => Lib.hid (floor_any (a := a) (b := 1000000) (by omega) (by omega) (by omega) (by omega) w)
  have C2 := fun w => Lib.hid (ceil_any (a := b) (b := 1000000) (by omega) (by omega) (by omega) (by omega) w)
  rw [ceil_math b0] at C2
  go_enter Try.func87, Try.ntmps87
  go_wp2_with (first | (go_at_call 103; (refine Calls.mono (C1 _).out ?_); rintro e w' ⟨rfl, rfl⟩) | (go_at_call 117; (refine Calls.mono (C2 _).out ?_); rintro e w' ⟨rfl, rfl⟩))
  exact bodyPost_ret (v := .agg #[.int .i64 (a / 1000000), .int .i64 ((b + 999999) / 1000000)]) (by simp [results, Try.results87, go_sem]) rfl ⟨rfl, (Below.refl _ _).alloc (Nat.le_refl _) _⟩
end Go.Proofs.Ytnjbhidncicfiaa
