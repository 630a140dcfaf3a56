/- Walks over the timber seat: Over, and the reference's At and Over. -/
import Derived.Test.YtnjbhidncicfiaaW4
import Derived.Deep.QuietTactic
import Derived.BigQuiet
namespace Go.Proofs.Ytnjbhidncicfiaa
open Go.RowKit

theorem millis_mono2 {size rate f a b : Int} (s0 : 0 ≤ size) (r0 : 0 ≤ rate) (h : a ≤ b) : millis size rate f a ≤ millis size rate f b := by
  unfold millis
  have h1 : rate * (min a 280 - min f 280) ≤ rate * (min b 280 - min f 280) := Int.mul_le_mul_of_nonneg_left (by omega) r0
  exact Int.mul_le_mul_of_nonneg_left (by omega) s0
theorem movedLo_eq' {size rate f t : Int} (h : Mov size rate f t) : millis size rate f t / 1000000 = movedLo size rate f t := (Int.tdiv_eq_ediv_of_nonneg (millis_bd h).1).symm
theorem movedHi_eq' {size rate f t : Int} (h : Mov size rate f t) : (millis size rate f t + 999999) / 1000000 = movedHi size rate f t := by
  unfold movedHi
  rw [Int.tdiv_eq_ediv_of_nonneg (by have := (millis_bd h).1; omega)]
  congr 1; omega
theorem round_mov {size rate f a b : Int} (ha : Mov size rate f a) (hb : Mov size rate f b) (w : World) :
    Calls Try.prog 87 #[.int .i64 (millis size rate f a), .int .i64 (millis size rate f b)] w fun e w' => e = .returned (.agg #[.int .i64 (movedLo size rate f a), .int .i64 (movedHi size rate f b)]) ∧ Below w.heap.size w w' := by
  have h1 := millis_bd ha
  have h2 := millis_bd hb
  have := round_any h1.1 h1.2 h2.1 h2.2 w
  rw [movedLo_eq' ha, movedHi_eq' hb] at this
  exact this
set_option maxHeartbeats 400000 in
theorem rat_any {size rate f t : Int} (h : Mov size rate f t) (w : World) :
    Calls Try.prog 36 #[.int .i64 size, .int .i64 rate, .agg #[.int .i64 f, .int .i64 t]] w fun e w' => e = .returned (.agg #[.int .i64 (movedLo size rate f t), .int .i64 (movedHi size rate f t)]) ∧ Below w.heap.size w w' := by
  have H := Lib.hid h
  clear h
  go_enter Try.func36, Try.ntmps36
  go_wp2_with (first | (go_at_call 86; (with_reducible refine (rmillionths_any H.out _).mono ?_); rintro e w' ⟨rfl, rfl⟩) | (go_at_call 87; (with_reducible refine (round_mov H.out H.out _).mono ?_); rintro e w2 ⟨rfl, hb⟩; have hz : w.heap.size + 1 < w2.heap.size := (by have := hb.size; simp at this; omega); obtain ⟨hc, hf⟩ := bcell hb))
  refine bodyPost_ret (v := .agg #[.int .i64 (movedLo size rate f t), .int .i64 (movedHi size rate f t)]) (by simp [results, Try.results36, go_sem, hc]) rfl ⟨rfl, ?_⟩
  exact (((((Below.refl _ _).alloc (Nat.le_refl _) _).alloc (by simp) _).trans (hb.mono (by simp; omega))).setCell (by simp) _).setCell (by simp) _
set_option maxHeartbeats 1000000 in
theorem rover_any {size rate f a b : Int} (ha : Mov size rate f a) (hb : Mov size rate f b) (hab : a ≤ b) (w : World) :
    Calls Try.prog 38 #[.int .i64 size, .int .i64 rate, .int .i64 f, .agg #[.int .i64 a, .int .i64 b]] w fun e w' => e = .returned (.agg #[.int .i64 (movedLo size rate f a), .int .i64 (movedHi size rate f b)]) ∧ Below w.heap.size w w' := by
  have A := Lib.hid ha; have B := Lib.hid hb
  clear ha hb
  go_enter Try.func38, Try.ntmps38
  go_wp2
  go_quiet ((go_at_call 86; exact Calls.quiet_of_same ((rmillionths_any A.out _).mono fun _ _ h => ⟨h.1, h.2.symm⟩)))
  go_wp2
  obtain ⟨ml, hml⟩ : ∃ x, millis size rate f a = x := ⟨_, rfl⟩
  have ML := Lib.hid hml
  have AB := Lib.hid hab
  rw [hml]
  clear hml hab
  go_loop [9, 10, 11, 12] (fun lo hi k _ => ∃ j : Nat, a + (j : Int) ≤ b + 1 ∧ k = .int .i64 (a + (j : Int)) ∧ lo = .int .i64 ml ∧ hi = .int .i64 (millis size rate f (a + ((j - 1 : Nat) : Int)))) (fun _ _ k _ => (b + 1 - intOf k).toNat)
  case atStart => exact ⟨0, by have := AB.out; simp; omega, by simp, rfl, by have := ML.out; simp [this]⟩
  case round =>
    obtain ⟨j, hj, rfl, rfl, rfl⟩ := hrel
    have hA := A.out
    have hB := B.out
    by_cases hlt : a + (j : Int) ≤ b
    · have M : Mov size rate f (a + (j : Int)) := ⟨hA.s0, hA.s1, hA.r0, hA.r1, hA.f0, hA.f1, by have := hA.t0; omega, by have := hB.t1; omega⟩
      have h1 := millis_mono2 (f := f) hA.s0 hA.r0 (show a ≤ a + (j : Int) by omega)
      have h2 := millis_mono2 (f := f) hA.s0 hA.r0 (show a + ((j - 1 : Nat) : Int) ≤ a + (j : Int) by omega)
      have hk0 := hA.t0
      have hk1 := hB.t1
      obtain ⟨n, hn⟩ : ∃ x, millis size rate f (a + (j : Int)) = x := ⟨_, rfl⟩
      obtain ⟨p, hp⟩ : ∃ x, millis size rate f (a + ((j - 1 : Nat) : Int)) = x := ⟨_, rfl⟩
      rw [ML.out, hn] at h1
      rw [hn, hp] at h2
      have C := fun w => Lib.hid (rmillionths_any M w)
      rw [hn] at C
      have HN := Lib.hid hn
      have HP := Lib.hid hp
      rw [hp]
      clear hA hB M hn hp
      go_wp2_with (go_at_call 86; (refine Calls.mono (C _).out ?_); rintro e w' ⟨rfl, rfl⟩)
      go_round
      case rel => exact ⟨j + 1, by omega, by rw [show ((j + 1 : Nat) : Int) = (j : Int) + 1 by omega, Int.add_assoc], rfl, by rw [show j + 1 - 1 = j by omega, HN.out]; congr 1; split <;> omega⟩
      case measure => simp [intOf]; omega
    · have e1 : a + ((j - 1 : Nat) : Int) = b := by have := AB.out; omega
      rw [e1]
      have e2 := ML.out
      subst e2
      clear hA hB e1
      go_wp2_with (go_at_call 87; (with_reducible refine (round_mov A.out B.out _).mono ?_); rintro e w2 ⟨rfl, hb⟩; have hz : w.heap.size + 1 < w2.heap.size := (by have := hb.size; simp at this; omega); obtain ⟨hc, hf⟩ := bcell hb)
      refine bodyPost_ret (v := .agg #[.int .i64 (movedLo size rate f a), .int .i64 (movedHi size rate f b)]) (by simp [results, Try.results38, go_sem, hc]) rfl ⟨rfl, ?_⟩
      exact ((((below_drewN (((Below.refl _ _).alloc (Nat.le_refl _) _).alloc (by simp) _) _).trans (hb.mono (by simp; omega))).setCell (by simp) _).setCell (by simp) _)

/-! ### Over -/
set_option maxHeartbeats 400000 in
theorem over_err {size rate f a b : Int} (hno : moveOk size rate [f, a, b] = false) (w : World) :
    Calls Try.prog 37 #[.int .i64 size, .int .i64 rate, .int .i64 f, .agg #[.int .i64 a, .int .i64 b]] w
      fun e w' => e = .returned (.tuple #[.agg #[.int .i64 0, .int .i64 0], .int .i64 2]) ∧ Below w.heap.size w w' := by
  have C := Lib.hid (moveCode_no hno)
  clear hno
  go_enter Try.func37, Try.ntmps37
  go_wp2_with (go_at_call 81; (with_reducible refine (checkMovement_three C.out _ _ (by simp)).mono ?_); rintro e w' ⟨rfl, hb⟩; obtain ⟨hc, hf⟩ := bcell hb)
  refine bodyPost_ret (v := .tuple #[.agg #[.int .i64 0, .int .i64 0], .int .i64 2]) (by simp [results, Try.results37, go_sem, hc]) rfl ⟨rfl, ?_⟩
  exact (((((Below.refl _ _).alloc (Nat.le_refl _) _).alloc (by simp) _).trans (hb.mono (by simp; omega))).setCell (by simp) _).setCell (by simp) _
set_option maxHeartbeats 400000 in
theorem over_order {size rate f a b : Int} (hok : moveOk size rate [f, a, b] = true) (hab : b < a) (w : World) :
    Calls Try.prog 37 #[.int .i64 size, .int .i64 rate, .int .i64 f, .agg #[.int .i64 a, .int .i64 b]] w
      fun e w' => e = .returned (.tuple #[.agg #[.int .i64 0, .int .i64 0], .int .i64 9]) ∧ Below w.heap.size w w' := by
  have C := Lib.hid (moveCode_ok hok)
  clear hok
  go_enter Try.func37, Try.ntmps37
  go_wp2_with (go_at_call 81; (with_reducible refine (checkMovement_three C.out _ _ (by simp)).mono ?_); rintro e w' ⟨rfl, hb⟩; obtain ⟨hc, hf⟩ := bcell hb)
  refine bodyPost_ret (v := .tuple #[.agg #[.int .i64 0, .int .i64 0], .int .i64 9]) (by simp [results, Try.results37, go_sem, hc]) rfl ⟨rfl, ?_⟩
  exact (((((Below.refl _ _).alloc (Nat.le_refl _) _).alloc (by simp) _).trans (hb.mono (by simp; omega))).setCell (by simp) _).setCell (by simp) _
set_option maxHeartbeats 400000 in
theorem over_ok {size rate f a b : Int} (hok : moveOk size rate [f, a, b] = true) (hab : a ≤ b) (w : World) :
    Calls Try.prog 37 #[.int .i64 size, .int .i64 rate, .int .i64 f, .agg #[.int .i64 a, .int .i64 b]] w
      fun e w' => e = .returned (.tuple #[.agg #[.int .i64 (movedLo size rate f a), .int .i64 (movedHi size rate f b)], .int .i64 0]) ∧ Below w.heap.size w w' := by
  have C := Lib.hid (moveCode_ok hok)
  have A := Lib.hid (mov_of hok (f := f) (t := a) (by simp) (by simp))
  have B := Lib.hid (mov_of hok (f := f) (t := b) (by simp) (by simp))
  clear hok
  go_enter Try.func37, Try.ntmps37
  go_wp2_with (first | (go_at_call 81; (with_reducible refine (checkMovement_three C.out _ _ (by simp)).mono ?_); rintro e w' ⟨rfl, hb⟩; obtain ⟨hc, hf⟩ := bcell hb) | (go_at_call 84; (with_reducible refine (moved_any A.out B.out _).mono ?_); rintro e w2 ⟨rfl, hb2⟩; have hz : w.heap.size + 1 < w'.heap.size := by { have := hb.size; simp at this; omega }; obtain ⟨hc2, hf2⟩ := bcell hb2))
  refine bodyPost_ret (v := .tuple #[.agg #[.int .i64 (movedLo size rate f a), .int .i64 (movedHi size rate f b)], .int .i64 0]) (by simp [results, Try.results37, go_sem, hc, hc2, hz]) rfl ⟨rfl, ?_⟩
  exact ((((((Below.refl _ _).alloc (Nat.le_refl _) _).alloc (by simp) _).trans (hb.mono (by simp; omega))).trans (hb2.mono (by omega))).setCell (by simp) _).setCell (by simp) _
end Go.Proofs.Ytnjbhidncicfiaa
