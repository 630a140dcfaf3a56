/- Walks over the fits: the checks of pieces. -/
import Derived.Test.YtffmaoalnilkkaaFC
namespace Go.Proofs.Ytffmaoalnilkkaa
open Go.RowKit

def madeCode (x : Md) : Int := bif madeB x then 0 else 2
theorem madeCode_ok {x : Md} (h : MdOk x) : madeCode x = 0 := by unfold madeCode; rw [madeB_iff.2 h]; rfl
theorem madeCode_zero {x : Md} (h : madeCode x = 0) : MdOk x := by
  unfold madeCode at h
  cases hb : madeB x
  · rw [hb] at h; exact absurd h (by decide)
  · exact madeB_iff.1 hb
/-! ### The reference -/
set_option maxHeartbeats 400000 in
theorem rwithin_any {lo hi n : Int} {v : Bool} (hv : allIn lo hi [n] = v) (w : World) :
    Calls Try.prog 30 #[.int .i64 n, .int .i64 lo, .int .i64 hi] w fun e w' => e = .returned (.bool v) ∧ w = w' := by
  have V := Lib.hid hv
  clear hv
  go_enter Try.func30, Try.ntmps30
  go_wp2
  all_goals (go_ret; refine ⟨ret_bool ?_, rfl⟩; rw [← V.out, Bool.eq_iff_iff, allIn_one]; simp; try omega)
theorem rmoist_any {n : Int} {v : Bool} (hv : allIn 0 400 [n] = v) (w : World) :
    Calls Try.prog 24 #[.int .i64 n] w fun e w' => e = .returned (.bool v) ∧ w = w' := by
  have V := Lib.hid hv
  clear hv
  go_enter Try.func24, Try.ntmps24
  go_wp2_with (go_at_call 30; (with_reducible refine (rwithin_any V.out _).mono ?_); rintro e w' ⟨rfl, rfl⟩)
  go_ret
  exact ⟨rfl, rfl⟩
set_option maxHeartbeats 1000000 in
theorem made_1 {s r m g lo hi : Int} (h1 : allIn 0 600000 [s] = false) (w : World) :
    Calls Try.prog 23 #[mdV ⟨s, r, m, g, lo, hi⟩] w fun e w' => e = .returned (.int .i64 2) ∧ Below w.heap.size w w' := by
  have X1 := Lib.hid h1
  clear h1
  unfold mdV
  go_enter Try.func23, Try.ntmps23
  go_wp2_with (go_at_call 54; (with_reducible refine (withinOne_fit X1.out _ _ (by simp)).mono ?_); rintro e w1 ⟨rfl, hb1⟩; have hz1 : w.heap.size < w1.heap.size := (by have := hb1.size; (try simp at this); omega); obtain ⟨hc1, hf1⟩ := bcell hb1)
  go_ret
  exact ⟨rfl, (((Below.refl _ _).alloc (Nat.le_refl _) _).trans (hb1.mono (by first | omega | (simp; done) | (simp; omega))))⟩
set_option maxHeartbeats 1000000 in
theorem made_2 {s r m g lo hi : Int} (h1 : allIn 0 600000 [s] = true) (h2 : allIn 0 2000 [r] = false) (w : World) :
    Calls Try.prog 23 #[mdV ⟨s, r, m, g, lo, hi⟩] w fun e w' => e = .returned (.int .i64 2) ∧ Below w.heap.size w w' := by
  have s01 := allIn_one.1 h1
  have s0 := s01.1
  have s1 := s01.2
  clear s01
  have X1 := Lib.hid h1
  have X2 := Lib.hid h2
  clear h1 h2
  unfold mdV
  go_enter Try.func23, Try.ntmps23
  go_wp2_with (go_at_call 54; (with_reducible refine (withinOne_fit X1.out _ _ (by simp)).mono ?_); rintro e w1 ⟨rfl, hb1⟩; have hz1 : w.heap.size < w1.heap.size := (by have := hb1.size; (try simp at this); omega); obtain ⟨hc1, hf1⟩ := bcell hb1)
  go_wp2_with (go_at_call 54; (with_reducible refine (withinOne_fit X2.out _ _ (by simp)).mono ?_); rintro e w2 ⟨rfl, hb2⟩; have hz2 : w.heap.size < w2.heap.size := (by have := hb2.size; (try simp at this); omega); obtain ⟨hc2, hf2⟩ := bcell hb2)
  go_ret
  exact ⟨rfl, ((((Below.refl _ _).alloc (Nat.le_refl _) _).trans (hb1.mono (by first | omega | (simp; done) | (simp; omega)))).trans (hb2.mono (by first | omega | (simp; done) | (simp; omega))))⟩
set_option maxHeartbeats 1000000 in
theorem made_3 {s r m g lo hi : Int} (h1 : allIn 0 600000 [s] = true) (h2 : allIn 0 2000 [r] = true) (h3 : allIn 0 400 [m] = false) (w : World) :
    Calls Try.prog 23 #[mdV ⟨s, r, m, g, lo, hi⟩] w fun e w' => e = .returned (.int .i64 2) ∧ Below w.heap.size w w' := by
  have s01 := allIn_one.1 h1
  have s0 := s01.1
  have s1 := s01.2
  clear s01
  have X1 := Lib.hid h1
  have X2 := Lib.hid h2
  have X3 := Lib.hid h3
  clear h1 h2 h3
  unfold mdV
  go_enter Try.func23, Try.ntmps23
  go_wp2_with (go_at_call 54; (with_reducible refine (withinOne_fit X1.out _ _ (by simp)).mono ?_); rintro e w1 ⟨rfl, hb1⟩; have hz1 : w.heap.size < w1.heap.size := (by have := hb1.size; (try simp at this); omega); obtain ⟨hc1, hf1⟩ := bcell hb1)
  go_wp2_with (go_at_call 54; (with_reducible refine (withinOne_fit X2.out _ _ (by simp)).mono ?_); rintro e w2 ⟨rfl, hb2⟩; have hz2 : w.heap.size < w2.heap.size := (by have := hb2.size; (try simp at this); omega); obtain ⟨hc2, hf2⟩ := bcell hb2)
  go_wp2_with (go_at_call 54; (with_reducible refine (withinOne_fit X3.out _ _ (by simp)).mono ?_); rintro e w3 ⟨rfl, hb3⟩; have hz3 : w.heap.size < w3.heap.size := (by have := hb3.size; (try simp at this); omega); obtain ⟨hc3, hf3⟩ := bcell hb3)
  go_ret
  exact ⟨rfl, (((((Below.refl _ _).alloc (Nat.le_refl _) _).trans (hb1.mono (by first | omega | (simp; done) | (simp; omega)))).trans (hb2.mono (by first | omega | (simp; done) | (simp; omega)))).trans (hb3.mono (by first | omega | (simp; done) | (simp; omega))))⟩
set_option maxHeartbeats 1000000 in
theorem made_4 {s r m g lo hi : Int} (h1 : allIn 0 600000 [s] = true) (h2 : allIn 0 2000 [r] = true) (h3 : allIn 0 400 [m] = true) (h4 : allIn 0 19 [g] = false) (w : World) :
    Calls Try.prog 23 #[mdV ⟨s, r, m, g, lo, hi⟩] w fun e w' => e = .returned (.int .i64 2) ∧ Below w.heap.size w w' := by
  have s01 := allIn_one.1 h1
  have s0 := s01.1
  have s1 := s01.2
  clear s01
  have X1 := Lib.hid h1
  have X2 := Lib.hid h2
  have X3 := Lib.hid h3
  have X4 := Lib.hid h4
  clear h1 h2 h3 h4
  unfold mdV
  go_enter Try.func23, Try.ntmps23
  go_wp2_with (go_at_call 54; (with_reducible refine (withinOne_fit X1.out _ _ (by simp)).mono ?_); rintro e w1 ⟨rfl, hb1⟩; have hz1 : w.heap.size < w1.heap.size := (by have := hb1.size; (try simp at this); omega); obtain ⟨hc1, hf1⟩ := bcell hb1)
  go_wp2_with (go_at_call 54; (with_reducible refine (withinOne_fit X2.out _ _ (by simp)).mono ?_); rintro e w2 ⟨rfl, hb2⟩; have hz2 : w.heap.size < w2.heap.size := (by have := hb2.size; (try simp at this); omega); obtain ⟨hc2, hf2⟩ := bcell hb2)
  go_wp2_with (go_at_call 54; (with_reducible refine (withinOne_fit X3.out _ _ (by simp)).mono ?_); rintro e w3 ⟨rfl, hb3⟩; have hz3 : w.heap.size < w3.heap.size := (by have := hb3.size; (try simp at this); omega); obtain ⟨hc3, hf3⟩ := bcell hb3)
  go_wp2_with (go_at_call 54; (with_reducible refine (withinOne_fit X4.out _ _ (by simp)).mono ?_); rintro e w4 ⟨rfl, hb4⟩; have hz4 : w.heap.size < w4.heap.size := (by have := hb4.size; (try simp at this); omega); obtain ⟨hc4, hf4⟩ := bcell hb4)
  go_ret
  exact ⟨rfl, ((((((Below.refl _ _).alloc (Nat.le_refl _) _).trans (hb1.mono (by first | omega | (simp; done) | (simp; omega)))).trans (hb2.mono (by first | omega | (simp; done) | (simp; omega)))).trans (hb3.mono (by first | omega | (simp; done) | (simp; omega)))).trans (hb4.mono (by first | omega | (simp; done) | (simp; omega))))⟩
set_option maxHeartbeats 1000000 in
theorem made_5 {s r m g lo hi : Int} (h1 : allIn 0 600000 [s] = true) (h2 : allIn 0 2000 [r] = true) (h3 : allIn 0 400 [m] = true) (h4 : allIn 0 19 [g] = true) (h5 : allIn 0 s [lo] = false) (w : World) :
    Calls Try.prog 23 #[mdV ⟨s, r, m, g, lo, hi⟩] w fun e w' => e = .returned (.int .i64 2) ∧ Below w.heap.size w w' := by
  have s01 := allIn_one.1 h1
  have s0 := s01.1
  have s1 := s01.2
  clear s01
  have X1 := Lib.hid h1
  have X2 := Lib.hid h2
  have X3 := Lib.hid h3
  have X4 := Lib.hid h4
  have X5 := Lib.hid h5
  clear h1 h2 h3 h4 h5
  unfold mdV
  go_enter Try.func23, Try.ntmps23
  go_wp2_with (go_at_call 54; (with_reducible refine (withinOne_fit X1.out _ _ (by simp)).mono ?_); rintro e w1 ⟨rfl, hb1⟩; have hz1 : w.heap.size < w1.heap.size := (by have := hb1.size; (try simp at this); omega); obtain ⟨hc1, hf1⟩ := bcell hb1)
  go_wp2_with (go_at_call 54; (with_reducible refine (withinOne_fit X2.out _ _ (by simp)).mono ?_); rintro e w2 ⟨rfl, hb2⟩; have hz2 : w.heap.size < w2.heap.size := (by have := hb2.size; (try simp at this); omega); obtain ⟨hc2, hf2⟩ := bcell hb2)
  go_wp2_with (go_at_call 54; (with_reducible refine (withinOne_fit X3.out _ _ (by simp)).mono ?_); rintro e w3 ⟨rfl, hb3⟩; have hz3 : w.heap.size < w3.heap.size := (by have := hb3.size; (try simp at this); omega); obtain ⟨hc3, hf3⟩ := bcell hb3)
  go_wp2_with (go_at_call 54; (with_reducible refine (withinOne_fit X4.out _ _ (by simp)).mono ?_); rintro e w4 ⟨rfl, hb4⟩; have hz4 : w.heap.size < w4.heap.size := (by have := hb4.size; (try simp at this); omega); obtain ⟨hc4, hf4⟩ := bcell hb4)
  go_wp2_with (go_at_call 54; (with_reducible refine (withinOne_fit X5.out _ _ (by simp)).mono ?_); rintro e w5 ⟨rfl, hb5⟩; have hz5 : w.heap.size < w5.heap.size := (by have := hb5.size; (try simp at this); omega); obtain ⟨hc5, hf5⟩ := bcell hb5)
  go_ret
  exact ⟨rfl, (((((((Below.refl _ _).alloc (Nat.le_refl _) _).trans (hb1.mono (by first | omega | (simp; done) | (simp; omega)))).trans (hb2.mono (by first | omega | (simp; done) | (simp; omega)))).trans (hb3.mono (by first | omega | (simp; done) | (simp; omega)))).trans (hb4.mono (by first | omega | (simp; done) | (simp; omega)))).trans (hb5.mono (by first | omega | (simp; done) | (simp; omega))))⟩
set_option maxHeartbeats 1000000 in
theorem made_6 {s r m g lo hi : Int} (h1 : allIn 0 600000 [s] = true) (h2 : allIn 0 2000 [r] = true) (h3 : allIn 0 400 [m] = true) (h4 : allIn 0 19 [g] = true) (h5 : allIn 0 s [lo] = true) (h6 : allIn 0 (600000 - s) [hi] = false) (w : World) :
    Calls Try.prog 23 #[mdV ⟨s, r, m, g, lo, hi⟩] w fun e w' => e = .returned (.int .i64 2) ∧ Below w.heap.size w w' := by
  have s01 := allIn_one.1 h1
  have s0 := s01.1
  have s1 := s01.2
  clear s01
  have X1 := Lib.hid h1
  have X2 := Lib.hid h2
  have X3 := Lib.hid h3
  have X4 := Lib.hid h4
  have X5 := Lib.hid h5
  have X6 := Lib.hid h6
  clear h1 h2 h3 h4 h5 h6
  unfold mdV
  go_enter Try.func23, Try.ntmps23
  go_wp2_with (go_at_call 54; (with_reducible refine (withinOne_fit X1.out _ _ (by simp)).mono ?_); rintro e w1 ⟨rfl, hb1⟩; have hz1 : w.heap.size < w1.heap.size := (by have := hb1.size; (try simp at this); omega); obtain ⟨hc1, hf1⟩ := bcell hb1)
  go_wp2_with (go_at_call 54; (with_reducible refine (withinOne_fit X2.out _ _ (by simp)).mono ?_); rintro e w2 ⟨rfl, hb2⟩; have hz2 : w.heap.size < w2.heap.size := (by have := hb2.size; (try simp at this); omega); obtain ⟨hc2, hf2⟩ := bcell hb2)
  go_wp2_with (go_at_call 54; (with_reducible refine (withinOne_fit X3.out _ _ (by simp)).mono ?_); rintro e w3 ⟨rfl, hb3⟩; have hz3 : w.heap.size < w3.heap.size := (by have := hb3.size; (try simp at this); omega); obtain ⟨hc3, hf3⟩ := bcell hb3)
  go_wp2_with (go_at_call 54; (with_reducible refine (withinOne_fit X4.out _ _ (by simp)).mono ?_); rintro e w4 ⟨rfl, hb4⟩; have hz4 : w.heap.size < w4.heap.size := (by have := hb4.size; (try simp at this); omega); obtain ⟨hc4, hf4⟩ := bcell hb4)
  go_wp2_with (go_at_call 54; (with_reducible refine (withinOne_fit X5.out _ _ (by simp)).mono ?_); rintro e w5 ⟨rfl, hb5⟩; have hz5 : w.heap.size < w5.heap.size := (by have := hb5.size; (try simp at this); omega); obtain ⟨hc5, hf5⟩ := bcell hb5)
  go_wp2_with (go_at_call 54; (with_reducible refine (withinOne_fit X6.out _ _ (by simp)).mono ?_); rintro e w6 ⟨rfl, hb6⟩; have hz6 : w.heap.size < w6.heap.size := (by have := hb6.size; (try simp at this); omega); obtain ⟨hc6, hf6⟩ := bcell hb6)
  go_ret
  exact ⟨rfl, ((((((((Below.refl _ _).alloc (Nat.le_refl _) _).trans (hb1.mono (by first | omega | (simp; done) | (simp; omega)))).trans (hb2.mono (by first | omega | (simp; done) | (simp; omega)))).trans (hb3.mono (by first | omega | (simp; done) | (simp; omega)))).trans (hb4.mono (by first | omega | (simp; done) | (simp; omega)))).trans (hb5.mono (by first | omega | (simp; done) | (simp; omega)))).trans (hb6.mono (by first | omega | (simp; done) | (simp; omega))))⟩
set_option maxHeartbeats 1000000 in
theorem made_7 {s r m g lo hi : Int} (h1 : allIn 0 600000 [s] = true) (h2 : allIn 0 2000 [r] = true) (h3 : allIn 0 400 [m] = true) (h4 : allIn 0 19 [g] = true) (h5 : allIn 0 s [lo] = true) (h6 : allIn 0 (600000 - s) [hi] = true) (w : World) :
    Calls Try.prog 23 #[mdV ⟨s, r, m, g, lo, hi⟩] w fun e w' => e = .returned (.int .i64 0) ∧ Below w.heap.size w w' := by
  have s01 := allIn_one.1 h1
  have s0 := s01.1
  have s1 := s01.2
  clear s01
  have X1 := Lib.hid h1
  have X2 := Lib.hid h2
  have X3 := Lib.hid h3
  have X4 := Lib.hid h4
  have X5 := Lib.hid h5
  have X6 := Lib.hid h6
  clear h1 h2 h3 h4 h5 h6
  unfold mdV
  go_enter Try.func23, Try.ntmps23
  go_wp2_with (go_at_call 54; (with_reducible refine (withinOne_fit X1.out _ _ (by simp)).mono ?_); rintro e w1 ⟨rfl, hb1⟩; have hz1 : w.heap.size < w1.heap.size := (by have := hb1.size; (try simp at this); omega); obtain ⟨hc1, hf1⟩ := bcell hb1)
  go_wp2_with (go_at_call 54; (with_reducible refine (withinOne_fit X2.out _ _ (by simp)).mono ?_); rintro e w2 ⟨rfl, hb2⟩; have hz2 : w.heap.size < w2.heap.size := (by have := hb2.size; (try simp at this); omega); obtain ⟨hc2, hf2⟩ := bcell hb2)
  go_wp2_with (go_at_call 54; (with_reducible refine (withinOne_fit X3.out _ _ (by simp)).mono ?_); rintro e w3 ⟨rfl, hb3⟩; have hz3 : w.heap.size < w3.heap.size := (by have := hb3.size; (try simp at this); omega); obtain ⟨hc3, hf3⟩ := bcell hb3)
  go_wp2_with (go_at_call 54; (with_reducible refine (withinOne_fit X4.out _ _ (by simp)).mono ?_); rintro e w4 ⟨rfl, hb4⟩; have hz4 : w.heap.size < w4.heap.size := (by have := hb4.size; (try simp at this); omega); obtain ⟨hc4, hf4⟩ := bcell hb4)
  go_wp2_with (go_at_call 54; (with_reducible refine (withinOne_fit X5.out _ _ (by simp)).mono ?_); rintro e w5 ⟨rfl, hb5⟩; have hz5 : w.heap.size < w5.heap.size := (by have := hb5.size; (try simp at this); omega); obtain ⟨hc5, hf5⟩ := bcell hb5)
  go_wp2_with (go_at_call 54; (with_reducible refine (withinOne_fit X6.out _ _ (by simp)).mono ?_); rintro e w6 ⟨rfl, hb6⟩; have hz6 : w.heap.size < w6.heap.size := (by have := hb6.size; (try simp at this); omega); obtain ⟨hc6, hf6⟩ := bcell hb6)
  go_ret
  exact ⟨rfl, ((((((((Below.refl _ _).alloc (Nat.le_refl _) _).trans (hb1.mono (by first | omega | (simp; done) | (simp; omega)))).trans (hb2.mono (by first | omega | (simp; done) | (simp; omega)))).trans (hb3.mono (by first | omega | (simp; done) | (simp; omega)))).trans (hb4.mono (by first | omega | (simp; done) | (simp; omega)))).trans (hb5.mono (by first | omega | (simp; done) | (simp; omega)))).trans (hb6.mono (by first | omega | (simp; done) | (simp; omega))))⟩
theorem made_any {x : Md} {c : Int} (hc : madeCode x = c) (w : World) :
    Calls Try.prog 23 #[mdV x] w fun e w' => e = .returned (.int .i64 c) ∧ Below w.heap.size w w' := by
  subst hc
  obtain ⟨s, r, m, g, lo, hi⟩ := x
  unfold madeCode madeB
  cases h1 : allIn 0 600000 [s]
  · exact (made_1 h1 w).mono fun _ _ h => by simpa [h1] using h
  cases h2 : allIn 0 2000 [r]
  · exact (made_2 h1 h2 w).mono fun _ _ h => by simpa [h1, h2] using h
  cases h3 : allIn 0 400 [m]
  · exact (made_3 h1 h2 h3 w).mono fun _ _ h => by simpa [h1, h2, h3] using h
  cases h4 : allIn 0 19 [g]
  · exact (made_4 h1 h2 h3 h4 w).mono fun _ _ h => by simpa [h1, h2, h3, h4] using h
  cases h5 : allIn 0 s [lo]
  · exact (made_5 h1 h2 h3 h4 h5 w).mono fun _ _ h => by simpa [h1, h2, h3, h4, h5] using h
  cases h6 : allIn 0 (600000 - s) [hi]
  · exact (made_6 h1 h2 h3 h4 h5 h6 w).mono fun _ _ h => by simpa [h1, h2, h3, h4, h5, h6] using h
  exact (made_7 h1 h2 h3 h4 h5 h6 w).mono fun _ _ h => by simpa [h1, h2, h3, h4, h5, h6] using h
set_option maxHeartbeats 1000000 in
theorem rmade_1 {s r m g lo hi : Int} (h1 : allIn 0 600000 [s] = false) (w : World) :
    Calls Try.prog 22 #[mdV ⟨s, r, m, g, lo, hi⟩] w fun e w' => e = .returned (.int .i64 2) ∧ Below w.heap.size w w' := by
  have X1 := Lib.hid h1
  clear h1
  unfold mdV
  go_enter Try.func22, Try.ntmps22
  go_wp2_with (first | (go_at_call 30; (with_reducible refine (rwithin_any X1.out _).mono ?_); rintro e w' ⟨rfl, rfl⟩))
  go_ret
  exact ⟨rfl, (Below.refl _ _).alloc (Nat.le_refl _) _⟩
set_option maxHeartbeats 1000000 in
theorem rmade_2 {s r m g lo hi : Int} (h1 : allIn 0 600000 [s] = true) (h2 : allIn 0 2000 [r] = false) (w : World) :
    Calls Try.prog 22 #[mdV ⟨s, r, m, g, lo, hi⟩] w fun e w' => e = .returned (.int .i64 2) ∧ Below w.heap.size w w' := by
  have s01 := allIn_one.1 h1
  have s0 := s01.1
  have s1 := s01.2
  clear s01
  have X1 := Lib.hid h1
  have X2 := Lib.hid h2
  clear h1 h2
  unfold mdV
  go_enter Try.func22, Try.ntmps22
  go_wp2_with (first | (go_at_call 30; (with_reducible refine (rwithin_any X1.out _).mono ?_); rintro e w' ⟨rfl, rfl⟩) | (go_at_call 30; (with_reducible refine (rwithin_any X2.out _).mono ?_); rintro e w' ⟨rfl, rfl⟩))
  go_ret
  exact ⟨rfl, (Below.refl _ _).alloc (Nat.le_refl _) _⟩
set_option maxHeartbeats 1000000 in
theorem rmade_3 {s r m g lo hi : Int} (h1 : allIn 0 600000 [s] = true) (h2 : allIn 0 2000 [r] = true) (h3 : allIn 0 400 [m] = false) (w : World) :
    Calls Try.prog 22 #[mdV ⟨s, r, m, g, lo, hi⟩] w fun e w' => e = .returned (.int .i64 2) ∧ Below w.heap.size w w' := by
  have s01 := allIn_one.1 h1
  have s0 := s01.1
  have s1 := s01.2
  clear s01
  have X1 := Lib.hid h1
  have X2 := Lib.hid h2
  have X3 := Lib.hid h3
  clear h1 h2 h3
  unfold mdV
  go_enter Try.func22, Try.ntmps22
  go_wp2_with (first | (go_at_call 30; (with_reducible refine (rwithin_any X1.out _).mono ?_); rintro e w' ⟨rfl, rfl⟩) | (go_at_call 30; (with_reducible refine (rwithin_any X2.out _).mono ?_); rintro e w' ⟨rfl, rfl⟩) | (go_at_call 24; (with_reducible refine (rmoist_any X3.out _).mono ?_); rintro e w' ⟨rfl, rfl⟩))
  go_ret
  exact ⟨rfl, (Below.refl _ _).alloc (Nat.le_refl _) _⟩
set_option maxHeartbeats 1000000 in
theorem rmade_4 {s r m g lo hi : Int} (h1 : allIn 0 600000 [s] = true) (h2 : allIn 0 2000 [r] = true) (h3 : allIn 0 400 [m] = true) (h4 : allIn 0 19 [g] = false) (w : World) :
    Calls Try.prog 22 #[mdV ⟨s, r, m, g, lo, hi⟩] w fun e w' => e = .returned (.int .i64 2) ∧ Below w.heap.size w w' := by
  have s01 := allIn_one.1 h1
  have s0 := s01.1
  have s1 := s01.2
  clear s01
  have X1 := Lib.hid h1
  have X2 := Lib.hid h2
  have X3 := Lib.hid h3
  have X4 := Lib.hid h4
  clear h1 h2 h3 h4
  unfold mdV
  go_enter Try.func22, Try.ntmps22
  go_wp2_with (first | (go_at_call 30; (with_reducible refine (rwithin_any X1.out _).mono ?_); rintro e w' ⟨rfl, rfl⟩) | (go_at_call 30; (with_reducible refine (rwithin_any X2.out _).mono ?_); rintro e w' ⟨rfl, rfl⟩) | (go_at_call 24; (with_reducible refine (rmoist_any X3.out _).mono ?_); rintro e w' ⟨rfl, rfl⟩) | (go_at_call 30; (with_reducible refine (rwithin_any X4.out _).mono ?_); rintro e w' ⟨rfl, rfl⟩))
  go_ret
  exact ⟨rfl, (Below.refl _ _).alloc (Nat.le_refl _) _⟩
set_option maxHeartbeats 1000000 in
theorem rmade_5 {s r m g lo hi : Int} (h1 : allIn 0 600000 [s] = true) (h2 : allIn 0 2000 [r] = true) (h3 : allIn 0 400 [m] = true) (h4 : allIn 0 19 [g] = true) (h5 : allIn 0 s [lo] = false) (w : World) :
    Calls Try.prog 22 #[mdV ⟨s, r, m, g, lo, hi⟩] w fun e w' => e = .returned (.int .i64 2) ∧ Below w.heap.size w w' := by
  have s01 := allIn_one.1 h1
  have s0 := s01.1
  have s1 := s01.2
  clear s01
  have X1 := Lib.hid h1
  have X2 := Lib.hid h2
  have X3 := Lib.hid h3
  have X4 := Lib.hid h4
  have X5 := Lib.hid h5
  clear h1 h2 h3 h4 h5
  unfold mdV
  go_enter Try.func22, Try.ntmps22
  go_wp2_with (first | (go_at_call 30; (with_reducible refine (rwithin_any X1.out _).mono ?_); rintro e w' ⟨rfl, rfl⟩) | (go_at_call 30; (with_reducible refine (rwithin_any X2.out _).mono ?_); rintro e w' ⟨rfl, rfl⟩) | (go_at_call 24; (with_reducible refine (rmoist_any X3.out _).mono ?_); rintro e w' ⟨rfl, rfl⟩) | (go_at_call 30; (with_reducible refine (rwithin_any X4.out _).mono ?_); rintro e w' ⟨rfl, rfl⟩) | (go_at_call 30; (with_reducible refine (rwithin_any X5.out _).mono ?_); rintro e w' ⟨rfl, rfl⟩))
  go_ret
  exact ⟨rfl, (Below.refl _ _).alloc (Nat.le_refl _) _⟩
set_option maxHeartbeats 1000000 in
theorem rmade_6 {s r m g lo hi : Int} (h1 : allIn 0 600000 [s] = true) (h2 : allIn 0 2000 [r] = true) (h3 : allIn 0 400 [m] = true) (h4 : allIn 0 19 [g] = true) (h5 : allIn 0 s [lo] = true) (h6 : allIn 0 (600000 - s) [hi] = false) (w : World) :
    Calls Try.prog 22 #[mdV ⟨s, r, m, g, lo, hi⟩] w fun e w' => e = .returned (.int .i64 2) ∧ Below w.heap.size w w' := by
  have s01 := allIn_one.1 h1
  have s0 := s01.1
  have s1 := s01.2
  clear s01
  have X1 := Lib.hid h1
  have X2 := Lib.hid h2
  have X3 := Lib.hid h3
  have X4 := Lib.hid h4
  have X5 := Lib.hid h5
  have X6 := Lib.hid h6
  clear h1 h2 h3 h4 h5 h6
  unfold mdV
  go_enter Try.func22, Try.ntmps22
  go_wp2_with (first | (go_at_call 30; (with_reducible refine (rwithin_any X1.out _).mono ?_); rintro e w' ⟨rfl, rfl⟩) | (go_at_call 30; (with_reducible refine (rwithin_any X2.out _).mono ?_); rintro e w' ⟨rfl, rfl⟩) | (go_at_call 24; (with_reducible refine (rmoist_any X3.out _).mono ?_); rintro e w' ⟨rfl, rfl⟩) | (go_at_call 30; (with_reducible refine (rwithin_any X4.out _).mono ?_); rintro e w' ⟨rfl, rfl⟩) | (go_at_call 30; (with_reducible refine (rwithin_any X5.out _).mono ?_); rintro e w' ⟨rfl, rfl⟩) | (go_at_call 30; (with_reducible refine (rwithin_any X6.out _).mono ?_); rintro e w' ⟨rfl, rfl⟩))
  go_ret
  exact ⟨rfl, (Below.refl _ _).alloc (Nat.le_refl _) _⟩
set_option maxHeartbeats 1000000 in
theorem rmade_7 {s r m g lo hi : Int} (h1 : allIn 0 600000 [s] = true) (h2 : allIn 0 2000 [r] = true) (h3 : allIn 0 400 [m] = true) (h4 : allIn 0 19 [g] = true) (h5 : allIn 0 s [lo] = true) (h6 : allIn 0 (600000 - s) [hi] = true) (w : World) :
    Calls Try.prog 22 #[mdV ⟨s, r, m, g, lo, hi⟩] w fun e w' => e = .returned (.int .i64 0) ∧ Below w.heap.size w w' := by
  have s01 := allIn_one.1 h1
  have s0 := s01.1
  have s1 := s01.2
  clear s01
  have X1 := Lib.hid h1
  have X2 := Lib.hid h2
  have X3 := Lib.hid h3
  have X4 := Lib.hid h4
  have X5 := Lib.hid h5
  have X6 := Lib.hid h6
  clear h1 h2 h3 h4 h5 h6
  unfold mdV
  go_enter Try.func22, Try.ntmps22
  go_wp2_with (first | (go_at_call 30; (with_reducible refine (rwithin_any X1.out _).mono ?_); rintro e w' ⟨rfl, rfl⟩) | (go_at_call 30; (with_reducible refine (rwithin_any X2.out _).mono ?_); rintro e w' ⟨rfl, rfl⟩) | (go_at_call 24; (with_reducible refine (rmoist_any X3.out _).mono ?_); rintro e w' ⟨rfl, rfl⟩) | (go_at_call 30; (with_reducible refine (rwithin_any X4.out _).mono ?_); rintro e w' ⟨rfl, rfl⟩) | (go_at_call 30; (with_reducible refine (rwithin_any X5.out _).mono ?_); rintro e w' ⟨rfl, rfl⟩) | (go_at_call 30; (with_reducible refine (rwithin_any X6.out _).mono ?_); rintro e w' ⟨rfl, rfl⟩))
  go_ret
  exact ⟨rfl, (Below.refl _ _).alloc (Nat.le_refl _) _⟩
theorem rmade_any {x : Md} {c : Int} (hc : madeCode x = c) (w : World) :
    Calls Try.prog 22 #[mdV x] w fun e w' => e = .returned (.int .i64 c) ∧ Below w.heap.size w w' := by
  subst hc
  obtain ⟨s, r, m, g, lo, hi⟩ := x
  unfold madeCode madeB
  cases h1 : allIn 0 600000 [s]
  · exact (rmade_1 h1 w).mono fun _ _ h => by simpa [h1] using h
  cases h2 : allIn 0 2000 [r]
  · exact (rmade_2 h1 h2 w).mono fun _ _ h => by simpa [h1, h2] using h
  cases h3 : allIn 0 400 [m]
  · exact (rmade_3 h1 h2 h3 w).mono fun _ _ h => by simpa [h1, h2, h3] using h
  cases h4 : allIn 0 19 [g]
  · exact (rmade_4 h1 h2 h3 h4 w).mono fun _ _ h => by simpa [h1, h2, h3, h4] using h
  cases h5 : allIn 0 s [lo]
  · exact (rmade_5 h1 h2 h3 h4 h5 w).mono fun _ _ h => by simpa [h1, h2, h3, h4, h5] using h
  cases h6 : allIn 0 (600000 - s) [hi]
  · exact (rmade_6 h1 h2 h3 h4 h5 h6 w).mono fun _ _ h => by simpa [h1, h2, h3, h4, h5, h6] using h
  exact (rmade_7 h1 h2 h3 h4 h5 h6 w).mono fun _ _ h => by simpa [h1, h2, h3, h4, h5, h6] using h
end Go.Proofs.Ytffmaoalnilkkaa
