/- Walks over the timber seat: TimberDries. -/
import Derived.Test.YtnjbhidncicfiaaW3
import Derived.Test.YtnjbhidncicfiaaWA
namespace Go.Proofs.Ytnjbhidncicfiaa
open Go.RowKit

theorem dryOk_in {m t r : Int} (h : DryIn m t r) : dryOk m t r = true := by
  obtain ⟨a, b, c, d, e, f⟩ := h
  have h1 : inB 0 400 m = true := by unfold inB; rw [outB_iff.2 ⟨a, b⟩]; rfl
  have h2 : inB 0 400 t = true := by unfold inB; rw [outB_iff.2 ⟨c, d⟩]; rfl
  have h3 : inB 1 100 r = true := by unfold inB; rw [outB_iff.2 ⟨e, f⟩]; rfl
  rw [dryOk_eq, h1, h2, h3]; rfl
def XV (r d b : Int) : Value := .agg #[.int .i64 r, .int .i64 d, .int .i64 b]
set_option maxHeartbeats 1000000 in
theorem dries_no {m t r d b : Int} (hno : dryOk m t r = false) (w : World) :
    Calls Try.prog 16 #[.int .i64 m, .int .i64 t, .agg #[.int .i64 r, .int .i64 d, .int .i64 b]] w fun e w' => e = .returned (.bool true) ∧ Below w.heap.size w w' := by
  have A := fun wx => Lib.hid (dry_err hno d wx)
  have B := fun wx => Lib.hid (days_err hno b wx)
  have C := fun wx => Lib.hid (dryErr_any (dryCode_no hno) wx)
  clear hno
  go_enter Try.func16, Try.ntmps16
  go_wp2_with (first | (go_at_call 18; refine (awake_any _).mono ?_; rintro e w1 ⟨rfl, hb1⟩; have hs1 : w.heap.size < w1.heap.size := (by have := hb1.size; (try simp at this); omega); obtain ⟨hc1, hf1⟩ := bcell hb1) | (go_at_call 63; (refine Calls.mono (A _).out ?_); rintro e w2 ⟨rfl, hb2⟩; have hs2 : w.heap.size < w2.heap.size := (by have := hb2.size; (try simp at this); omega); obtain ⟨hc2, hf2⟩ := bcell hb2) | (go_at_call 64; (refine Calls.mono (B _).out ?_); rintro e w3 ⟨rfl, hb3⟩; have hs3 : w.heap.size < w3.heap.size := (by have := hb3.size; (try simp at this); omega); obtain ⟨hc3, hf3⟩ := bcell hb3) | (go_at_call 65; (refine Calls.mono (C _).out ?_); rintro e w4 ⟨rfl, rfl⟩))
  go_ret
  exact ⟨rfl, (((((Below.refl _ _).alloc (Nat.le_refl _) _).trans (hb1.mono (by first | omega | (simp; omega) | simp))).trans (hb2.mono (by first | omega | (simp; omega) | simp))).trans (hb3.mono (by first | omega | (simp; omega) | simp)))⟩
set_option maxHeartbeats 4000000 in
theorem dries_nn {m t r d b : Int} (hok : dryOk m t r = true) (hnb : inB 0 400 b = false) (hnd : inB 0 10000 d = false) (w : World) :
    Calls Try.prog 16 #[.int .i64 m, .int .i64 t, .agg #[.int .i64 r, .int .i64 d, .int .i64 b]] w fun e w' => e = .returned (.bool true) ∧ Below w.heap.size w w' := by
  have I := dryIn_of hok
  have C := fun wx => Lib.hid (dryErr_any (dryCode_ok hok) wx)
  have B := fun wx => Lib.hid (days_range hok hnb wx)
  have MB := fun wx => Lib.hid (moisture_any hnb wx)
  have RD : True := trivial
  clear hnb
  have A := fun wx => Lib.hid (dry_range hok hnd wx)
  have WD := fun wx => Lib.hid (rwithin_any hnd wx)
  clear hok hnd I
  go_enter Try.func16, Try.ntmps16
  go_wp2_with (first | (go_at_call 18; refine (awake_any _).mono ?_; rintro e w1 ⟨rfl, hb1⟩; have hs1 : w.heap.size < w1.heap.size := (by have := hb1.size; (try simp at this); omega); obtain ⟨hc1, hf1⟩ := bcell hb1) | (go_at_call 64; (refine Calls.mono (B _).out ?_); rintro e w3 ⟨rfl, hb3⟩; have hs3 : w.heap.size < w3.heap.size := (by have := hb3.size; (try simp at this); omega); obtain ⟨hc3, hf3⟩ := bcell hb3) | (go_at_call 65; (refine Calls.mono (C _).out ?_); rintro e w4 ⟨rfl, rfl⟩) | (go_at_call 41; (refine Calls.mono (MB _).out ?_); rintro e w4 ⟨rfl, rfl⟩) | (go_at_call 63; (refine Calls.mono (A _).out ?_); rintro e w2 ⟨rfl, hb2⟩; have hs2 : w.heap.size < w2.heap.size := (by have := hb2.size; (try simp at this); omega); obtain ⟨hc2, hf2⟩ := bcell hb2) | (go_at_call 39; (refine Calls.mono (WD _).out ?_); rintro e w4 ⟨rfl, rfl⟩))
  go_ret
  exact ⟨rfl, (((((Below.refl _ _).alloc (Nat.le_refl _) _).trans (hb1.mono (by first | omega | (simp; omega) | simp))).trans (hb2.mono (by first | omega | (simp; omega) | simp))).trans (hb3.mono (by first | omega | (simp; omega) | simp)))⟩
set_option maxHeartbeats 4000000 in
theorem dries_ny {m t r b : Int} (hok : dryOk m t r = true) (hnb : inB 0 400 b = false) (n : Nat) (hn : n ≤ 10000) (w : World) :
    Calls Try.prog 16 #[.int .i64 m, .int .i64 t, .agg #[.int .i64 r, .int .i64 n, .int .i64 b]] w fun e w' => e = .returned (.bool true) ∧ Below w.heap.size w w' := by
  have I := dryIn_of hok
  have C := fun wx => Lib.hid (dryErr_any (dryCode_ok hok) wx)
  have B := fun wx => Lib.hid (days_range hok hnb wx)
  have MB := fun wx => Lib.hid (moisture_any hnb wx)
  have RD : True := trivial
  clear hnb
  have A := fun wx => Lib.hid (dry_ok hok n hn wx)
  have RA := fun wx => Lib.hid (rdry_any I n hn wx)
  have WD := fun wx => Lib.hid (rwithin_any (lo := 0) (hi := 10000) (n := (n : Int)) (v := true) (by unfold inB; rw [outB_iff.2 (by omega)]; rfl) wx)
  have hb := dry_between (m := m) (t := t) (r := r) (lo := min m t) (hi := max m t) I.r0 (by omega) (by omega) (by omega) (by omega) n
  have I2 := I.at n
  have OK2 := dryOk_in I2
  by_cases hlast : n = 10000
  · have hq : ((n : Int) == 10000) = true := by rw [beq_iff_eq]; omega
    clear hlast
    obtain ⟨x, hx⟩ : ∃ x, dryN t r m n = x := ⟨_, rfl⟩
    rw [hx] at hb
    simp only [hx] at A RA
    clear hok OK2 I2 hx
    rcases Int.lt_trichotomy m t with hmt | hmt | hmt
    · have WM := fun wx => Lib.hid (rwithin_any (show inB m t x = true by have h0 : outB m t x = false := outB_iff.2 (by omega); unfold inB; rw [h0]; rfl) wx)
      clear hb
      go_enter Try.func16, Try.ntmps16
      go_wp2_with (first | (go_at_call 18; refine (awake_any _).mono ?_; rintro e w1 ⟨rfl, hb1⟩; have hs1 : w.heap.size < w1.heap.size := (by have := hb1.size; (try simp at this); omega); obtain ⟨hc1, hf1⟩ := bcell hb1) | (go_at_call 64; (refine Calls.mono (B _).out ?_); rintro e w3 ⟨rfl, hb3⟩; have hs3 : w.heap.size < w3.heap.size := (by have := hb3.size; (try simp at this); omega); obtain ⟨hc3, hf3⟩ := bcell hb3) | (go_at_call 65; (refine Calls.mono (C _).out ?_); rintro e w4 ⟨rfl, rfl⟩) | (go_at_call 41; (refine Calls.mono (MB _).out ?_); rintro e w4 ⟨rfl, rfl⟩) | (go_at_call 63; (refine Calls.mono (A _).out ?_); rintro e w2 ⟨rfl, hb2⟩; have hs2 : w.heap.size < w2.heap.size := (by have := hb2.size; (try simp at this); omega); obtain ⟨hc2, hf2⟩ := bcell hb2) | (go_at_call 39; (first | (with_reducible refine Calls.mono (WD _).out ?_) | (with_reducible refine Calls.mono (WM _).out ?_)); rintro e w4 ⟨rfl, rfl⟩) | (go_at_call 67; (refine Calls.mono (RA _).out ?_); rintro e w4 ⟨rfl, rfl⟩))
      go_ret
      exact ⟨rfl, (((((Below.refl _ _).alloc (Nat.le_refl _) _).trans (hb1.mono (by first | omega | (simp; omega) | simp))).trans (hb2.mono (by first | omega | (simp; omega) | simp))).trans (hb3.mono (by first | omega | (simp; omega) | simp)))⟩
    · subst hmt
      have WM := fun wx => Lib.hid (rwithin_any (show inB m m x = true by have h0 : outB m m x = false := outB_iff.2 (by omega); unfold inB; rw [h0]; rfl) wx)
      clear hb
      go_enter Try.func16, Try.ntmps16
      go_wp2_with (first | (go_at_call 18; refine (awake_any _).mono ?_; rintro e w1 ⟨rfl, hb1⟩; have hs1 : w.heap.size < w1.heap.size := (by have := hb1.size; (try simp at this); omega); obtain ⟨hc1, hf1⟩ := bcell hb1) | (go_at_call 64; (refine Calls.mono (B _).out ?_); rintro e w3 ⟨rfl, hb3⟩; have hs3 : w.heap.size < w3.heap.size := (by have := hb3.size; (try simp at this); omega); obtain ⟨hc3, hf3⟩ := bcell hb3) | (go_at_call 65; (refine Calls.mono (C _).out ?_); rintro e w4 ⟨rfl, rfl⟩) | (go_at_call 41; (refine Calls.mono (MB _).out ?_); rintro e w4 ⟨rfl, rfl⟩) | (go_at_call 63; (refine Calls.mono (A _).out ?_); rintro e w2 ⟨rfl, hb2⟩; have hs2 : w.heap.size < w2.heap.size := (by have := hb2.size; (try simp at this); omega); obtain ⟨hc2, hf2⟩ := bcell hb2) | (go_at_call 39; (first | (with_reducible refine Calls.mono (WD _).out ?_) | (with_reducible refine Calls.mono (WM _).out ?_)); rintro e w4 ⟨rfl, rfl⟩) | (go_at_call 67; (refine Calls.mono (RA _).out ?_); rintro e w4 ⟨rfl, rfl⟩))
      go_ret
      exact ⟨rfl, (((((Below.refl _ _).alloc (Nat.le_refl _) _).trans (hb1.mono (by first | omega | (simp; omega) | simp))).trans (hb2.mono (by first | omega | (simp; omega) | simp))).trans (hb3.mono (by first | omega | (simp; omega) | simp)))⟩
    · have WM := fun wx => Lib.hid (rwithin_any (show inB t m x = true by have h0 : outB t m x = false := outB_iff.2 (by omega); unfold inB; rw [h0]; rfl) wx)
      clear hb
      go_enter Try.func16, Try.ntmps16
      go_wp2_with (first | (go_at_call 18; refine (awake_any _).mono ?_; rintro e w1 ⟨rfl, hb1⟩; have hs1 : w.heap.size < w1.heap.size := (by have := hb1.size; (try simp at this); omega); obtain ⟨hc1, hf1⟩ := bcell hb1) | (go_at_call 64; (refine Calls.mono (B _).out ?_); rintro e w3 ⟨rfl, hb3⟩; have hs3 : w.heap.size < w3.heap.size := (by have := hb3.size; (try simp at this); omega); obtain ⟨hc3, hf3⟩ := bcell hb3) | (go_at_call 65; (refine Calls.mono (C _).out ?_); rintro e w4 ⟨rfl, rfl⟩) | (go_at_call 41; (refine Calls.mono (MB _).out ?_); rintro e w4 ⟨rfl, rfl⟩) | (go_at_call 63; (refine Calls.mono (A _).out ?_); rintro e w2 ⟨rfl, hb2⟩; have hs2 : w.heap.size < w2.heap.size := (by have := hb2.size; (try simp at this); omega); obtain ⟨hc2, hf2⟩ := bcell hb2) | (go_at_call 39; (first | (with_reducible refine Calls.mono (WD _).out ?_) | (with_reducible refine Calls.mono (WM _).out ?_)); rintro e w4 ⟨rfl, rfl⟩) | (go_at_call 67; (refine Calls.mono (RA _).out ?_); rintro e w4 ⟨rfl, rfl⟩))
      go_ret
      exact ⟨rfl, (((((Below.refl _ _).alloc (Nat.le_refl _) _).trans (hb1.mono (by first | omega | (simp; omega) | simp))).trans (hb2.mono (by first | omega | (simp; omega) | simp))).trans (hb3.mono (by first | omega | (simp; omega) | simp)))⟩
  · have hq : ((n : Int) == 10000) = false := by rw [beq_eq_false_iff_ne]; omega
    have A2 := fun wx => Lib.hid (show Calls Try.prog 63 #[.int .i64 m, .int .i64 t, .int .i64 r, .int .i64 ((n : Int) + 1)] wx _ from dry_ok hok (n + 1) (by omega) wx)
    have A3 := fun wx => Lib.hid (show Calls Try.prog 63 #[.int .i64 (dryN t r m n), .int .i64 t, .int .i64 r, .int .i64 1] wx _ from dry_ok OK2 1 (by omega) wx)
    have hy : dryN t r (dryN t r m n) 1 = dryN t r m (n + 1) := rfl
    simp only [hy] at A3
    obtain ⟨y, hyy⟩ : ∃ y, dryN t r m (n + 1) = y := ⟨_, rfl⟩
    simp only [hyy] at A2 A3
    obtain ⟨x, hx⟩ : ∃ x, dryN t r m n = x := ⟨_, rfl⟩
    rw [hx] at hb
    simp only [hx] at A RA A3
    clear hok OK2 I2 hx hyy hy hlast
    rcases Int.lt_trichotomy m t with hmt | hmt | hmt
    · have WM := fun wx => Lib.hid (rwithin_any (show inB m t x = true by have h0 : outB m t x = false := outB_iff.2 (by omega); unfold inB; rw [h0]; rfl) wx)
      clear hb
      go_enter Try.func16, Try.ntmps16
      go_wp2_with (first | (go_at_call 18; refine (awake_any _).mono ?_; rintro e w1 ⟨rfl, hb1⟩; have hs1 : w.heap.size < w1.heap.size := (by have := hb1.size; (try simp at this); omega); obtain ⟨hc1, hf1⟩ := bcell hb1) | (go_at_call 64; (refine Calls.mono (B _).out ?_); rintro e w3 ⟨rfl, hb3⟩; have hs3 : w.heap.size < w3.heap.size := (by have := hb3.size; (try simp at this); omega); obtain ⟨hc3, hf3⟩ := bcell hb3) | (go_at_call 65; (refine Calls.mono (C _).out ?_); rintro e w4 ⟨rfl, rfl⟩) | (go_at_call 41; (refine Calls.mono (MB _).out ?_); rintro e w4 ⟨rfl, rfl⟩) | (go_at_call 63; (with_reducible refine Calls.mono (A _).out ?_); rintro e w2 ⟨rfl, hb2⟩; have hs2 : w.heap.size < w2.heap.size := (by have := hb2.size; (try simp at this); omega); obtain ⟨hc2, hf2⟩ := bcell hb2) | (go_at_call 63; (with_reducible refine Calls.mono (A2 _).out ?_); rintro e w5 ⟨rfl, hb5⟩; have hs5 : w.heap.size < w5.heap.size := (by have := hb5.size; (try simp at this); omega); obtain ⟨hc5, hf5⟩ := bcell hb5) | (go_at_call 63; (with_reducible refine Calls.mono (A3 _).out ?_); rintro e w6 ⟨rfl, hb6⟩; have hs6 : w.heap.size < w6.heap.size := (by have := hb6.size; (try simp at this); omega); obtain ⟨hc6, hf6⟩ := bcell hb6) | (go_at_call 39; (first | (with_reducible refine Calls.mono (WD _).out ?_) | (with_reducible refine Calls.mono (WM _).out ?_)); rintro e w4 ⟨rfl, rfl⟩) | (go_at_call 67; (refine Calls.mono (RA _).out ?_); rintro e w4 ⟨rfl, rfl⟩))
      go_ret
      exact ⟨rfl, (((((((Below.refl _ _).alloc (Nat.le_refl _) _).trans (hb1.mono (by first | omega | (simp; omega) | simp))).trans (hb2.mono (by first | omega | (simp; omega) | simp))).trans (hb3.mono (by first | omega | (simp; omega) | simp))).trans (hb5.mono (by first | omega | (simp; omega) | simp))).trans (hb6.mono (by first | omega | (simp; omega) | simp)))⟩
    · subst hmt
      have WM := fun wx => Lib.hid (rwithin_any (show inB m m x = true by have h0 : outB m m x = false := outB_iff.2 (by omega); unfold inB; rw [h0]; rfl) wx)
      clear hb
      go_enter Try.func16, Try.ntmps16
      go_wp2_with (first | (go_at_call 18; refine (awake_any _).mono ?_; rintro e w1 ⟨rfl, hb1⟩; have hs1 : w.heap.size < w1.heap.size := (by have := hb1.size; (try simp at this); omega); obtain ⟨hc1, hf1⟩ := bcell hb1) | (go_at_call 64; (refine Calls.mono (B _).out ?_); rintro e w3 ⟨rfl, hb3⟩; have hs3 : w.heap.size < w3.heap.size := (by have := hb3.size; (try simp at this); omega); obtain ⟨hc3, hf3⟩ := bcell hb3) | (go_at_call 65; (refine Calls.mono (C _).out ?_); rintro e w4 ⟨rfl, rfl⟩) | (go_at_call 41; (refine Calls.mono (MB _).out ?_); rintro e w4 ⟨rfl, rfl⟩) | (go_at_call 63; (with_reducible refine Calls.mono (A _).out ?_); rintro e w2 ⟨rfl, hb2⟩; have hs2 : w.heap.size < w2.heap.size := (by have := hb2.size; (try simp at this); omega); obtain ⟨hc2, hf2⟩ := bcell hb2) | (go_at_call 63; (with_reducible refine Calls.mono (A2 _).out ?_); rintro e w5 ⟨rfl, hb5⟩; have hs5 : w.heap.size < w5.heap.size := (by have := hb5.size; (try simp at this); omega); obtain ⟨hc5, hf5⟩ := bcell hb5) | (go_at_call 63; (with_reducible refine Calls.mono (A3 _).out ?_); rintro e w6 ⟨rfl, hb6⟩; have hs6 : w.heap.size < w6.heap.size := (by have := hb6.size; (try simp at this); omega); obtain ⟨hc6, hf6⟩ := bcell hb6) | (go_at_call 39; (first | (with_reducible refine Calls.mono (WD _).out ?_) | (with_reducible refine Calls.mono (WM _).out ?_)); rintro e w4 ⟨rfl, rfl⟩) | (go_at_call 67; (refine Calls.mono (RA _).out ?_); rintro e w4 ⟨rfl, rfl⟩))
      go_ret
      exact ⟨rfl, (((((((Below.refl _ _).alloc (Nat.le_refl _) _).trans (hb1.mono (by first | omega | (simp; omega) | simp))).trans (hb2.mono (by first | omega | (simp; omega) | simp))).trans (hb3.mono (by first | omega | (simp; omega) | simp))).trans (hb5.mono (by first | omega | (simp; omega) | simp))).trans (hb6.mono (by first | omega | (simp; omega) | simp)))⟩
    · have WM := fun wx => Lib.hid (rwithin_any (show inB t m x = true by have h0 : outB t m x = false := outB_iff.2 (by omega); unfold inB; rw [h0]; rfl) wx)
      clear hb
      go_enter Try.func16, Try.ntmps16
      go_wp2_with (first | (go_at_call 18; refine (awake_any _).mono ?_; rintro e w1 ⟨rfl, hb1⟩; have hs1 : w.heap.size < w1.heap.size := (by have := hb1.size; (try simp at this); omega); obtain ⟨hc1, hf1⟩ := bcell hb1) | (go_at_call 64; (refine Calls.mono (B _).out ?_); rintro e w3 ⟨rfl, hb3⟩; have hs3 : w.heap.size < w3.heap.size := (by have := hb3.size; (try simp at this); omega); obtain ⟨hc3, hf3⟩ := bcell hb3) | (go_at_call 65; (refine Calls.mono (C _).out ?_); rintro e w4 ⟨rfl, rfl⟩) | (go_at_call 41; (refine Calls.mono (MB _).out ?_); rintro e w4 ⟨rfl, rfl⟩) | (go_at_call 63; (with_reducible refine Calls.mono (A _).out ?_); rintro e w2 ⟨rfl, hb2⟩; have hs2 : w.heap.size < w2.heap.size := (by have := hb2.size; (try simp at this); omega); obtain ⟨hc2, hf2⟩ := bcell hb2) | (go_at_call 63; (with_reducible refine Calls.mono (A2 _).out ?_); rintro e w5 ⟨rfl, hb5⟩; have hs5 : w.heap.size < w5.heap.size := (by have := hb5.size; (try simp at this); omega); obtain ⟨hc5, hf5⟩ := bcell hb5) | (go_at_call 63; (with_reducible refine Calls.mono (A3 _).out ?_); rintro e w6 ⟨rfl, hb6⟩; have hs6 : w.heap.size < w6.heap.size := (by have := hb6.size; (try simp at this); omega); obtain ⟨hc6, hf6⟩ := bcell hb6) | (go_at_call 39; (first | (with_reducible refine Calls.mono (WD _).out ?_) | (with_reducible refine Calls.mono (WM _).out ?_)); rintro e w4 ⟨rfl, rfl⟩) | (go_at_call 67; (refine Calls.mono (RA _).out ?_); rintro e w4 ⟨rfl, rfl⟩))
      go_ret
      exact ⟨rfl, (((((((Below.refl _ _).alloc (Nat.le_refl _) _).trans (hb1.mono (by first | omega | (simp; omega) | simp))).trans (hb2.mono (by first | omega | (simp; omega) | simp))).trans (hb3.mono (by first | omega | (simp; omega) | simp))).trans (hb5.mono (by first | omega | (simp; omega) | simp))).trans (hb6.mono (by first | omega | (simp; omega) | simp)))⟩
set_option maxHeartbeats 4000000 in
theorem dries_yn {m t r d b : Int} (hok : dryOk m t r = true) (b0 : 0 ≤ b) (b1 : b ≤ 400) (hnd : inB 0 10000 d = false) (w : World) :
    Calls Try.prog 16 #[.int .i64 m, .int .i64 t, .agg #[.int .i64 r, .int .i64 d, .int .i64 b]] w fun e w' => e = .returned (.bool true) ∧ Below w.heap.size w w' := by
  have I := dryIn_of hok
  have C := fun wx => Lib.hid (dryErr_any (dryCode_ok hok) wx)
  obtain ⟨k, hk⟩ := first_exists (t := t) (m := m) I.r0 b0
  have B := fun wx => Lib.hid (days_ok hok b0 b1 k hk wx)
  have MB := fun wx => Lib.hid (moisture_any (n := b) (v := true) (by unfold inB; rw [outB_iff.2 ⟨b0, b1⟩]; rfl) wx)
  have RD := fun wx => Lib.hid (rdays_any I b0 b1 k hk wx)
  clear hk
  have A := fun wx => Lib.hid (dry_range hok hnd wx)
  have WD := fun wx => Lib.hid (rwithin_any hnd wx)
  clear hok hnd I
  go_enter Try.func16, Try.ntmps16
  go_wp2_with (first | (go_at_call 18; refine (awake_any _).mono ?_; rintro e w1 ⟨rfl, hb1⟩; have hs1 : w.heap.size < w1.heap.size := (by have := hb1.size; (try simp at this); omega); obtain ⟨hc1, hf1⟩ := bcell hb1) | (go_at_call 64; (refine Calls.mono (B _).out ?_); rintro e w3 ⟨rfl, hb3⟩; have hs3 : w.heap.size < w3.heap.size := (by have := hb3.size; (try simp at this); omega); obtain ⟨hc3, hf3⟩ := bcell hb3) | (go_at_call 65; (refine Calls.mono (C _).out ?_); rintro e w4 ⟨rfl, rfl⟩) | (go_at_call 41; (refine Calls.mono (MB _).out ?_); rintro e w4 ⟨rfl, rfl⟩) | (go_at_call 66; (refine Calls.mono (RD _).out ?_); rintro e w4 ⟨rfl, rfl⟩) | (go_at_call 63; (refine Calls.mono (A _).out ?_); rintro e w2 ⟨rfl, hb2⟩; have hs2 : w.heap.size < w2.heap.size := (by have := hb2.size; (try simp at this); omega); obtain ⟨hc2, hf2⟩ := bcell hb2) | (go_at_call 39; (refine Calls.mono (WD _).out ?_); rintro e w4 ⟨rfl, rfl⟩))
  go_ret
  exact ⟨rfl, (((((Below.refl _ _).alloc (Nat.le_refl _) _).trans (hb1.mono (by first | omega | (simp; omega) | simp))).trans (hb2.mono (by first | omega | (simp; omega) | simp))).trans (hb3.mono (by first | omega | (simp; omega) | simp)))⟩
set_option maxHeartbeats 4000000 in
theorem dries_yy {m t r b : Int} (hok : dryOk m t r = true) (b0 : 0 ≤ b) (b1 : b ≤ 400) (n : Nat) (hn : n ≤ 10000) (w : World) :
    Calls Try.prog 16 #[.int .i64 m, .int .i64 t, .agg #[.int .i64 r, .int .i64 n, .int .i64 b]] w fun e w' => e = .returned (.bool true) ∧ Below w.heap.size w w' := by
  have I := dryIn_of hok
  have C := fun wx => Lib.hid (dryErr_any (dryCode_ok hok) wx)
  obtain ⟨k, hk⟩ := first_exists (t := t) (m := m) I.r0 b0
  have B := fun wx => Lib.hid (days_ok hok b0 b1 k hk wx)
  have MB := fun wx => Lib.hid (moisture_any (n := b) (v := true) (by unfold inB; rw [outB_iff.2 ⟨b0, b1⟩]; rfl) wx)
  have RD := fun wx => Lib.hid (rdays_any I b0 b1 k hk wx)
  clear hk
  have A := fun wx => Lib.hid (dry_ok hok n hn wx)
  have RA := fun wx => Lib.hid (rdry_any I n hn wx)
  have WD := fun wx => Lib.hid (rwithin_any (lo := 0) (hi := 10000) (n := (n : Int)) (v := true) (by unfold inB; rw [outB_iff.2 (by omega)]; rfl) wx)
  have hb := dry_between (m := m) (t := t) (r := r) (lo := min m t) (hi := max m t) I.r0 (by omega) (by omega) (by omega) (by omega) n
  have I2 := I.at n
  have OK2 := dryOk_in I2
  by_cases hlast : n = 10000
  · have hq : ((n : Int) == 10000) = true := by rw [beq_iff_eq]; omega
    clear hlast
    obtain ⟨x, hx⟩ : ∃ x, dryN t r m n = x := ⟨_, rfl⟩
    rw [hx] at hb
    simp only [hx] at A RA
    clear hok OK2 I2 hx
    rcases Int.lt_trichotomy m t with hmt | hmt | hmt
    · have WM := fun wx => Lib.hid (rwithin_any (show inB m t x = true by have h0 : outB m t x = false := outB_iff.2 (by omega); unfold inB; rw [h0]; rfl) wx)
      clear hb
      go_enter Try.func16, Try.ntmps16
      go_wp2_with (first | (go_at_call 18; refine (awake_any _).mono ?_; rintro e w1 ⟨rfl, hb1⟩; have hs1 : w.heap.size < w1.heap.size := (by have := hb1.size; (try simp at this); omega); obtain ⟨hc1, hf1⟩ := bcell hb1) | (go_at_call 64; (refine Calls.mono (B _).out ?_); rintro e w3 ⟨rfl, hb3⟩; have hs3 : w.heap.size < w3.heap.size := (by have := hb3.size; (try simp at this); omega); obtain ⟨hc3, hf3⟩ := bcell hb3) | (go_at_call 65; (refine Calls.mono (C _).out ?_); rintro e w4 ⟨rfl, rfl⟩) | (go_at_call 41; (refine Calls.mono (MB _).out ?_); rintro e w4 ⟨rfl, rfl⟩) | (go_at_call 66; (refine Calls.mono (RD _).out ?_); rintro e w4 ⟨rfl, rfl⟩) | (go_at_call 63; (refine Calls.mono (A _).out ?_); rintro e w2 ⟨rfl, hb2⟩; have hs2 : w.heap.size < w2.heap.size := (by have := hb2.size; (try simp at this); omega); obtain ⟨hc2, hf2⟩ := bcell hb2) | (go_at_call 39; (first | (with_reducible refine Calls.mono (WD _).out ?_) | (with_reducible refine Calls.mono (WM _).out ?_)); rintro e w4 ⟨rfl, rfl⟩) | (go_at_call 67; (refine Calls.mono (RA _).out ?_); rintro e w4 ⟨rfl, rfl⟩))
      go_ret
      exact ⟨rfl, (((((Below.refl _ _).alloc (Nat.le_refl _) _).trans (hb1.mono (by first | omega | (simp; omega) | simp))).trans (hb2.mono (by first | omega | (simp; omega) | simp))).trans (hb3.mono (by first | omega | (simp; omega) | simp)))⟩
    · subst hmt
      have WM := fun wx => Lib.hid (rwithin_any (show inB m m x = true by have h0 : outB m m x = false := outB_iff.2 (by omega); unfold inB; rw [h0]; rfl) wx)
      clear hb
      go_enter Try.func16, Try.ntmps16
      go_wp2_with (first | (go_at_call 18; refine (awake_any _).mono ?_; rintro e w1 ⟨rfl, hb1⟩; have hs1 : w.heap.size < w1.heap.size := (by have := hb1.size; (try simp at this); omega); obtain ⟨hc1, hf1⟩ := bcell hb1) | (go_at_call 64; (refine Calls.mono (B _).out ?_); rintro e w3 ⟨rfl, hb3⟩; have hs3 : w.heap.size < w3.heap.size := (by have := hb3.size; (try simp at this); omega); obtain ⟨hc3, hf3⟩ := bcell hb3) | (go_at_call 65; (refine Calls.mono (C _).out ?_); rintro e w4 ⟨rfl, rfl⟩) | (go_at_call 41; (refine Calls.mono (MB _).out ?_); rintro e w4 ⟨rfl, rfl⟩) | (go_at_call 66; (refine Calls.mono (RD _).out ?_); rintro e w4 ⟨rfl, rfl⟩) | (go_at_call 63; (refine Calls.mono (A _).out ?_); rintro e w2 ⟨rfl, hb2⟩; have hs2 : w.heap.size < w2.heap.size := (by have := hb2.size; (try simp at this); omega); obtain ⟨hc2, hf2⟩ := bcell hb2) | (go_at_call 39; (first | (with_reducible refine Calls.mono (WD _).out ?_) | (with_reducible refine Calls.mono (WM _).out ?_)); rintro e w4 ⟨rfl, rfl⟩) | (go_at_call 67; (refine Calls.mono (RA _).out ?_); rintro e w4 ⟨rfl, rfl⟩))
      go_ret
      exact ⟨rfl, (((((Below.refl _ _).alloc (Nat.le_refl _) _).trans (hb1.mono (by first | omega | (simp; omega) | simp))).trans (hb2.mono (by first | omega | (simp; omega) | simp))).trans (hb3.mono (by first | omega | (simp; omega) | simp)))⟩
    · have WM := fun wx => Lib.hid (rwithin_any (show inB t m x = true by have h0 : outB t m x = false := outB_iff.2 (by omega); unfold inB; rw [h0]; rfl) wx)
      clear hb
      go_enter Try.func16, Try.ntmps16
      go_wp2_with (first | (go_at_call 18; refine (awake_any _).mono ?_; rintro e w1 ⟨rfl, hb1⟩; have hs1 : w.heap.size < w1.heap.size := (by have := hb1.size; (try simp at this); omega); obtain ⟨hc1, hf1⟩ := bcell hb1) | (go_at_call 64; (refine Calls.mono (B _).out ?_); rintro e w3 ⟨rfl, hb3⟩; have hs3 : w.heap.size < w3.heap.size := (by have := hb3.size; (try simp at this); omega); obtain ⟨hc3, hf3⟩ := bcell hb3) | (go_at_call 65; (refine Calls.mono (C _).out ?_); rintro e w4 ⟨rfl, rfl⟩) | (go_at_call 41; (refine Calls.mono (MB _).out ?_); rintro e w4 ⟨rfl, rfl⟩) | (go_at_call 66; (refine Calls.mono (RD _).out ?_); rintro e w4 ⟨rfl, rfl⟩) | (go_at_call 63; (refine Calls.mono (A _).out ?_); rintro e w2 ⟨rfl, hb2⟩; have hs2 : w.heap.size < w2.heap.size := (by have := hb2.size; (try simp at this); omega); obtain ⟨hc2, hf2⟩ := bcell hb2) | (go_at_call 39; (first | (with_reducible refine Calls.mono (WD _).out ?_) | (with_reducible refine Calls.mono (WM _).out ?_)); rintro e w4 ⟨rfl, rfl⟩) | (go_at_call 67; (refine Calls.mono (RA _).out ?_); rintro e w4 ⟨rfl, rfl⟩))
      go_ret
      exact ⟨rfl, (((((Below.refl _ _).alloc (Nat.le_refl _) _).trans (hb1.mono (by first | omega | (simp; omega) | simp))).trans (hb2.mono (by first | omega | (simp; omega) | simp))).trans (hb3.mono (by first | omega | (simp; omega) | simp)))⟩
  · have hq : ((n : Int) == 10000) = false := by rw [beq_eq_false_iff_ne]; omega
    have A2 := fun wx => Lib.hid (show Calls Try.prog 63 #[.int .i64 m, .int .i64 t, .int .i64 r, .int .i64 ((n : Int) + 1)] wx _ from dry_ok hok (n + 1) (by omega) wx)
    have A3 := fun wx => Lib.hid (show Calls Try.prog 63 #[.int .i64 (dryN t r m n), .int .i64 t, .int .i64 r, .int .i64 1] wx _ from dry_ok OK2 1 (by omega) wx)
    have hy : dryN t r (dryN t r m n) 1 = dryN t r m (n + 1) := rfl
    simp only [hy] at A3
    obtain ⟨y, hyy⟩ : ∃ y, dryN t r m (n + 1) = y := ⟨_, rfl⟩
    simp only [hyy] at A2 A3
    obtain ⟨x, hx⟩ : ∃ x, dryN t r m n = x := ⟨_, rfl⟩
    rw [hx] at hb
    simp only [hx] at A RA A3
    clear hok OK2 I2 hx hyy hy hlast
    rcases Int.lt_trichotomy m t with hmt | hmt | hmt
    · have WM := fun wx => Lib.hid (rwithin_any (show inB m t x = true by have h0 : outB m t x = false := outB_iff.2 (by omega); unfold inB; rw [h0]; rfl) wx)
      clear hb
      go_enter Try.func16, Try.ntmps16
      go_wp2_with (first | (go_at_call 18; refine (awake_any _).mono ?_; rintro e w1 ⟨rfl, hb1⟩; have hs1 : w.heap.size < w1.heap.size := (by have := hb1.size; (try simp at this); omega); obtain ⟨hc1, hf1⟩ := bcell hb1) | (go_at_call 64; (refine Calls.mono (B _).out ?_); rintro e w3 ⟨rfl, hb3⟩; have hs3 : w.heap.size < w3.heap.size := (by have := hb3.size; (try simp at this); omega); obtain ⟨hc3, hf3⟩ := bcell hb3) | (go_at_call 65; (refine Calls.mono (C _).out ?_); rintro e w4 ⟨rfl, rfl⟩) | (go_at_call 41; (refine Calls.mono (MB _).out ?_); rintro e w4 ⟨rfl, rfl⟩) | (go_at_call 66; (refine Calls.mono (RD _).out ?_); rintro e w4 ⟨rfl, rfl⟩) | (go_at_call 63; (with_reducible refine Calls.mono (A _).out ?_); rintro e w2 ⟨rfl, hb2⟩; have hs2 : w.heap.size < w2.heap.size := (by have := hb2.size; (try simp at this); omega); obtain ⟨hc2, hf2⟩ := bcell hb2) | (go_at_call 63; (with_reducible refine Calls.mono (A2 _).out ?_); rintro e w5 ⟨rfl, hb5⟩; have hs5 : w.heap.size < w5.heap.size := (by have := hb5.size; (try simp at this); omega); obtain ⟨hc5, hf5⟩ := bcell hb5) | (go_at_call 63; (with_reducible refine Calls.mono (A3 _).out ?_); rintro e w6 ⟨rfl, hb6⟩; have hs6 : w.heap.size < w6.heap.size := (by have := hb6.size; (try simp at this); omega); obtain ⟨hc6, hf6⟩ := bcell hb6) | (go_at_call 39; (first | (with_reducible refine Calls.mono (WD _).out ?_) | (with_reducible refine Calls.mono (WM _).out ?_)); rintro e w4 ⟨rfl, rfl⟩) | (go_at_call 67; (refine Calls.mono (RA _).out ?_); rintro e w4 ⟨rfl, rfl⟩))
      go_ret
      exact ⟨rfl, (((((((Below.refl _ _).alloc (Nat.le_refl _) _).trans (hb1.mono (by first | omega | (simp; omega) | simp))).trans (hb2.mono (by first | omega | (simp; omega) | simp))).trans (hb3.mono (by first | omega | (simp; omega) | simp))).trans (hb5.mono (by first | omega | (simp; omega) | simp))).trans (hb6.mono (by first | omega | (simp; omega) | simp)))⟩
    · subst hmt
      have WM := fun wx => Lib.hid (rwithin_any (show inB m m x = true by have h0 : outB m m x = false := outB_iff.2 (by omega); unfold inB; rw [h0]; rfl) wx)
      clear hb
      go_enter Try.func16, Try.ntmps16
      go_wp2_with (first | (go_at_call 18; refine (awake_any _).mono ?_; rintro e w1 ⟨rfl, hb1⟩; have hs1 : w.heap.size < w1.heap.size := (by have := hb1.size; (try simp at this); omega); obtain ⟨hc1, hf1⟩ := bcell hb1) | (go_at_call 64; (refine Calls.mono (B _).out ?_); rintro e w3 ⟨rfl, hb3⟩; have hs3 : w.heap.size < w3.heap.size := (by have := hb3.size; (try simp at this); omega); obtain ⟨hc3, hf3⟩ := bcell hb3) | (go_at_call 65; (refine Calls.mono (C _).out ?_); rintro e w4 ⟨rfl, rfl⟩) | (go_at_call 41; (refine Calls.mono (MB _).out ?_); rintro e w4 ⟨rfl, rfl⟩) | (go_at_call 66; (refine Calls.mono (RD _).out ?_); rintro e w4 ⟨rfl, rfl⟩) | (go_at_call 63; (with_reducible refine Calls.mono (A _).out ?_); rintro e w2 ⟨rfl, hb2⟩; have hs2 : w.heap.size < w2.heap.size := (by have := hb2.size; (try simp at this); omega); obtain ⟨hc2, hf2⟩ := bcell hb2) | (go_at_call 63; (with_reducible refine Calls.mono (A2 _).out ?_); rintro e w5 ⟨rfl, hb5⟩; have hs5 : w.heap.size < w5.heap.size := (by have := hb5.size; (try simp at this); omega); obtain ⟨hc5, hf5⟩ := bcell hb5) | (go_at_call 63; (with_reducible refine Calls.mono (A3 _).out ?_); rintro e w6 ⟨rfl, hb6⟩; have hs6 : w.heap.size < w6.heap.size := (by have := hb6.size; (try simp at this); omega); obtain ⟨hc6, hf6⟩ := bcell hb6) | (go_at_call 39; (first | (with_reducible refine Calls.mono (WD _).out ?_) | (with_reducible refine Calls.mono (WM _).out ?_)); rintro e w4 ⟨rfl, rfl⟩) | (go_at_call 67; (refine Calls.mono (RA _).out ?_); rintro e w4 ⟨rfl, rfl⟩))
      go_ret
      exact ⟨rfl, (((((((Below.refl _ _).alloc (Nat.le_refl _) _).trans (hb1.mono (by first | omega | (simp; omega) | simp))).trans (hb2.mono (by first | omega | (simp; omega) | simp))).trans (hb3.mono (by first | omega | (simp; omega) | simp))).trans (hb5.mono (by first | omega | (simp; omega) | simp))).trans (hb6.mono (by first | omega | (simp; omega) | simp)))⟩
    · have WM := fun wx => Lib.hid (rwithin_any (show inB t m x = true by have h0 : outB t m x = false := outB_iff.2 (by omega); unfold inB; rw [h0]; rfl) wx)
      clear hb
      go_enter Try.func16, Try.ntmps16
      go_wp2_with (first | (go_at_call 18; refine (awake_any _).mono ?_; rintro e w1 ⟨rfl, hb1⟩; have hs1 : w.heap.size < w1.heap.size := (by have := hb1.size; (try simp at this); omega); obtain ⟨hc1, hf1⟩ := bcell hb1) | (go_at_call 64; (refine Calls.mono (B _).out ?_); rintro e w3 ⟨rfl, hb3⟩; have hs3 : w.heap.size < w3.heap.size := (by have := hb3.size; (try simp at this); omega); obtain ⟨hc3, hf3⟩ := bcell hb3) | (go_at_call 65; (refine Calls.mono (C _).out ?_); rintro e w4 ⟨rfl, rfl⟩) | (go_at_call 41; (refine Calls.mono (MB _).out ?_); rintro e w4 ⟨rfl, rfl⟩) | (go_at_call 66; (refine Calls.mono (RD _).out ?_); rintro e w4 ⟨rfl, rfl⟩) | (go_at_call 63; (with_reducible refine Calls.mono (A _).out ?_); rintro e w2 ⟨rfl, hb2⟩; have hs2 : w.heap.size < w2.heap.size := (by have := hb2.size; (try simp at this); omega); obtain ⟨hc2, hf2⟩ := bcell hb2) | (go_at_call 63; (with_reducible refine Calls.mono (A2 _).out ?_); rintro e w5 ⟨rfl, hb5⟩; have hs5 : w.heap.size < w5.heap.size := (by have := hb5.size; (try simp at this); omega); obtain ⟨hc5, hf5⟩ := bcell hb5) | (go_at_call 63; (with_reducible refine Calls.mono (A3 _).out ?_); rintro e w6 ⟨rfl, hb6⟩; have hs6 : w.heap.size < w6.heap.size := (by have := hb6.size; (try simp at this); omega); obtain ⟨hc6, hf6⟩ := bcell hb6) | (go_at_call 39; (first | (with_reducible refine Calls.mono (WD _).out ?_) | (with_reducible refine Calls.mono (WM _).out ?_)); rintro e w4 ⟨rfl, rfl⟩) | (go_at_call 67; (refine Calls.mono (RA _).out ?_); rintro e w4 ⟨rfl, rfl⟩))
      go_ret
      exact ⟨rfl, (((((((Below.refl _ _).alloc (Nat.le_refl _) _).trans (hb1.mono (by first | omega | (simp; omega) | simp))).trans (hb2.mono (by first | omega | (simp; omega) | simp))).trans (hb3.mono (by first | omega | (simp; omega) | simp))).trans (hb5.mono (by first | omega | (simp; omega) | simp))).trans (hb6.mono (by first | omega | (simp; omega) | simp)))⟩
theorem dries_any (m t r d b : Int) (w : World) :
    Calls Try.prog 16 #[.int .i64 m, .int .i64 t, .agg #[.int .i64 r, .int .i64 d, .int .i64 b]] w fun e w' => e = .returned (.bool true) ∧ Below w.heap.size w w' := by
  cases hok : dryOk m t r
  · exact dries_no hok w
  · cases hnb : inB 0 400 b
    · cases hnd : inB 0 10000 d
      · exact dries_nn hok hnb hnd w
      · unfold inB at hnd
        rw [Bool.not_eq_true'] at hnd
        have h := outB_iff.1 hnd
        obtain ⟨n, rfl⟩ := Int.eq_ofNat_of_zero_le h.1
        exact dries_ny hok hnb n (by omega) w
    · unfold inB at hnb
      rw [Bool.not_eq_true'] at hnb
      have h0 := outB_iff.1 hnb
      cases hnd : inB 0 10000 d
      · exact dries_yn hok h0.1 h0.2 hnd w
      · unfold inB at hnd
        rw [Bool.not_eq_true'] at hnd
        have h := outB_iff.1 hnd
        obtain ⟨n, rfl⟩ := Int.eq_ofNat_of_zero_le h.1
        exact dries_yy hok h0.1 h0.2 n (by omega) w
end Go.Proofs.Ytnjbhidncicfiaa
