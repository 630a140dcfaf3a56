/- Walks over the timber seat: Dry and DaysTo, and the reference's. -/
import Derived.Test.YtnjbhidncicfiaaW9
namespace Go.Proofs.Ytnjbhidncicfiaa
open Go.RowKit

set_option maxHeartbeats 400000 in
theorem dry_err {m t r : Int} (hno : dryOk m t r = false) (days : Int) (w : World) :
    Calls Try.prog 63 #[.int .i64 m, .int .i64 t, .int .i64 r, .int .i64 days] w fun e w' => e = .returned (.tuple #[.int .i64 0, .int .i64 2]) ∧ Below w.heap.size w w' := by
  have C := fun wx => Lib.hid (checkDrying_any (dryCode_no hno) wx)
  go_enter Try.func63, Try.ntmps63
  go_wp2_with (go_at_call 104; (refine Calls.mono (C _).out ?_); rintro e w1 ⟨rfl, hb1⟩)
  go_ret2
  exact ⟨rfl, ((Below.refl _ _).alloc (Nat.le_refl _) _).trans (hb1.mono (by simp))⟩
set_option maxHeartbeats 400000 in
theorem dry_range {m t r days : Int} (hok : dryOk m t r = true) (hd : inB 0 10000 days = false) (w : World) :
    Calls Try.prog 63 #[.int .i64 m, .int .i64 t, .int .i64 r, .int .i64 days] w fun e w' => e = .returned (.tuple #[.int .i64 0, .int .i64 2]) ∧ Below w.heap.size w w' := by
  have C := fun wx => Lib.hid (checkDrying_any (dryCode_ok hok) wx)
  have D := Lib.hid ((allIn_one 0 10000 days).trans hd)
  clear hok hd
  go_enter Try.func63, Try.ntmps63
  go_wp2_with (first | (go_at_call 104; (refine Calls.mono (C _).out ?_); rintro e w1 ⟨rfl, hb1⟩; have hs1 : w.heap.size < w1.heap.size := (by have := hb1.size; simp at this; omega); obtain ⟨hc1, hf1⟩ := bcell hb1) | (go_at_call 79; (with_reducible refine (within_one D.out _ _).mono ?_); rintro e w2 ⟨rfl, hb2⟩))
  go_ret2
  exact ⟨rfl, (((Below.refl _ _).alloc (Nat.le_refl _) _).trans (hb1.mono (by simp))).trans (hb2.mono (by omega))⟩
set_option maxHeartbeats 400000 in
theorem dry_ok {m t r : Int} (hok : dryOk m t r = true) (n : Nat) (hn : n ≤ 10000) (w : World) :
    Calls Try.prog 63 #[.int .i64 m, .int .i64 t, .int .i64 r, .int .i64 n] w fun e w' => e = .returned (.tuple #[.int .i64 (dryN t r m n), .int .i64 0]) ∧ Below w.heap.size w w' := by
  have C := fun wx => Lib.hid (checkDrying_any (dryCode_ok hok) wx)
  have D := Lib.hid ((allIn_one 0 10000 (n : Int)).trans (by unfold inB; rw [outB_iff.2 (by omega)]))
  have U := fun a wx h => Lib.hid (until_days (dryIn_of hok) n (by omega) a wx h)
  clear hok
  go_enter Try.func63, Try.ntmps63
  go_wp2_with (first | (go_at_call 104; (refine Calls.mono (C _).out ?_); rintro e w1 ⟨rfl, hb1⟩; have hs1 : w.heap.size < w1.heap.size := (by have := hb1.size; simp at this; omega); obtain ⟨hc1, hf1⟩ := bcell hb1) | (go_at_call 79; (with_reducible refine (within_one D.out _ _).mono ?_); rintro e w2 ⟨rfl, hb2⟩; have hs2 : w.heap.size < w2.heap.size := (by have := hb2.size; omega); have hc2 : w2.cell? ⟨w.heap.size, 0, none⟩ = some (.int .i64 n) := (by rw [hb2.cell (p := ⟨w.heap.size, 0, none⟩) hs1, hc1 _ _ (by simp)]; simp)) | (go_at_call 105; (refine Calls.mono (U _ _ hc2).out ?_); rintro e w3 ⟨rfl, rfl⟩))
  go_ret2
  exact ⟨rfl, (((Below.refl _ _).alloc (Nat.le_refl _) _).trans (hb1.mono (by simp))).trans (hb2.mono (by omega))⟩
set_option maxHeartbeats 400000 in
theorem days_err {m t r : Int} (hno : dryOk m t r = false) (b : Int) (w : World) :
    Calls Try.prog 64 #[.int .i64 m, .int .i64 t, .int .i64 r, .int .i64 b] w fun e w' => e = .returned (.tuple #[.int .i64 0, .int .i64 2]) ∧ Below w.heap.size w w' := by
  have C := fun wx => Lib.hid (checkDrying_any (dryCode_no hno) wx)
  go_enter Try.func64, Try.ntmps64
  go_wp2_with (go_at_call 104; (refine Calls.mono (C _).out ?_); rintro e w1 ⟨rfl, hb1⟩)
  go_ret2
  exact ⟨rfl, (((Below.refl _ _).alloc (Nat.le_refl _) _).alloc (by simp) _).trans (hb1.mono (by simp; omega))⟩
set_option maxHeartbeats 400000 in
theorem days_range {m t r b : Int} (hok : dryOk m t r = true) (hd : inB 0 400 b = false) (w : World) :
    Calls Try.prog 64 #[.int .i64 m, .int .i64 t, .int .i64 r, .int .i64 b] w fun e w' => e = .returned (.tuple #[.int .i64 0, .int .i64 2]) ∧ Below w.heap.size w w' := by
  have C := fun wx => Lib.hid (checkDrying_any (dryCode_ok hok) wx)
  have D := Lib.hid ((allIn_one 0 400 b).trans hd)
  clear hok hd
  go_enter Try.func64, Try.ntmps64
  go_wp2_with (first | (go_at_call 104; (refine Calls.mono (C _).out ?_); rintro e w1 ⟨rfl, hb1⟩; have hs1 : w.heap.size + 1 < w1.heap.size := (by have := hb1.size; simp at this; omega); obtain ⟨hc1, hf1⟩ := bcell hb1) | (go_at_call 79; (with_reducible refine (within_one D.out _ _).mono ?_); rintro e w2 ⟨rfl, hb2⟩))
  go_ret2
  exact ⟨rfl, ((((Below.refl _ _).alloc (Nat.le_refl _) _).alloc (by simp) _).trans (hb1.mono (by simp; omega))).trans (hb2.mono (by omega))⟩
set_option maxHeartbeats 400000 in
theorem days_ok {m t r b : Int} (hok : dryOk m t r = true) (b0 : 0 ≤ b) (b1 : b ≤ 400) (n : Nat) (hn : IsFirst t r m b n) (w : World) :
    Calls Try.prog 64 #[.int .i64 m, .int .i64 t, .int .i64 r, .int .i64 b] w fun e w' => e = .returned (.tuple #[.int .i64 n, .int .i64 0]) ∧ Below w.heap.size w w' := by
  have C := fun wx => Lib.hid (checkDrying_any (dryCode_ok hok) wx)
  have D := Lib.hid ((allIn_one 0 400 b).trans (by unfold inB; rw [outB_iff.2 (by omega)]))
  have U := fun p q wx h1 h2 h3 h4 => Lib.hid (until_near (dryIn_of hok) b0 b1 n hn p q wx h1 h2 h3 h4)
  clear hok hn
  go_enter Try.func64, Try.ntmps64
  go_wp2_with (first | (go_at_call 104; (refine Calls.mono (C _).out ?_); rintro e w1 ⟨rfl, hb1⟩; have hs1 : w.heap.size + 1 < w1.heap.size := (by have := hb1.size; simp at this; omega); have ht1 : w.heap.size < w1.heap.size := (by omega); obtain ⟨hc1, hf1⟩ := bcell hb1) | (go_at_call 79; (with_reducible refine (within_one D.out _ _).mono ?_); rintro e w2 ⟨rfl, hb2⟩; have hs2 : w.heap.size + 1 < w2.heap.size := (by have := hb2.size; omega); have ht2 : w.heap.size < w2.heap.size := (by omega); have hc2 : w2.cell? ⟨w.heap.size, 0, none⟩ = some (.int .i64 t) := (by rw [hb2.cell (p := ⟨w.heap.size, 0, none⟩) ht1, hc1 _ _ (by simp; omega)]; simp [go_sem]); have hc3 : w2.cell? ⟨w.heap.size + 1, 0, none⟩ = some (.int .i64 b) := (by rw [hb2.cell (p := ⟨w.heap.size + 1, 0, none⟩) hs1, hc1 _ _ (by simp)]; simp [go_sem])) | (go_at_call 105; (refine Calls.mono (U _ _ _ ht2 hs2 hc2 hc3).out ?_); rintro e w3 ⟨rfl, hb3⟩))
  go_ret2
  exact ⟨rfl, (((((Below.refl _ _).alloc (Nat.le_refl _) _).alloc (by simp) _).trans (hb1.mono (by simp; omega))).trans (hb2.mono (by omega))).trans (hb3.mono (by omega))⟩

/-! ### The reference -/
set_option maxHeartbeats 1000000 in
theorem rdry_any {m t r : Int} (h : DryIn m t r) (n : Nat) (hn : n ≤ 10000) (w : World) :
    Calls Try.prog 67 #[.int .i64 m, .int .i64 t, .int .i64 r, .int .i64 n] w fun e w' => e = .returned (.int .i64 (dryN t r m n)) ∧ w = w' := by
  have HN := Lib.hid hn
  have H := Lib.hid h
  clear h hn
  go_enter Try.func67, Try.ntmps67
  go_wp2
  go_loop [0, 9] (fun x d => ∃ k : Nat, k ≤ n ∧ d = .int .i64 k ∧ x = .int .i64 (dryN t r m k)) (fun _ d => n - (intOf d).toNat)
  case atStart => exact ⟨0, Nat.zero_le _, rfl, rfl⟩
  case round =>
    obtain ⟨k, hk, rfl, rfl⟩ := hrel
    have I := H.out.at k
    obtain ⟨x, hx⟩ : ∃ x, dryN t r m k = x := ⟨_, rfl⟩
    obtain ⟨m0, m1, t0, t1, r0, r1⟩ := I
    rw [hx] at m0 m1
    have HX := Lib.hid hx
    rw [hx]
    clear hx
    have kn : k ≤ 10000 := by have := HN.out; omega
    by_cases he : k = n
    · subst he
      go_wp2
      go_ret
      exact ⟨ret_int HX.out.symm, rfl⟩
    · have hlt : k < n := by omega
      by_cases hxt : x = t
      · have E : Hid (dryN t r m n = x) := Lib.hid (by rw [hxt] at HX ⊢; exact dry_end' HX.out hk)
        have hxt' : (x != t) = false := by simp [hxt]
        have hxt2 : (x == t) = true := by simp [hxt]
        clear hxt
        go_wp2
        go_ret
        exact ⟨ret_int E.out.symm, rfl⟩
      · obtain ⟨y, hy⟩ : ∃ y, nextM t r x = y := ⟨_, rfl⟩
        have DY := fun wx => Lib.hid (day_any (w := wx) hy m0 m1 t0 t1 r0 r1)
        have NX : Hid (dryN t r m (k + 1) = y) := Lib.hid (by show nextM t r (dryN t r m k) = _; rw [HX.out]; exact hy)
        have hxt' : (x != t) = true := by simp [hxt]
        have hxt2 : (x == t) = false := by simp [hxt]
        clear hy hxt
        go_wp2_with (go_at_call 109; (refine Calls.mono (DY _).out ?_); rintro e w' ⟨rfl, rfl⟩)
        go_round
        case rel => exact ⟨k + 1, by omega, by go_num, by rw [NX.out]⟩
        case measure => simp [intOf]; omega
set_option maxHeartbeats 400000 in
theorem abs_int {n a : Int} (ha : (n.natAbs : Int) = a) (h0 : -1000 ≤ n) (h1 : n ≤ 1000) (w : World) : Calls Try.prog 108 #[.int .i64 n] w fun e w' => e = .returned (.int .i64 a) ∧ w = w' := by
  have HA := Lib.hid ha
  clear ha
  go_enter Try.func108, Try.ntmps108
  go_wp2
  all_goals
    go_ret
    exact ⟨ret_int (by rw [← HA.out]; omega), rfl⟩
theorem near_abs {t b x a : Int} (ha : ((x - t).natAbs : Int) = a) : (near t b x = true → ¬ b < a) ∧ (near t b x = false → b < a) := by
  unfold near
  constructor
  · intro h; simp at h; omega
  · intro h; simp only [Bool.and_eq_false_iff, decide_eq_false_iff_not] at h; omega
set_option maxHeartbeats 1000000 in
theorem rdays_any {m t r b : Int} (h : DryIn m t r) (hb0 : 0 ≤ b) (_hb1 : b ≤ 400) (n : Nat) (hn : IsFirst t r m b n) (w : World) :
    Calls Try.prog 66 #[.int .i64 m, .int .i64 t, .int .i64 r, .int .i64 b] w fun e w' => e = .returned (.int .i64 n) ∧ w = w' := by
  have hd : dist t m ≤ 400 := by have := h.m0; have := h.m1; have := h.t0; have := h.t1; unfold dist; omega
  have HN := Lib.hid hn
  have H := Lib.hid h
  have HD := Lib.hid hd
  clear h hn hd
  go_enter Try.func66, Try.ntmps66
  go_wp2
  go_loop [0, 9] (fun x d => ∃ k : Nat, k ≤ n ∧ d = .int .i64 k ∧ x = .int .i64 (dryN t r m k)) (fun _ d => n - (intOf d).toNat)
  case atStart => exact ⟨0, Nat.zero_le _, rfl, rfl⟩
  case round =>
    obtain ⟨k, hk, rfl, rfl⟩ := hrel
    have I := H.out.at k
    obtain ⟨x, hx⟩ : ∃ x, dryN t r m k = x := ⟨_, rfl⟩
    obtain ⟨m0, m1, t0, t1, r0, r1⟩ := I
    rw [hx] at m0 m1
    have HX := Lib.hid hx
    rw [hx]
    clear hx
    have KN : k ≤ 400 := by have := first_le H.out.r0 hb0 HN.out k hk; have := HD.out; omega
    obtain ⟨a, ha⟩ : ∃ a : Int, ((x - t).natAbs : Int) = a := ⟨_, rfl⟩
    have AB := fun wx => Lib.hid (abs_int (w := wx) ha (by omega) (by omega))
    have NA := near_abs (b := b) ha
    have a0 : 0 ≤ a := by omega
    have a1 : a ≤ 400 := by omega
    clear ha
    by_cases he : k = n
    · subst he
      have hv : ¬ b < a := NA.1 (by rw [← HX.out]; exact HN.out.1)
      clear NA
      go_wp2_with (go_at_call 108; (refine Calls.mono (AB _).out ?_); rintro e w' ⟨rfl, rfl⟩)
      go_ret
      exact ⟨rfl, rfl⟩
    · have hlt : k < n := by omega
      have hv : b < a := NA.2 (by rw [← HX.out]; exact HN.out.2 k hlt)
      obtain ⟨y, hy⟩ : ∃ y, nextM t r x = y := ⟨_, rfl⟩
      have DY := fun wx => Lib.hid (day_any (w := wx) hy m0 m1 t0 t1 r0 r1)
      have NX : Hid (dryN t r m (k + 1) = y) := Lib.hid (by show nextM t r (dryN t r m k) = _; rw [HX.out]; exact hy)
      clear hy NA he
      go_wp2_with (first | (go_at_call 108; (refine Calls.mono (AB _).out ?_); rintro e w' ⟨rfl, rfl⟩) | (go_at_call 109; (refine Calls.mono (DY _).out ?_); rintro e w2 ⟨rfl, rfl⟩))
      go_round
      case rel => exact ⟨k + 1, by omega, by go_num, by rw [NX.out]⟩
      case measure => simp [intOf]; omega
end Go.Proofs.Ytnjbhidncicfiaa
