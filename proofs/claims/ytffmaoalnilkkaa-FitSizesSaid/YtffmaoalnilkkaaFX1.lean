/- Walks over the fits: the reference's sizes. -/
import Derived.Test.YtffmaoalnilkkaaFW
namespace Go.Proofs.Ytffmaoalnilkkaa
open Go.RowKit Go.Maps

set_option maxHeartbeats 1000000 in
theorem rmod_any {x : Int} (_hx : -1000000000000000 ≤ x ∧ x ≤ 1000000000000000) (w : World) :
    Calls Try.prog 83 #[.int .i64 x, .int .i64 1000000] w fun e w' => e = .returned (.int .i64 (x % 1000000)) ∧ w = w' := by
  have f1 := Int.mul_tdiv_add_tmod x 1000000
  have f2 := Int.mul_ediv_add_emod x 1000000
  have f3 := Int.emod_nonneg x (show (1000000 : Int) ≠ 0 by decide)
  have f4 := Int.emod_lt_of_pos x (show (0 : Int) < 1000000 by decide)
  have f5 : -1000000 < x.tmod 1000000 := Int.lt_tmod_of_pos x (by decide)
  have f6 : x.tmod 1000000 < 1000000 := Int.tmod_lt_of_pos x (by decide)
  by_cases h : x.tmod 1000000 < 0
  · have E : Hid (x.tmod 1000000 + 1000000 = x % 1000000) := Lib.hid (by omega)
    obtain ⟨q, hq⟩ : ∃ q, x.tmod 1000000 = q := ⟨_, rfl⟩
    rw [hq] at E f5 f6 h
    clear f1 f2 f3 f4
    go_enter Try.func83, Try.ntmps83
    go_wp2
    go_ret
    exact ⟨ret_int E.out, rfl⟩
  · have E : Hid (x.tmod 1000000 = x % 1000000) := Lib.hid (by omega)
    clear f1 f2 f3 f4 f5 f6
    go_enter Try.func83, Try.ntmps83
    go_wp2
    go_ret
    exact ⟨ret_int E.out, rfl⟩
theorem rfloor_any {x : Int} (hx : -1000000000000000 ≤ x ∧ x ≤ 1000000000000000) (w : World) :
    Calls Try.prog 58 #[.int .i64 x, .int .i64 1000000] w fun e w' => e = .returned (.int .i64 (x / 1000000)) ∧ w = w' := by
  have f2 := Int.mul_ediv_add_emod x 1000000
  have f3 := Int.emod_nonneg x (show (1000000 : Int) ≠ 0 by decide)
  have f4 := Int.emod_lt_of_pos x (show (0 : Int) < 1000000 by decide)
  have RM := fun wx => Lib.hid (rmod_any hx wx)
  obtain ⟨r, hr⟩ : ∃ r, x % 1000000 = r := ⟨_, rfl⟩
  have hw1 : IntKind.i64.wrap (x - r) = x - r := by rw [IntKind.wrap_i64]; omega
  have hw2 : wrap64 (x - r) = x - r := w64 (by omega)
  have E : Hid ((x - r).tdiv 1000000 = x / 1000000) := Lib.hid (by
    obtain ⟨q, hq⟩ : ∃ q, x / 1000000 = q := ⟨_, rfl⟩
    rw [show x - r = q * 1000000 by omega, hq]
    exact Int.mul_tdiv_cancel q (by decide))
  have hb : -1000000000000000 ≤ (x - r).tdiv 1000000 ∧ (x - r).tdiv 1000000 ≤ 1000000000000000 := by rw [E.out]; omega
  rw [hr] at RM
  obtain ⟨q, hq⟩ : ∃ q, (x - r).tdiv 1000000 = q := ⟨_, rfl⟩
  rw [hq] at E hb
  have HQ : Hid (q = x / 1000000) := Lib.hid E.out
  have hw3 : wrap64 q = q := w64 (by omega)
  clear f2 f3 f4 hr
  go_enter Try.func58, Try.ntmps58
  go_wp2_with (go_at_call 83; refine Calls.mono (RM _).out ?_; rintro e w1 ⟨rfl, rfl⟩)
  go_ret
  exact ⟨ret_int HQ.out, rfl⟩
theorem rceil_any {x : Int} (hx : -1000000000000000 ≤ x ∧ x ≤ 1000000000000000) (w : World) :
    Calls Try.prog 59 #[.int .i64 x, .int .i64 1000000] w fun e w' => e = .returned (.int .i64 (upM x)) ∧ w = w' := by
  have hw1 : IntKind.i64.wrap (-x) = -x := by rw [IntKind.wrap_i64]; omega
  have hw2 : wrap64 (-x) = -x := w64 (by omega)
  have RD := fun wx => Lib.hid (rfloor_any (x := -x) (w := wx) (by omega))
  obtain ⟨q, hq⟩ : ∃ q, (-x) / 1000000 = q := ⟨_, rfl⟩
  have hb : -1000000000000000 ≤ q ∧ q ≤ 1000000000000000 := by omega
  have HV : Hid (upM x = -q) := Lib.hid (by unfold upM; rw [hq])
  rw [hq] at RD
  have hw3 : IntKind.i64.wrap (-q) = -q := by rw [IntKind.wrap_i64]; omega
  have hw4 : wrap64 (-q) = -q := w64 (by omega)
  clear hq
  go_enter Try.func59, Try.ntmps59
  go_wp2_with (go_at_call 58; refine Calls.mono (RD _).out ?_; rintro e w1 ⟨rfl, rfl⟩)
  go_ret
  exact ⟨ret_int HV.out.symm, rfl⟩
set_option maxHeartbeats 1000000 in
theorem rmillionths_any {size rate f t : Int} (h : Mov size rate f t) (w : World) :
    Calls Try.prog 60 #[.int .i64 size, .int .i64 rate, .int .i64 f, .int .i64 t] w fun e w' => e = .returned (.int .i64 (millis size rate f t)) ∧ w = w' := by
  obtain ⟨s0, s1, r0, r1, f0, f1, t0, t1⟩ := h
  have hall : ∀ d : Int, -280 ≤ d → d ≤ 280 → d = min t 280 - min f 280 → wrap64 (size * wrap64 (1000000 + wrap64 (rate * wrap64 d))) = millis size rate f t := fun d d0 d1 hd => by
    rw [millis_wrap s0 s1 r0 r1 d0 d1, hd]; rfl
  have H := Lib.hid hall
  clear hall s0 s1 r0 r1
  have F0 := Lib.hid f0; have F1 := Lib.hid f1; have T0 := Lib.hid t0; have T1 := Lib.hid t1
  clear f0 f1 t0 t1
  go_enter Try.func60, Try.ntmps60
  go_wp2
  all_goals
    go_ret
    have f0 := F0.out; have f1 := F1.out; have t0 := T0.out; have t1 := T1.out
    exact ⟨ret_int (H.out _ (by omega) (by omega) (by omega)), rfl⟩
theorem rhigh_any {p : Md} (hp : MdOk p) {t : Int} (t0 : 0 ≤ t) (t1 : t ≤ 400) (w : World) :
    Calls Try.prog 27 #[mdV p, .int .i64 t] w fun e w' => e = .returned (.int .i64 (hiM p t)) ∧ Below w.heap.size w w' := by
  have RM := fun wx => Lib.hid (rmillionths_any (w := wx) (mov_hi hp t0 t1))
  have b : 0 ≤ p.s + p.hi ∧ p.s + p.hi ≤ 600000 := by have := hp.s0; have := hp.h0; have := hp.h1; omega
  obtain ⟨ps, pr, pm, pg, plo, phi⟩ := p
  unfold mdV hiM
  simp only at RM b ⊢
  have hw1 : IntKind.i64.wrap (ps + phi) = ps + phi := by rw [IntKind.wrap_i64]; omega
  have hw2 : wrap64 (ps + phi) = ps + phi := w64 (by omega)
  clear hp
  go_enter Try.func27, Try.ntmps27
  go_wp2_with (go_at_call 60; refine Calls.mono (RM _).out ?_; rintro e w1 ⟨rfl, rfl⟩)
  go_ret
  exact ⟨rfl, (Below.refl _ _).alloc (Nat.le_refl _) _⟩
end Go.Proofs.Ytffmaoalnilkkaa
