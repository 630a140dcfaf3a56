/- Walks over the fits: sizes and intervals, the reference's. -/
import Derived.Test.YtffmaoalnilkkaaFX1
import Derived.Test.YtffmaoalnilkkaaFI
namespace Go.Proofs.Ytffmaoalnilkkaa
open Go.RowKit Go.Maps

theorem rlow_any {p : Md} (hp : MdOk p) {t : Int} (t0 : 0 ≤ t) (t1 : t ≤ 400) (w : World) :
    Calls Try.prog 26 #[mdV p, .int .i64 t] w fun e w' => e = .returned (.int .i64 (lowM p t)) ∧ Below w.heap.size w w' := by
  have RM := fun wx => Lib.hid (rmillionths_any (w := wx) (mov_low hp t0 t1))
  have b : 0 ≤ p.s - p.lo ∧ p.s - p.lo ≤ 600000 := by have := hp.s1; have := hp.l0; have := hp.l1; omega
  obtain ⟨ps, pr, pm, pg, plo, phi⟩ := p
  unfold mdV lowM
  simp only at RM b ⊢
  have hw1 : IntKind.i64.wrap (ps - plo) = ps - plo := by rw [IntKind.wrap_i64]; omega
  have hw2 : wrap64 (ps - plo) = ps - plo := w64 (by omega)
  clear hp
  go_enter Try.func26, Try.ntmps26
  go_wp2_with (go_at_call 60; refine Calls.mono (RM _).out ?_; rintro e w1 ⟨rfl, rfl⟩)
  go_ret
  exact ⟨rfl, (Below.refl _ _).alloc (Nat.le_refl _) _⟩
/-- An interval of millionths, rounded outward. -/
def outV (a b : Int) : Value := .agg #[.int .i64 (a / 1000000), .int .i64 (upM b)]
set_option maxHeartbeats 1000000 in
theorem outward_any {a b : Int} (ha : -1000000000000000 ≤ a ∧ a ≤ 1000000000000000) (hb : -1000000000000000 ≤ b ∧ b ≤ 1000000000000000) (w : World) :
    Calls Try.prog 79 #[.int .i64 a, .int .i64 b] w fun e w' => e = .returned (outV a b) ∧ Below w.heap.size w w' := by
  have RD := fun wx => Lib.hid (roundedDown_any ha wx)
  have RU := fun wx => Lib.hid (roundedUp_any hb wx)
  unfold outV
  obtain ⟨x, hx⟩ : ∃ x, a / 1000000 = x := ⟨_, rfl⟩
  obtain ⟨y, hy⟩ : ∃ y, upM b = y := ⟨_, rfl⟩
  simp only [hx, hy] at RD RU ⊢
  clear hx hy
  go_enter Try.func79, Try.ntmps79
  go_wp2_with (first | (go_at_call 84; refine Calls.mono (RD _).out ?_; rintro e w1 ⟨rfl, rfl⟩) | (go_at_call 61; refine Calls.mono (RU _).out ?_; rintro e w1 ⟨rfl, rfl⟩))
  refine bodyPost_ret (v := .agg #[.int .i64 x, .int .i64 y]) (by simp [results, Try.results79, go_sem]) rfl ⟨rfl, ?_⟩
  repeat (refine Below.setCell ?_ (by simp) _)
  exact (Below.refl _ _).alloc (Nat.le_refl _) _
set_option maxHeartbeats 1000000 in
theorem rround_any {a b : Int} (ha : -1000000000000000 ≤ a ∧ a ≤ 1000000000000000) (hb : -1000000000000000 ≤ b ∧ b ≤ 1000000000000000) (w : World) :
    Calls Try.prog 25 #[.int .i64 a, .int .i64 b] w fun e w' => e = .returned (outV a b) ∧ Below w.heap.size w w' := by
  have RD := fun wx => Lib.hid (rfloor_any ha wx)
  have RU := fun wx => Lib.hid (rceil_any hb wx)
  unfold outV
  obtain ⟨x, hx⟩ : ∃ x, a / 1000000 = x := ⟨_, rfl⟩
  obtain ⟨y, hy⟩ : ∃ y, upM b = y := ⟨_, rfl⟩
  simp only [hx, hy] at RD RU ⊢
  clear hx hy
  go_enter Try.func25, Try.ntmps25
  go_wp2_with (first | (go_at_call 58; refine Calls.mono (RD _).out ?_; rintro e w1 ⟨rfl, rfl⟩) | (go_at_call 59; refine Calls.mono (RU _).out ?_; rintro e w1 ⟨rfl, rfl⟩))
  refine bodyPost_ret (v := .agg #[.int .i64 x, .int .i64 y]) (by simp [results, Try.results25, go_sem]) rfl ⟨rfl, ?_⟩
  repeat (refine Below.setCell ?_ (by simp) _)
  exact (Below.refl _ _).alloc (Nat.le_refl _) _
end Go.Proofs.Ytffmaoalnilkkaa
