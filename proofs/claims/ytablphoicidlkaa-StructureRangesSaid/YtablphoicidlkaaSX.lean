/- The reference of beams: numbers, checks. -/
import Derived.Test.YtablphoicidlkaaSW
namespace Go.Proofs.Ytablphoicidlkaa
open Go.RowKit

def wiB (n lo hi : Int) : Bool := decide (lo ≤ n) && decide (n ≤ hi)
theorem wiB_iff {n lo hi : Int} : wiB n lo hi = true ↔ lo ≤ n ∧ n ≤ hi := by unfold wiB; simp
theorem rng_wi {n lo hi : Int} : rngE lo hi [n] = bif wiB n lo hi then 0 else 2 := by
  cases h : wiB n lo hi
  · rcases rngE_two (lo := lo) (hi := hi) (zs := [n]) with e | e
    · have := wiB_iff.2 (rngE_ok.1 e n (List.mem_cons_self ..))
      rw [this] at h; cases h
    · exact e
  · exact rngE_ok.2 (fun m hm => by
      simp only [List.mem_cons, List.not_mem_nil, or_false] at hm
      subst hm; exact wiB_iff.1 h)
theorem within_any (n lo hi : Int) (w : World) : Calls Try.prog 32 #[.int .i64 n, .int .i64 lo, .int .i64 hi] w fun e w' => e = .returned (.bool (wiB n lo hi)) ∧ w = w' := by
  by_cases h1 : lo ≤ n
  · have d1 : decide (lo ≤ n) = true := decide_eq_true h1
    by_cases h2 : n ≤ hi
    · have d2 : decide (n ≤ hi) = true := decide_eq_true h2
      have HD := Lib.hid (And.intro d1 d2)
      go_enter Try.func32, Try.ntmps32
      go_wp2
      go_ret
      exact ⟨ret_bool (by unfold wiB; rw [HD.out.1, HD.out.2]; rfl), rfl⟩
    · have d2 : decide (n ≤ hi) = false := decide_eq_false h2
      have HD := Lib.hid (And.intro d1 d2)
      go_enter Try.func32, Try.ntmps32
      go_wp2
      go_ret
      exact ⟨ret_bool (by unfold wiB; rw [HD.out.1, HD.out.2]; rfl), rfl⟩
  · have d1 : decide (lo ≤ n) = false := decide_eq_false h1
    have HD := Lib.hid d1
    go_enter Try.func32, Try.ntmps32
    go_wp2
    go_ret
    exact ⟨ret_bool (by unfold wiB; rw [HD.out]; rfl), rfl⟩
theorem within_is {n lo hi : Int} {v : Bool} (h : wiB n lo hi = v) (w : World) : Calls Try.prog 32 #[.int .i64 n, .int .i64 lo, .int .i64 hi] w fun e w' => e = .returned (.bool v) ∧ w = w' := h ▸ within_any n lo hi w
theorem isStiff_any (n : Int) (w : World) : Calls Try.prog 41 #[.int .i64 n] w fun e w' => e = .returned (.bool (wiB n 1 30000)) ∧ w = w' := by
  have W := fun wx => Lib.hid (within_any n 1 30000 wx)
  generalize wiB n 1 30000 = v at *
  go_enter Try.func41, Try.ntmps41
  go_wp2_with (go_at_call 32; (refine Calls.mono (W _).out ?_); rintro e w1 ⟨rfl, rfl⟩)
  go_ret
  exact ⟨rfl, rfl⟩
/-! ### Beams -/
theorem beam_wi (b : Bm) : beamE b = bif wiB b.s 1 2000 && (wiB b.w 1 1000 && (wiB b.t 1 300 && wiB b.e 0 1)) then 0 else 2 := by
  unfold beamE
  simp only [rng_wi]
  cases wiB b.s 1 2000 <;> cases wiB b.w 1 1000 <;> cases wiB b.t 1 300 <;> cases wiB b.e 0 1 <;> rfl
set_option maxHeartbeats 4000000 in
theorem rcheckBeam_any (b : Bm) (w : World) : Calls Try.prog 25 #[bmV b] w fun e w' => e = .returned (.int .i64 (beamE b)) ∧ Below w.heap.size w w' := by
  rw [beam_wi]
  obtain ⟨s, ww, t, en⟩ := b
  unfold bmV
  simp only
  have hB : Hid (Below w.heap.size w (w.alloc (.cells #[.int .i64 s, .int .i64 ww, .int .i64 t, .int .i64 en] 23))) := Lib.hid ((Below.refl _ _).alloc (Nat.le_refl _) _)
  have W1 := fun wx => Lib.hid (within_any s 1 2000 wx)
  have W2 := fun wx => Lib.hid (within_any ww 1 1000 wx)
  have W3 := fun wx => Lib.hid (within_any t 1 300 wx)
  have W4 := fun wx => Lib.hid (within_any en 0 1 wx)
  generalize wiB s 1 2000 = v1 at *
  generalize wiB ww 1 1000 = v2 at *
  generalize wiB t 1 300 = v3 at *
  generalize wiB en 0 1 = v4 at *
  cases v1 <;> cases v2 <;> cases v3 <;> cases v4
  all_goals
    go_enter Try.func25, Try.ntmps25
    go_wp2_with (first | (go_at_call 32; (with_reducible refine Calls.mono (W1 _).out ?_); rintro e w9 ⟨rfl, rfl⟩) | (go_at_call 32; (with_reducible refine Calls.mono (W2 _).out ?_); rintro e w9 ⟨rfl, rfl⟩) | (go_at_call 32; (with_reducible refine Calls.mono (W3 _).out ?_); rintro e w9 ⟨rfl, rfl⟩) | (go_at_call 32; (with_reducible refine Calls.mono (W4 _).out ?_); rintro e w9 ⟨rfl, rfl⟩))
    go_ret
    exact ⟨rfl, hB.out⟩
/-! ### Wood -/
theorem two_wi {a b lo hi : Int} : rngE lo hi [a, b] = bif wiB a lo hi && wiB b lo hi then 0 else 2 := by
  cases h1 : wiB a lo hi && wiB b lo hi
  · rcases rngE_two (lo := lo) (hi := hi) (zs := [a, b]) with e | e
    · have k := rngE_ok.1 e
      rw [wiB_iff.2 (k a (by simp)), wiB_iff.2 (k b (by simp))] at h1; cases h1
    · exact e
  · rw [Bool.and_eq_true, wiB_iff, wiB_iff] at h1
    exact rngE_ok.2 (fun m hm => by
      simp only [List.mem_cons, List.not_mem_nil, or_false] at hm
      rcases hm with rfl | rfl
      · exact h1.1
      · exact h1.2)
theorem wood_wi (x : Wd) : woodE x = bif wiB x.lo 1 30000 && (wiB x.hi 1 30000 && wiB x.st 1 1000) then (bif decide (x.hi < x.lo) then 9 else 0) else 2 := by
  unfold woodE
  simp only [rng_wi, two_wi]
  cases wiB x.lo 1 30000 <;> cases wiB x.hi 1 30000 <;> cases wiB x.st 1 1000 <;> rfl
set_option maxHeartbeats 4000000 in
theorem rcheckWood_any (x : Wd) (w : World) : Calls Try.prog 53 #[wdV x] w fun e w' => e = .returned (.int .i64 (woodE x)) ∧ Below w.heap.size w w' := by
  rw [wood_wi]
  obtain ⟨lo, hi, st⟩ := x
  unfold wdV
  simp only
  have hB : Hid (Below w.heap.size w (w.alloc (.cells #[.int .i64 lo, .int .i64 hi, .int .i64 st] 79))) := Lib.hid ((Below.refl _ _).alloc (Nat.le_refl _) _)
  have W1 := fun wx => Lib.hid (isStiff_any lo wx)
  have W2 := fun wx => Lib.hid (isStiff_any hi wx)
  have W3 := fun wx => Lib.hid (within_any st 1 1000 wx)
  generalize wiB lo 1 30000 = v1 at *
  generalize wiB hi 1 30000 = v2 at *
  generalize wiB st 1 1000 = v3 at *
  cases v1 <;> cases v2 <;> cases v3 <;> by_cases hlt : hi < lo
  all_goals
    first
      | (have HD : Hid (decide (hi < lo) = true) := Lib.hid (decide_eq_true hlt)
         go_enter Try.func53, Try.ntmps53
         go_wp2_with (first | (go_at_call 41; (with_reducible refine Calls.mono (W1 _).out ?_); rintro e w9 ⟨rfl, rfl⟩) | (go_at_call 41; (with_reducible refine Calls.mono (W2 _).out ?_); rintro e w9 ⟨rfl, rfl⟩) | (go_at_call 32; (with_reducible refine Calls.mono (W3 _).out ?_); rintro e w9 ⟨rfl, rfl⟩))
         go_ret
         exact ⟨by first | rfl | (rw [HD.out]; rfl), hB.out⟩)
      | (have HD : Hid (decide (hi < lo) = false) := Lib.hid (decide_eq_false hlt)
         go_enter Try.func53, Try.ntmps53
         go_wp2_with (first | (go_at_call 41; (with_reducible refine Calls.mono (W1 _).out ?_); rintro e w9 ⟨rfl, rfl⟩) | (go_at_call 41; (with_reducible refine Calls.mono (W2 _).out ?_); rintro e w9 ⟨rfl, rfl⟩) | (go_at_call 32; (with_reducible refine Calls.mono (W3 _).out ?_); rintro e w9 ⟨rfl, rfl⟩))
         go_ret
         exact ⟨by first | rfl | (rw [HD.out]; rfl), hB.out⟩)
      | (go_enter Try.func53, Try.ntmps53
         go_wp2_with (first | (go_at_call 41; (with_reducible refine Calls.mono (W1 _).out ?_); rintro e w9 ⟨rfl, rfl⟩) | (go_at_call 41; (with_reducible refine Calls.mono (W2 _).out ?_); rintro e w9 ⟨rfl, rfl⟩) | (go_at_call 32; (with_reducible refine Calls.mono (W3 _).out ?_); rintro e w9 ⟨rfl, rfl⟩))
         go_ret
         exact ⟨rfl, hB.out⟩)
end Go.Proofs.Ytablphoicidlkaa
