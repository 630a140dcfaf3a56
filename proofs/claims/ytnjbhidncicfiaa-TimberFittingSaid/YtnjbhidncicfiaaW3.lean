/- Walks over the timber seat: TimberMonotone. -/
import Derived.Test.YtnjbhidncicfiaaW2
import Derived.Test.YtnjbhidncicfiaaAwake
namespace Go.Proofs.Ytnjbhidncicfiaa
open Go.RowKit

theorem at_is {size rate a b lo hi : Int} (hok : moveOk size rate [a, b] = true) (hlo : movedLo size rate a b = lo) (hhi : movedHi size rate a b = hi) (w : World) :
    Calls Try.prog 33 #[.int .i64 size, .int .i64 rate, .agg #[.int .i64 a, .int .i64 b]] w
      fun e w' => e = .returned (.tuple #[.agg #[.int .i64 lo, .int .i64 hi], .int .i64 0]) ∧ Below w.heap.size w w' := by
  subst hlo; subst hhi; exact at_ok hok w
theorem moveErr_three {size rate a b d c : Int} (hc : moveCode size rate [a, b, d] = c) (w : World) (e : TypeId) {blk : Nat} (hblk : blk = w.heap.size) :
    Calls Try.prog 34 #[.int .i64 size, .int .i64 rate, .slice (some ⟨blk, 0, none⟩) 3 3] (w.alloc (.cells #[.int .i64 a, .int .i64 b, .int .i64 d] e)) fun e' w' => e' = .returned (.int .i64 c) ∧ w.alloc (.cells #[.int .i64 a, .int .i64 b, .int .i64 d] e) = w' := by
  subst hblk; subst hc
  exact moveErr_any size rate _ 3 3 [a, b, d] _ rfl (by decide) (fun k h => by rw [World.cell?_alloc_new]; match k, h with | 0, _ => rfl | 1, _ => rfl | 2, _ => rfl)

/-! ### Numbers -/
theorem movedLo_eq {size rate f t : Int} (h : Mov size rate f t) : movedLo size rate f t = millis size rate f t / 1000000 := Int.tdiv_eq_ediv_of_nonneg (millis_bd h).1
theorem movedHi_eq {size rate f t : Int} (h : Mov size rate f t) : movedHi size rate f t = (millis size rate f t + 999999) / 1000000 := by
  unfold movedHi
  rw [Int.tdiv_eq_ediv_of_nonneg (by have := (millis_bd h).1; omega)]
  congr 1; omega
theorem millis_mono {size rate f a b : Int} (s0 : 0 ≤ size) (r0 : 0 ≤ rate) (h : a ≤ b) : millis size rate f a ≤ millis size rate f b := by
  unfold millis
  have h1 : rate * (min a 280 - min f 280) ≤ rate * (min b 280 - min f 280) := Int.mul_le_mul_of_nonneg_left (by omega) r0
  exact Int.mul_le_mul_of_nonneg_left (by omega) s0
theorem millis_rate {size rate f t : Int} (s0 : 0 ≤ size) (h : f ≤ t) : millis size rate f t ≤ millis size (rate + 1) f t := by
  unfold millis
  have h1 : (rate + 1) * (min t 280 - min f 280) = rate * (min t 280 - min f 280) + (min t 280 - min f 280) := by rw [Int.add_mul, Int.one_mul]
  exact Int.mul_le_mul_of_nonneg_left (by omega) s0
theorem millis_flat {size rate f a b : Int} (h1 : 280 ≤ a) (h2 : 280 ≤ b) : millis size rate f a = millis size rate f b := by
  unfold millis; rw [Int.min_eq_right h1, Int.min_eq_right h2]

set_option maxHeartbeats 1000000 in
theorem mono_no {size rate f a b : Int} (hno : moveOk size rate [f, a, b] = false) (w : World) :
    Calls Try.prog 8 #[.agg #[.int .i64 size, .int .i64 rate, .int .i64 f], .int .i64 a, .int .i64 b] w fun e w' => e = .returned (.bool true) ∧ Below w.heap.size w w' := by
  have C := Lib.hid (moveCode_no hno)
  clear hno
  go_enter Try.func8, Try.ntmps8
  go_wp2_with (first | (go_at_call 18; refine (awake_any _).mono ?_; rintro e w1 ⟨rfl, hb⟩; obtain ⟨hc, hf⟩ := bcell hb) | (go_at_call 34; (with_reducible refine (moveErr_three C.out _ _ rfl).mono ?_); rintro e w2 ⟨rfl, rfl⟩))
  go_ret
  exact ⟨rfl, (((Below.refl _ _).alloc (Nat.le_refl _) _).trans (hb.mono (by simp))).alloc (by have := hb.size; simp at this; omega) _⟩
set_option maxHeartbeats 1000000 in
theorem mono_over {size rate f a b : Int} (hok : moveOk size rate [f, a, b] = true) (hab : b < a) (w : World) :
    Calls Try.prog 8 #[.agg #[.int .i64 size, .int .i64 rate, .int .i64 f], .int .i64 a, .int .i64 b] w fun e w' => e = .returned (.bool true) ∧ Below w.heap.size w w' := by
  have C := Lib.hid (moveCode_ok hok)
  clear hok
  go_enter Try.func8, Try.ntmps8
  go_wp2_with (first | (go_at_call 18; refine (awake_any _).mono ?_; rintro e w1 ⟨rfl, hb⟩; obtain ⟨hc, hf⟩ := bcell hb) | (go_at_call 34; (with_reducible refine (moveErr_three C.out _ _ rfl).mono ?_); rintro e w2 ⟨rfl, rfl⟩))
  go_ret
  exact ⟨rfl, (((Below.refl _ _).alloc (Nat.le_refl _) _).trans (hb.mono (by simp))).alloc (by have := hb.size; simp at this; omega) _⟩
theorem moveOk_sub {size rate rate' : Int} {ms ns : List Int} (h : moveOk size rate ms = true) (h0 : 0 ≤ rate') (h1 : rate' ≤ 2000) (hs : ∀ n ∈ ns, n ∈ ms) : moveOk size rate' ns = true := by
  obtain ⟨h1', _, h3⟩ := moveOk_iff.1 h
  exact moveOk_iff.2 ⟨h1', ⟨h0, h1⟩, fun n hn => h3 n (hs n hn)⟩
set_option maxHeartbeats 1000000 in
theorem mono_yes {size rate f a b : Int} (hok : moveOk size rate [f, a, b] = true) (hab : a ≤ b) (w : World) :
    Calls Try.prog 8 #[.agg #[.int .i64 size, .int .i64 rate, .int .i64 f], .int .i64 a, .int .i64 b] w fun e w' => e = .returned (.bool true) ∧ Below w.heap.size w w' := by
  obtain ⟨⟨s0, s1⟩, ⟨r0, r1⟩, hms⟩ := moveOk_iff.1 hok
  have ha := moveOk_sub (ns := [f, a]) hok r0 r1 (by simp)
  have hb := moveOk_sub (ns := [f, b]) hok r0 r1 (by simp)
  have ma := mov_of ha (f := f) (t := a) (by simp) (by simp)
  have mb := mov_of hb (f := f) (t := b) (by simp) (by simp)
  have bda := millis_bd ma
  have bdb := millis_bd mb
  have hmono := millis_mono (f := f) s0 r0 hab
  have e1 := movedLo_eq ma
  have e2 := movedHi_eq ma
  have e3 := movedLo_eq mb
  have e4 := movedHi_eq mb
  obtain ⟨il, hil⟩ : ∃ x, movedLo size rate f a = x := ⟨_, rfl⟩
  obtain ⟨ih, hih⟩ : ∃ x, movedHi size rate f a = x := ⟨_, rfl⟩
  obtain ⟨kl, hkl⟩ : ∃ x, movedLo size rate f b = x := ⟨_, rfl⟩
  obtain ⟨kh, hkh⟩ : ∃ x, movedHi size rate f b = x := ⟨_, rfl⟩
  have A1 : 0 ≤ il := by omega
  have A2 : il ≤ ih := by omega
  have A3 : ih - il ≤ 1 := by omega
  have A4 : ih ≤ 2000000 := by omega
  have A5 : il ≤ kl := by omega
  have A6 : ih ≤ kh := by omega
  have A7 : kl ≤ kh := by omega
  have A8 : kh ≤ 2000000 := by omega
  have C := Lib.hid (moveCode_ok hok)
  have HA := Lib.hid ha; have HB := Lib.hid hb
  have L1 := Lib.hid hil; have L2 := Lib.hid hih; have L3 := Lib.hid hkl; have L4 := Lib.hid hkh
  have E : Hid (280 ≤ a → kl = il ∧ kh = ih) := Lib.hid (fun h => by
    have := millis_flat (size := size) (rate := rate) (f := f) h (Int.le_trans h hab)
    rw [this] at e1 e2; omega)
  have R : Hid (rate < 2000 → f ≤ a → ∃ jl jh, moveOk size (rate + 1) [f, b] = true ∧ movedLo size (rate + 1) f b = jl ∧ movedHi size (rate + 1) f b = jh ∧ kl ≤ jl ∧ kh ≤ jh) := Lib.hid (fun h1 h2 => by
    have hj := moveOk_sub (rate' := rate + 1) (ns := [f, b]) hok (by omega) (by omega) (by simp)
    have mj := mov_of hj (f := f) (t := b) (by simp) (by simp)
    have hr := millis_rate (rate := rate) s0 (Int.le_trans h2 hab)
    have e5 := movedLo_eq mj
    have e6 := movedHi_eq mj
    exact ⟨_, _, hj, rfl, rfl, by omega, by omega⟩)
  clear hok hms ha hb ma mb bda bdb hmono e1 e2 e3 e4 hil hih hkl hkh s0 s1
  by_cases h28 : 280 ≤ a
  · obtain ⟨rfl, rfl⟩ := E.out h28
    clear E A5 A6
    go_enter Try.func8, Try.ntmps8
    go_wp2_with (first | (go_at_call 18; refine (awake_any _).mono ?_; rintro e w1 ⟨rfl, hb1⟩; have hs1 : w.heap.size < w1.heap.size := (by have := hb1.size; simp at this; omega); obtain ⟨hc1, hf1⟩ := bcell hb1) | (go_at_call 34; (with_reducible refine (moveErr_three C.out _ _ rfl).mono ?_); rintro e w2 ⟨rfl, rfl⟩))
    go_wp2_with (go_at_call 33; (with_reducible refine (at_is HA.out L1.out L2.out _).mono ?_); rintro e w3 ⟨rfl, hb3⟩; have hs3 : w1.heap.size < w3.heap.size := (by have := hb3.size; simp at this; omega); have ht3 : w.heap.size < w3.heap.size := (by omega); obtain ⟨hc3, hf3⟩ := bcell hb3)
    go_wp2_with (go_at_call 33; (with_reducible refine (at_is HB.out L3.out L4.out _).mono ?_); rintro e w4 ⟨rfl, hb4⟩; have hs4 : w3.heap.size < w4.heap.size := (by have := hb4.size; simp at this; omega); have ht4 : w.heap.size < w4.heap.size := (by omega); have hu4 : w1.heap.size < w4.heap.size := (by omega); obtain ⟨hc4, hf4⟩ := bcell hb4)
    all_goals
      have hB := ((((((Below.refl w.heap.size w).alloc (Nat.le_refl _) _).trans (hb1.mono (by simp))).alloc (by omega) _).trans (hb3.mono (by simp; omega))).alloc (by omega) _).trans (hb4.mono (by simp; omega))
    · go_ret
      exact ⟨rfl, hB.alloc (by omega) _⟩
    · obtain ⟨jl, jh, HJ, J1, J2, A9, A10⟩ := R.out (by omega) (by omega)
      have HJ' := Lib.hid HJ; have J1' := Lib.hid J1; have J2' := Lib.hid J2
      have HBB := Lib.hid hB
      clear HJ J1 J2 hB R
      go_wp2_with (go_at_call 33; (with_reducible refine (at_is HJ'.out J1'.out J2'.out _).mono ?_); rintro e w5 ⟨rfl, hb5⟩; have hs5 : w4.heap.size < w5.heap.size := (by have := hb5.size; simp at this; omega); have ht5 : w.heap.size < w5.heap.size := (by omega); obtain ⟨hc5, hf5⟩ := bcell hb5)
      go_ret
      exact ⟨rfl, ((HBB.out.alloc (by omega) _).trans (hb5.mono (by simp; omega))).alloc (by omega) _⟩
    · go_ret
      exact ⟨rfl, hB.alloc (by omega) _⟩
  · clear E
    go_enter Try.func8, Try.ntmps8
    go_wp2_with (first | (go_at_call 18; refine (awake_any _).mono ?_; rintro e w1 ⟨rfl, hb1⟩; have hs1 : w.heap.size < w1.heap.size := (by have := hb1.size; simp at this; omega); obtain ⟨hc1, hf1⟩ := bcell hb1) | (go_at_call 34; (with_reducible refine (moveErr_three C.out _ _ rfl).mono ?_); rintro e w2 ⟨rfl, rfl⟩))
    go_wp2_with (go_at_call 33; (with_reducible refine (at_is HA.out L1.out L2.out _).mono ?_); rintro e w3 ⟨rfl, hb3⟩; have hs3 : w1.heap.size < w3.heap.size := (by have := hb3.size; simp at this; omega); have ht3 : w.heap.size < w3.heap.size := (by omega); obtain ⟨hc3, hf3⟩ := bcell hb3)
    go_wp2_with (go_at_call 33; (with_reducible refine (at_is HB.out L3.out L4.out _).mono ?_); rintro e w4 ⟨rfl, hb4⟩; have hs4 : w3.heap.size < w4.heap.size := (by have := hb4.size; simp at this; omega); have ht4 : w.heap.size < w4.heap.size := (by omega); have hu4 : w1.heap.size < w4.heap.size := (by omega); obtain ⟨hc4, hf4⟩ := bcell hb4)
    all_goals
      have hB := ((((((Below.refl w.heap.size w).alloc (Nat.le_refl _) _).trans (hb1.mono (by simp))).alloc (by omega) _).trans (hb3.mono (by simp; omega))).alloc (by omega) _).trans (hb4.mono (by simp; omega))
    · go_ret
      exact ⟨rfl, hB.alloc (by omega) _⟩
    · obtain ⟨jl, jh, HJ, J1, J2, A9, A10⟩ := R.out (by omega) (by omega)
      have HJ' := Lib.hid HJ; have J1' := Lib.hid J1; have J2' := Lib.hid J2
      have HBB := Lib.hid hB
      clear HJ J1 J2 hB R
      go_wp2_with (go_at_call 33; (with_reducible refine (at_is HJ'.out J1'.out J2'.out _).mono ?_); rintro e w5 ⟨rfl, hb5⟩; have hs5 : w4.heap.size < w5.heap.size := (by have := hb5.size; simp at this; omega); have ht5 : w.heap.size < w5.heap.size := (by omega); obtain ⟨hc5, hf5⟩ := bcell hb5)
      go_ret
      exact ⟨rfl, ((HBB.out.alloc (by omega) _).trans (hb5.mono (by simp; omega))).alloc (by omega) _⟩
    · go_ret
      exact ⟨rfl, hB.alloc (by omega) _⟩

theorem mono_any (size rate f a b : Int) (w : World) :
    Calls Try.prog 8 #[.agg #[.int .i64 size, .int .i64 rate, .int .i64 f], .int .i64 a, .int .i64 b] w fun e w' => e = .returned (.bool true) ∧ Below w.heap.size w w' := by
  cases h : moveOk size rate [f, a, b]
  · exact mono_no h w
  · by_cases hab : a ≤ b
    · exact mono_yes h hab w
    · exact mono_over h (by omega) w
end Go.Proofs.Ytnjbhidncicfiaa
