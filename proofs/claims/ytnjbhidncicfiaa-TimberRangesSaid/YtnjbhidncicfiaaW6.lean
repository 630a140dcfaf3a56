/- Walks over the timber seat: TimberRanges. -/
import Derived.Test.YtnjbhidncicfiaaW3
import Derived.Test.YtnjbhidncicfiaaW5
import Derived.Deep.RegionHeld3
namespace Go.Proofs.Ytnjbhidncicfiaa
open Go.RowKit

set_option maxHeartbeats 1000000 in
theorem ranges_no {size rate f a b at' : Int} (hno : moveOk size rate [f, a, b] = false) (w : World) :
    Calls Try.prog 7 #[.agg #[.int .i64 size, .int .i64 rate, .int .i64 f], .agg #[.int .i64 a, .int .i64 b], .int .i64 at'] w fun e w' => e = .returned (.bool true) ∧ Below w.heap.size w w' := by
  have C := Lib.hid (moveCode_no hno)
  have N := Lib.hid hno
  clear hno
  go_enter Try.func7, Try.ntmps7
  go_wp2_with (first | (go_at_call 18; refine (awake_any _).mono ?_; rintro e w1 ⟨rfl, hb1⟩; have hs1 : w.heap.size + 1 < w1.heap.size := (by have := hb1.size; simp at this; omega); have ht1 : w.heap.size < w1.heap.size := (by omega); obtain ⟨hc1, hf1⟩ := bcell hb1) | (go_at_call 37; (with_reducible refine (over_err N.out _).mono ?_); rintro e w2 ⟨rfl, hb2⟩; have hs2 : w1.heap.size ≤ w2.heap.size := (by have := hb2.size; omega); have ht2 : w.heap.size + 1 < w2.heap.size := (by omega); have hu2 : w.heap.size < w2.heap.size := (by omega); obtain ⟨hc2, hf2⟩ := bcell hb2) | (go_at_call 34; (with_reducible refine (moveErr_three C.out _ _ (by simp)).mono ?_); rintro e w3 ⟨rfl, rfl⟩))
  go_ret
  exact ⟨rfl, (((((((Below.refl _ _).alloc (Nat.le_refl _) _).alloc (by simp) _).trans (hb1.mono (by simp; omega))).trans (hb2.mono (by omega))).alloc (by omega) _).alloc (by simp; omega) _)⟩
set_option maxHeartbeats 1000000 in
theorem ranges_over {size rate f a b at' : Int} (hok : moveOk size rate [f, a, b] = true) (hab : b < a) (w : World) :
    Calls Try.prog 7 #[.agg #[.int .i64 size, .int .i64 rate, .int .i64 f], .agg #[.int .i64 a, .int .i64 b], .int .i64 at'] w fun e w' => e = .returned (.bool true) ∧ Below w.heap.size w w' := by
  have C := Lib.hid (moveCode_ok hok)
  have N := Lib.hid hok
  clear hok
  go_enter Try.func7, Try.ntmps7
  go_wp2_with (first | (go_at_call 18; refine (awake_any _).mono ?_; rintro e w1 ⟨rfl, hb1⟩; have hs1 : w.heap.size + 1 < w1.heap.size := (by have := hb1.size; simp at this; omega); have ht1 : w.heap.size < w1.heap.size := (by omega); obtain ⟨hc1, hf1⟩ := bcell hb1) | (go_at_call 37; (refine (over_order N.out hab _).mono ?_); rintro e w2 ⟨rfl, hb2⟩; have hs2 : w1.heap.size ≤ w2.heap.size := (by have := hb2.size; omega); have ht2 : w.heap.size + 1 < w2.heap.size := (by omega); have hu2 : w.heap.size < w2.heap.size := (by omega); obtain ⟨hc2, hf2⟩ := bcell hb2) | (go_at_call 34; (with_reducible refine (moveErr_three C.out _ _ (by simp)).mono ?_); rintro e w3 ⟨rfl, rfl⟩))
  go_ret
  exact ⟨rfl, (((((((Below.refl _ _).alloc (Nat.le_refl _) _).alloc (by simp) _).trans (hb1.mono (by simp; omega))).trans (hb2.mono (by omega))).alloc (by omega) _).alloc (by simp; omega) _)⟩
theorem kept8 {W wx w' : World} {b0 b1 b2 : Nat} {v0 v1 v2 v3 v4 v5 v6 : Value} (hb : Below wx.heap.size wx w') (h : Below W.heap.size W wx ∧ wx.cell? ⟨b0, 0, none⟩ = some v0 ∧ wx.cell? ⟨b0, 1, none⟩ = some v1 ∧ wx.cell? ⟨b0, 2, none⟩ = some v2 ∧ wx.cell? ⟨b1, 0, none⟩ = some v3 ∧ wx.cell? ⟨b1, 1, none⟩ = some v4 ∧ wx.cell? ⟨b2, 0, none⟩ = some v5 ∧ wx.cell? ⟨b2, 1, none⟩ = some v6)
    (h0 : b0 < W.heap.size) (h1 : b1 < W.heap.size) (h2 : b2 < W.heap.size) :
    Below W.heap.size W w' ∧ w'.cell? ⟨b0, 0, none⟩ = some v0 ∧ w'.cell? ⟨b0, 1, none⟩ = some v1 ∧ w'.cell? ⟨b0, 2, none⟩ = some v2 ∧ w'.cell? ⟨b1, 0, none⟩ = some v3 ∧ w'.cell? ⟨b1, 1, none⟩ = some v4 ∧ w'.cell? ⟨b2, 0, none⟩ = some v5 ∧ w'.cell? ⟨b2, 1, none⟩ = some v6 := by
  obtain ⟨a, c0, c1, c2, c3, c4, c5, c6⟩ := h
  have hs := a.size
  have k : ∀ b o, b < W.heap.size → w'.cell? ⟨b, o, none⟩ = wx.cell? ⟨b, o, none⟩ := fun b o hlt => hb.cell (p := ⟨b, o, none⟩) (Nat.lt_of_lt_of_le hlt hs)
  exact ⟨a.trans (hb.mono hs), by rw [k _ _ h0, c0], by rw [k _ _ h0, c1], by rw [k _ _ h0, c2], by rw [k _ _ h1, c3], by rw [k _ _ h1, c4], by rw [k _ _ h2, c5], by rw [k _ _ h2, c6]⟩
set_option maxHeartbeats 1000000 in
theorem ranges_yes {size rate f a b at' : Int} (hok : moveOk size rate [f, a, b] = true) (hab : a ≤ b) (w : World) :
    Calls Try.prog 7 #[.agg #[.int .i64 size, .int .i64 rate, .int .i64 f], .agg #[.int .i64 a, .int .i64 b], .int .i64 at'] w fun e w' => e = .returned (.bool true) ∧ Below w.heap.size w w' := by
  have C := Lib.hid (moveCode_ok hok)
  have N := Lib.hid hok
  clear hok
  go_enter Try.func7, Try.ntmps7
  go_wp2_with (first | (go_at_call 18; refine (awake_any _).mono ?_; rintro e w1 ⟨rfl, hb1⟩; have hs1 : w.heap.size + 1 < w1.heap.size := (by have := hb1.size; simp at this; omega); have ht1 : w.heap.size < w1.heap.size := (by omega); obtain ⟨hc1, hf1⟩ := bcell hb1) | (go_at_call 37; (refine (over_ok N.out hab _).mono ?_); rintro e w2 ⟨rfl, hb2⟩; have hs2 : w1.heap.size ≤ w2.heap.size := (by have := hb2.size; omega); have ht2 : w.heap.size + 1 < w2.heap.size := (by omega); have hu2 : w.heap.size < w2.heap.size := (by omega); obtain ⟨hc2, hf2⟩ := bcell hb2) | (go_at_call 34; (with_reducible refine (moveErr_three C.out _ _ (by simp)).mono ?_); rintro e w3 ⟨rfl, rfl⟩))
  have hB := ((((((Below.refl w.heap.size w).alloc (Nat.le_refl _) (.cells #[.int .i64 size, .int .i64 rate, .int .i64 f] 62)).alloc (by simp) (.cells #[.int .i64 a, .int .i64 b] 50)).trans (hb1.mono (by simp; omega))).trans (hb2.mono (by omega))).alloc (by omega) (.cells #[.int .i64 (movedLo size rate f a), .int .i64 (movedHi size rate f b)] 50)).alloc (by simp; omega) (.cells #[.int .i64 f, .int .i64 a, .int .i64 b] 3)
  have z0 : ((w2.alloc (.cells #[.int .i64 (movedLo size rate f a), .int .i64 (movedHi size rate f b)] 50)).alloc (.cells #[.int .i64 f, .int .i64 a, .int .i64 b] 3)).cell? ⟨w.heap.size, 0, none⟩ = some (.int .i64 size) := by simp [go_sem, *]
  have z1 : ((w2.alloc (.cells #[.int .i64 (movedLo size rate f a), .int .i64 (movedHi size rate f b)] 50)).alloc (.cells #[.int .i64 f, .int .i64 a, .int .i64 b] 3)).cell? ⟨w.heap.size, 1, none⟩ = some (.int .i64 rate) := by simp [go_sem, *]
  have z2 : ((w2.alloc (.cells #[.int .i64 (movedLo size rate f a), .int .i64 (movedHi size rate f b)] 50)).alloc (.cells #[.int .i64 f, .int .i64 a, .int .i64 b] 3)).cell? ⟨w.heap.size, 2, none⟩ = some (.int .i64 f) := by simp [go_sem, *]
  have z3 : ((w2.alloc (.cells #[.int .i64 (movedLo size rate f a), .int .i64 (movedHi size rate f b)] 50)).alloc (.cells #[.int .i64 f, .int .i64 a, .int .i64 b] 3)).cell? ⟨w.heap.size + 1, 0, none⟩ = some (.int .i64 a) := by simp [go_sem, *]
  have z4 : ((w2.alloc (.cells #[.int .i64 (movedLo size rate f a), .int .i64 (movedHi size rate f b)] 50)).alloc (.cells #[.int .i64 f, .int .i64 a, .int .i64 b] 3)).cell? ⟨w.heap.size + 1, 1, none⟩ = some (.int .i64 b) := by simp [go_sem, *]
  have z5 : ((w2.alloc (.cells #[.int .i64 (movedLo size rate f a), .int .i64 (movedHi size rate f b)] 50)).alloc (.cells #[.int .i64 f, .int .i64 a, .int .i64 b] 3)).cell? ⟨w2.heap.size, 0, none⟩ = some (.int .i64 (movedLo size rate f a)) := by simp [go_sem, *]
  have z6 : ((w2.alloc (.cells #[.int .i64 (movedLo size rate f a), .int .i64 (movedHi size rate f b)] 50)).alloc (.cells #[.int .i64 f, .int .i64 a, .int .i64 b] 3)).cell? ⟨w2.heap.size, 1, none⟩ = some (.int .i64 (movedHi size rate f b)) := by simp [go_sem, *]
  have zs : w2.heap.size < ((w2.alloc (.cells #[.int .i64 (movedLo size rate f a), .int .i64 (movedHi size rate f b)] 50)).alloc (.cells #[.int .i64 f, .int .i64 a, .int .i64 b] 3)).heap.size := by simp; omega
  obtain ⟨W, hW⟩ : ∃ W, ((w2.alloc (.cells #[.int .i64 (movedLo size rate f a), .int .i64 (movedHi size rate f b)] 50)).alloc (.cells #[.int .i64 f, .int .i64 a, .int .i64 b] 3)) = W := ⟨_, rfl⟩
  rw [hW] at z0 z1 z2 z3 z4 z5 z6 zs hB
  rw [hW]
  have HB := Lib.hid hB
  have Z3 := Lib.hid (show w.heap.size + 1 < W.heap.size by omega)
  have Z2 := Lib.hid (show w.heap.size < W.heap.size by omega)
  have A := Lib.hid (mov_of N.out (f := f) (t := a) (by simp) (by simp))
  have B := Lib.hid (mov_of N.out (f := f) (t := b) (by simp) (by simp))
  obtain ⟨il, hil⟩ : ∃ x, movedLo size rate f a = x := ⟨_, rfl⟩
  obtain ⟨ih, hih⟩ : ∃ x, movedHi size rate f b = x := ⟨_, rfl⟩
  have RO := fun wx => Lib.hid (rover_any A.out B.out hab wx)
  rw [hil, hih] at RO
  rw [hil] at z5
  rw [hih] at z6
  rw [hil, hih]
  have IL := Lib.hid hil; have IH := Lib.hid hih
  clear hW hB hc1 hc2 hf1 hf2 hb1 hb2 hs1 ht1 hs2 ht2 hu2 hil hih
  go_region_held3 (fun wx => Below W.heap.size W wx ∧ wx.cell? ⟨w.heap.size, 0, none⟩ = some (.int .i64 size) ∧ wx.cell? ⟨w.heap.size, 1, none⟩ = some (.int .i64 rate) ∧ wx.cell? ⟨w.heap.size, 2, none⟩ = some (.int .i64 f) ∧ wx.cell? ⟨w.heap.size + 1, 0, none⟩ = some (.int .i64 a) ∧ wx.cell? ⟨w.heap.size + 1, 1, none⟩ = some (.int .i64 b) ∧ wx.cell? ⟨w2.heap.size, 0, none⟩ = some (.int .i64 il) ∧ wx.cell? ⟨w2.heap.size, 1, none⟩ = some (.int .i64 ih)) ((first | (refine ⟨(Below.refl _ _).drew, ?_, ?_, ?_, ?_, ?_, ?_, ?_⟩ <;> assumption) | (refine ⟨?_, ?_, ?_, ?_, ?_, ?_, ?_, ?_⟩ <;> assumption) | (apply kept8 <;> first | assumption | exact Z2.out | exact Z3.out)))
    (first | (go_at_call 38; refine Calls.mono (RO _).out ?_; rintro e w' ⟨rfl, hbx⟩))
  obtain ⟨hWx, y0, y1, y2, y3, y4, y5, y6⟩ := ‹Below W.heap.size W w' ∧ _›
  clear z0 z1 z2 z3 z4 z5 z6 RO
  have s1 : w2.heap.size < w'.heap.size := by have := hWx.size; omega
  have s2 : w.heap.size + 1 < w'.heap.size := by have := hWx.size; have := Z3.out; omega
  have s3 : w.heap.size < w'.heap.size := by omega
  cases hin : inB a b at'
  · have IN := Lib.hid hin
    clear hin
    go_wp2_with (go_at_call 39; (with_reducible refine (rwithin_any IN.out _).mono ?_); rintro e w4 ⟨rfl, rfl⟩)
    go_ret
    exact ⟨rfl, HB.out.trans (hWx.mono (by have := Z2.out; omega))⟩
  · have IN := Lib.hid hin
    have hr : a ≤ at' ∧ at' ≤ b := by unfold inB at hin; rw [Bool.not_eq_true'] at hin; exact outB_iff.1 hin
    have hA := A.out
    have hBB := B.out
    have m1 : Mov size rate f at' := ⟨hA.s0, hA.s1, hA.r0, hA.r1, hA.f0, hA.f1, by have := hA.t0; omega, by have := hBB.t1; omega⟩
    have ok2 : moveOk size rate [f, at'] = true := by
      obtain ⟨h1, h2, h3⟩ := moveOk_iff.1 N.out
      exact moveOk_iff.2 ⟨h1, h2, fun n hn => by
        simp at hn
        rcases hn with rfl | rfl
        · exact h3 _ (by simp)
        · exact ⟨m1.t0, m1.t1⟩⟩
    have d1 := millis_mono2 (f := f) hA.s0 hA.r0 hr.1
    have d2 := millis_mono2 (f := f) hA.s0 hA.r0 hr.2
    have e1 := movedLo_eq' hA
    have e2 := movedHi_eq' hBB
    have e3 := movedLo_eq' m1
    have e4 := movedHi_eq' m1
    obtain ⟨kl, hkl⟩ : ∃ x, movedLo size rate f at' = x := ⟨_, rfl⟩
    obtain ⟨kh, hkh⟩ : ∃ x, movedHi size rate f at' = x := ⟨_, rfl⟩
    have q1 : il ≤ kl := by rw [← IL.out, ← hkl]; omega
    have q2 : kh ≤ ih := by rw [← IH.out, ← hkh]; omega
    have OK := Lib.hid ok2; have KL := Lib.hid hkl; have KH := Lib.hid hkh
    clear hin hr hA hBB m1 ok2 d1 d2 e1 e2 e3 e4 hkl hkh
    go_wp2_with (first | (go_at_call 39; (with_reducible refine (rwithin_any IN.out _).mono ?_); rintro e w4 ⟨rfl, rfl⟩) | (go_at_call 33; (with_reducible refine (at_is OK.out KL.out KH.out _).mono ?_); rintro e w5 ⟨rfl, hb5⟩; have hs5 : w'.heap.size ≤ w5.heap.size := hb5.size; have ht5 : w2.heap.size < w5.heap.size := (by omega); obtain ⟨hc5, hf5⟩ := bcell hb5))
    go_ret
    exact ⟨rfl, ((HB.out.trans (hWx.mono (by have := Z2.out; omega))).trans (hb5.mono (by omega))).alloc (by omega) _⟩
theorem ranges_any (size rate f a b at' : Int) (w : World) :
    Calls Try.prog 7 #[.agg #[.int .i64 size, .int .i64 rate, .int .i64 f], .agg #[.int .i64 a, .int .i64 b], .int .i64 at'] w fun e w' => e = .returned (.bool true) ∧ Below w.heap.size w w' := by
  cases h : moveOk size rate [f, a, b]
  · exact ranges_no h w
  · by_cases hab : a ≤ b
    · exact ranges_yes h hab w
    · exact ranges_over h (by omega) w
end Go.Proofs.Ytnjbhidncicfiaa
