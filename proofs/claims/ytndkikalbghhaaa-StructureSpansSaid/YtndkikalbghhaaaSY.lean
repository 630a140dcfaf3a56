/- The reference's longest span; the law of spans. -/
import Derived.Test.YtndkikalbghhaaaSX
namespace Go.Proofs.Ytndkikalbghhaaa
open Go.RowKit

set_option maxHeartbeats 4000000 in
set_option maxRecDepth 20000 in
theorem rspans_any {b : Bm} {x : Wd} {n p r : Int} (hb : BmOk b) (hx : WdOk x) (n0 : 0 ≤ n) (n1 : n ≤ 2001) (p0 : 1 ≤ p) (p1 : p ≤ 10000) (r0 : 1 ≤ r) (r1 : r ≤ 1000) (w : World) :
    Calls Try.prog 123 #[bmV b, wdV x, .int .i64 p, .int .i64 r, .int .i64 n] w fun e w' => e = .returned (.bool (bearsB b x n p r)) ∧ Below w.heap.size w w' := by
  obtain ⟨s, ww, t, en⟩ := b
  obtain ⟨lo, hi, st⟩ := x
  obtain ⟨s0, s1, w0, w1, t0, t1, e0⟩ := hb
  obtain ⟨l0, l1, h1, st0, st1⟩ := hx
  simp only at s0 s1 w0 w1 t0 t1 e0 l0 l1 h1 st0 st1
  unfold bmV wdV
  simp only
  have E1 : Ev n n 2001 := .of (by omega)
  have E2 : Ev ww ww 1000 := .of (by omega)
  have E3 : Ev t t 300 := .of (by omega)
  have E4 : Ev p p 10000 := .of (by omega)
  have E5 : Ev r r 1000 := .of (by omega)
  have E6 : Ev lo lo 30000 := .of (by omega)
  have E7 : Ev st st 1000 := .of (by omega)
  have q0 : wrap64 (ww * t) = ww * t := by (apply Ev.e; repeat' (first | with_reducible assumption | with_reducible apply Ev.wrap | with_reducible apply Ev.mul | with_reducible apply Ev.add | with_reducible apply Ev.sub | with_reducible apply Ev.neg | exact Ev.lit _ | (decide +kernel)))
  have q1 : wrap64 (ww * t * t) = ww * t * t := by (apply Ev.e; repeat' (first | with_reducible assumption | with_reducible apply Ev.wrap | with_reducible apply Ev.mul | with_reducible apply Ev.add | with_reducible apply Ev.sub | with_reducible apply Ev.neg | exact Ev.lit _ | (decide +kernel)))
  have q2 : wrap64 (ww * t * t * t) = ww * t * t * t := by (apply Ev.e; repeat' (first | with_reducible assumption | with_reducible apply Ev.wrap | with_reducible apply Ev.mul | with_reducible apply Ev.add | with_reducible apply Ev.sub | with_reducible apply Ev.neg | exact Ev.lit _ | (decide +kernel)))
  have q3 : wrap64 (6 * p) = 6 * p := by (apply Ev.e; repeat' (first | with_reducible assumption | with_reducible apply Ev.wrap | with_reducible apply Ev.mul | with_reducible apply Ev.add | with_reducible apply Ev.sub | with_reducible apply Ev.neg | exact Ev.lit _ | (decide +kernel)))
  have q4 : wrap64 (6 * p * n) = 6 * p * n := by (apply Ev.e; repeat' (first | with_reducible assumption | with_reducible apply Ev.wrap | with_reducible apply Ev.mul | with_reducible apply Ev.add | with_reducible apply Ev.sub | with_reducible apply Ev.neg | exact Ev.lit _ | (decide +kernel)))
  have q5 : wrap64 (6 * p * n * n) = 6 * p * n * n := by (apply Ev.e; repeat' (first | with_reducible assumption | with_reducible apply Ev.wrap | with_reducible apply Ev.mul | with_reducible apply Ev.add | with_reducible apply Ev.sub | with_reducible apply Ev.neg | exact Ev.lit _ | (decide +kernel)))
  have q6 : wrap64 (8000 * (ww * t * t)) = 8000 * (ww * t * t) := by (apply Ev.e; repeat' (first | with_reducible assumption | with_reducible apply Ev.wrap | with_reducible apply Ev.mul | with_reducible apply Ev.add | with_reducible apply Ev.sub | with_reducible apply Ev.neg | exact Ev.lit _ | (decide +kernel)))
  have q7 : wrap64 (8000 * (ww * t * t) * st) = 8000 * (ww * t * t) * st := by (apply Ev.e; repeat' (first | with_reducible assumption | with_reducible apply Ev.wrap | with_reducible apply Ev.mul | with_reducible apply Ev.add | with_reducible apply Ev.sub | with_reducible apply Ev.neg | exact Ev.lit _ | (decide +kernel)))
  have q8 : wrap64 (2000 * (ww * t * t)) = 2000 * (ww * t * t) := by (apply Ev.e; repeat' (first | with_reducible assumption | with_reducible apply Ev.wrap | with_reducible apply Ev.mul | with_reducible apply Ev.add | with_reducible apply Ev.sub | with_reducible apply Ev.neg | exact Ev.lit _ | (decide +kernel)))
  have q9 : wrap64 (2000 * (ww * t * t) * st) = 2000 * (ww * t * t) * st := by (apply Ev.e; repeat' (first | with_reducible assumption | with_reducible apply Ev.wrap | with_reducible apply Ev.mul | with_reducible apply Ev.add | with_reducible apply Ev.sub | with_reducible apply Ev.neg | exact Ev.lit _ | (decide +kernel)))
  have q10 : wrap64 (p * n) = p * n := by (apply Ev.e; repeat' (first | with_reducible assumption | with_reducible apply Ev.wrap | with_reducible apply Ev.mul | with_reducible apply Ev.add | with_reducible apply Ev.sub | with_reducible apply Ev.neg | exact Ev.lit _ | (decide +kernel)))
  have q11 : wrap64 (p * n * n) = p * n * n := by (apply Ev.e; repeat' (first | with_reducible assumption | with_reducible apply Ev.wrap | with_reducible apply Ev.mul | with_reducible apply Ev.add | with_reducible apply Ev.sub | with_reducible apply Ev.neg | exact Ev.lit _ | (decide +kernel)))
  have q12 : wrap64 (p * n * n * n) = p * n * n * n := by (apply Ev.e; repeat' (first | with_reducible assumption | with_reducible apply Ev.wrap | with_reducible apply Ev.mul | with_reducible apply Ev.add | with_reducible apply Ev.sub | with_reducible apply Ev.neg | exact Ev.lit _ | (decide +kernel)))
  have q13 : wrap64 (p * n * n * n * r) = p * n * n * n * r := by (apply Ev.e; repeat' (first | with_reducible assumption | with_reducible apply Ev.wrap | with_reducible apply Ev.mul | with_reducible apply Ev.add | with_reducible apply Ev.sub | with_reducible apply Ev.neg | exact Ev.lit _ | (decide +kernel)))
  have q14 : wrap64 (6400 * lo) = 6400 * lo := by (apply Ev.e; repeat' (first | with_reducible assumption | with_reducible apply Ev.wrap | with_reducible apply Ev.mul | with_reducible apply Ev.add | with_reducible apply Ev.sub | with_reducible apply Ev.neg | exact Ev.lit _ | (decide +kernel)))
  have q15 : wrap64 (6400 * lo * (ww * t * t * t)) = 6400 * lo * (ww * t * t * t) := by (apply Ev.e; repeat' (first | with_reducible assumption | with_reducible apply Ev.wrap | with_reducible apply Ev.mul | with_reducible apply Ev.add | with_reducible apply Ev.sub | with_reducible apply Ev.neg | exact Ev.lit _ | (decide +kernel)))
  have q16 : wrap64 (3 * p) = 3 * p := by (apply Ev.e; repeat' (first | with_reducible assumption | with_reducible apply Ev.wrap | with_reducible apply Ev.mul | with_reducible apply Ev.add | with_reducible apply Ev.sub | with_reducible apply Ev.neg | exact Ev.lit _ | (decide +kernel)))
  have q17 : wrap64 (3 * p * n) = 3 * p * n := by (apply Ev.e; repeat' (first | with_reducible assumption | with_reducible apply Ev.wrap | with_reducible apply Ev.mul | with_reducible apply Ev.add | with_reducible apply Ev.sub | with_reducible apply Ev.neg | exact Ev.lit _ | (decide +kernel)))
  have q18 : wrap64 (3 * p * n * n) = 3 * p * n * n := by (apply Ev.e; repeat' (first | with_reducible assumption | with_reducible apply Ev.wrap | with_reducible apply Ev.mul | with_reducible apply Ev.add | with_reducible apply Ev.sub | with_reducible apply Ev.neg | exact Ev.lit _ | (decide +kernel)))
  have q19 : wrap64 (3 * p * n * n * n) = 3 * p * n * n * n := by (apply Ev.e; repeat' (first | with_reducible assumption | with_reducible apply Ev.wrap | with_reducible apply Ev.mul | with_reducible apply Ev.add | with_reducible apply Ev.sub | with_reducible apply Ev.neg | exact Ev.lit _ | (decide +kernel)))
  have q20 : wrap64 (3 * p * n * n * n * r) = 3 * p * n * n * n * r := by (apply Ev.e; repeat' (first | with_reducible assumption | with_reducible apply Ev.wrap | with_reducible apply Ev.mul | with_reducible apply Ev.add | with_reducible apply Ev.sub | with_reducible apply Ev.neg | exact Ev.lit _ | (decide +kernel)))
  have q21 : wrap64 (2000 * lo) = 2000 * lo := by (apply Ev.e; repeat' (first | with_reducible assumption | with_reducible apply Ev.wrap | with_reducible apply Ev.mul | with_reducible apply Ev.add | with_reducible apply Ev.sub | with_reducible apply Ev.neg | exact Ev.lit _ | (decide +kernel)))
  have q22 : wrap64 (2000 * lo * (ww * t * t * t)) = 2000 * lo * (ww * t * t * t) := by (apply Ev.e; repeat' (first | with_reducible assumption | with_reducible apply Ev.wrap | with_reducible apply Ev.mul | with_reducible apply Ev.add | with_reducible apply Ev.sub | with_reducible apply Ev.neg | exact Ev.lit _ | (decide +kernel)))
  have k1 : 8000 * (ww * t * t) * st = 8000 * (st * (ww * t * t)) := by grind
  have k2 : 2000 * (ww * t * t) * st = 2000 * (st * (ww * t * t)) := by grind
  have k3 : 6400 * lo * (ww * t * t * t) = 6400 * (lo * (ww * t * t) * t) := by grind
  have k4 : 2000 * lo * (ww * t * t * t) = 2000 * (lo * (ww * t * t) * t) := by grind
  have k5 : 3 * p * n * n * n * r = 3 * (p * n * n * n * r) := by grind
  have K := Lib.hid (And.intro k1 (And.intro k2 (And.intro k3 (And.intro k4 k5))))
  clear k1 k2 k3 k4 k5 E1 E2 E3 E4 E5 E6 E7 s0 s1 w0 w1 t0 t1 l0 l1 h1 st0 st1 n0 n1 p0 p1 r0 r1
  have HBB : Hid (Below w.heap.size w ((w.alloc (.cells #[.int .i64 s, .int .i64 ww, .int .i64 t, .int .i64 en] 23)).alloc (.cells #[.int .i64 lo, .int .i64 hi, .int .i64 st] 79))) := Lib.hid (((Below.refl _ _).alloc (Nat.le_refl _) _).alloc (by simp) _)
  rcases e0 with rfl | rfl
  · by_cases h1 : 6 * p * n * n ≤ 8000 * (ww * t * t) * st
    · have d1 : decide (6 * p * n * n ≤ 8000 * (ww * t * t) * st) = true := decide_eq_true h1
      by_cases h2 : p * n * n * n * r ≤ 6400 * lo * (ww * t * t * t)
      · have d2 : decide (p * n * n * n * r ≤ 6400 * lo * (ww * t * t * t)) = true := decide_eq_true h2
        have HD := Lib.hid (And.intro d1 d2)
        go_enter Try.func123, Try.ntmps123
        go_wp2
        go_ret
        exact ⟨ret_bool (by obtain ⟨k1, k2, k3, k4, k5⟩ := K.out; obtain ⟨j1, j2⟩ := HD.out; unfold bearsB; simp only [← k1, ← k2, ← k3, ← k4, ← k5]; show _ = (decide (6 * p * n * n ≤ 8000 * (ww * t * t) * st) && decide (p * n * n * n * r ≤ 6400 * lo * (ww * t * t * t))); rw [j1, j2]; rfl), HBB.out⟩
      · have d2 : decide (p * n * n * n * r ≤ 6400 * lo * (ww * t * t * t)) = false := decide_eq_false h2
        have HD := Lib.hid (And.intro d1 d2)
        go_enter Try.func123, Try.ntmps123
        go_wp2
        go_ret
        exact ⟨ret_bool (by obtain ⟨k1, k2, k3, k4, k5⟩ := K.out; obtain ⟨j1, j2⟩ := HD.out; unfold bearsB; simp only [← k1, ← k2, ← k3, ← k4, ← k5]; show _ = (decide (6 * p * n * n ≤ 8000 * (ww * t * t) * st) && decide (p * n * n * n * r ≤ 6400 * lo * (ww * t * t * t))); rw [j1, j2]; rfl), HBB.out⟩
    · have d1 : decide (6 * p * n * n ≤ 8000 * (ww * t * t) * st) = false := decide_eq_false h1
      have HD := Lib.hid d1
      go_enter Try.func123, Try.ntmps123
      go_wp2
      go_ret
      exact ⟨ret_bool (by obtain ⟨k1, k2, k3, k4, k5⟩ := K.out; unfold bearsB; simp only [← k1, ← k2, ← k3, ← k4, ← k5]; show _ = (decide (6 * p * n * n ≤ 8000 * (ww * t * t) * st) && decide (p * n * n * n * r ≤ 6400 * lo * (ww * t * t * t))); rw [HD.out]; rfl), HBB.out⟩
  · by_cases h1 : 6 * p * n * n ≤ 2000 * (ww * t * t) * st
    · have d1 : decide (6 * p * n * n ≤ 2000 * (ww * t * t) * st) = true := decide_eq_true h1
      by_cases h2 : 3 * p * n * n * n * r ≤ 2000 * lo * (ww * t * t * t)
      · have d2 : decide (3 * p * n * n * n * r ≤ 2000 * lo * (ww * t * t * t)) = true := decide_eq_true h2
        have HD := Lib.hid (And.intro d1 d2)
        go_enter Try.func123, Try.ntmps123
        go_wp2
        go_ret
        exact ⟨ret_bool (by obtain ⟨k1, k2, k3, k4, k5⟩ := K.out; obtain ⟨j1, j2⟩ := HD.out; unfold bearsB; simp only [← k1, ← k2, ← k3, ← k4, ← k5]; show _ = (decide (6 * p * n * n ≤ 2000 * (ww * t * t) * st) && decide (3 * p * n * n * n * r ≤ 2000 * lo * (ww * t * t * t))); rw [j1, j2]; rfl), HBB.out⟩
      · have d2 : decide (3 * p * n * n * n * r ≤ 2000 * lo * (ww * t * t * t)) = false := decide_eq_false h2
        have HD := Lib.hid (And.intro d1 d2)
        go_enter Try.func123, Try.ntmps123
        go_wp2
        go_ret
        exact ⟨ret_bool (by obtain ⟨k1, k2, k3, k4, k5⟩ := K.out; obtain ⟨j1, j2⟩ := HD.out; unfold bearsB; simp only [← k1, ← k2, ← k3, ← k4, ← k5]; show _ = (decide (6 * p * n * n ≤ 2000 * (ww * t * t) * st) && decide (3 * p * n * n * n * r ≤ 2000 * lo * (ww * t * t * t))); rw [j1, j2]; rfl), HBB.out⟩
    · have d1 : decide (6 * p * n * n ≤ 2000 * (ww * t * t) * st) = false := decide_eq_false h1
      have HD := Lib.hid d1
      go_enter Try.func123, Try.ntmps123
      go_wp2
      go_ret
      exact ⟨ret_bool (by obtain ⟨k1, k2, k3, k4, k5⟩ := K.out; unfold bearsB; simp only [← k1, ← k2, ← k3, ← k4, ← k5]; show _ = (decide (6 * p * n * n ≤ 2000 * (ww * t * t) * st) && decide (3 * p * n * n * n * r ≤ 2000 * lo * (ww * t * t * t))); rw [HD.out]; rfl), HBB.out⟩
/-- The spans from k + 1 on are too long. -/
def SpanK (b : Bm) (x : Wd) (p r : Int) (k : Nat) : Prop := k ≤ 2000 ∧ ∀ i : Nat, i < 2000 → bearsB b x (1 + (i : Int)) p r = decide (i < k)
theorem spanK_of {b : Bm} {x : Wd} {p r : Int} (p0 : 1 ≤ p) (r0 : 1 ≤ r) {k : Nat} (h : Found 2000 (lonQ b x p r) k) : SpanK b x p r k := by
  obtain ⟨hk, f1, f2⟩ := h
  refine ⟨hk, fun i hi => ?_⟩
  have hm := lonQ_mono (b := b) (x := x) p0 r0
  by_cases hik : i < k
  · rw [decide_eq_true hik]
    rcases f1 with rfl | f1
    · omega
    · cases hq : bearsB b x (1 + (i : Int)) p r
      · have h1 : lonQ b x p r i = true := by unfold lonQ; rw [hq]; rfl
        have := hm i (k - 1) (by omega) (by omega) h1
        rw [this] at f1; cases f1
      · rfl
  · rw [decide_eq_false hik]
    rcases f2 with rfl | f2
    · omega
    · have := hm k i (by omega) hi f2
      unfold lonQ at this
      simpa using this
set_option maxHeartbeats 4000000 in
set_option maxRecDepth 20000 in
theorem rlongest_any {b : Bm} {x : Wd} {p r : Int} {k : Nat} (hb : BmOk b) (hx : WdOk x) (p0 : 1 ≤ p) (p1 : p ≤ 10000) (r0 : 1 ≤ r) (r1 : r ≤ 1000) (hk : SpanK b x p r k) (w : World) :
    Calls Try.prog 61 #[bmV b, wdV x, .int .i64 p, .int .i64 r] w fun e w' => e = .returned (.int .i64 k) ∧ Below w.heap.size w w' := by
  obtain ⟨hk0, hk1⟩ := hk
  have SP := Lib.hid (fun wx (i : Nat) (hi : i < 2000) => (rspans_any (n := 1 + (i : Int)) hb hx (by omega) (by omega) p0 p1 r0 r1 wx).mono (R' := fun e w' => e = .returned (.bool (decide (i < k))) ∧ Below wx.heap.size wx w') (fun e w' ⟨he, hw⟩ => ⟨by rw [he, hk1 i hi], hw⟩))
  clear hk1 hb hx
  obtain ⟨s, ww, t, en⟩ := b
  obtain ⟨lo, hi, st⟩ := x
  unfold bmV wdV at *
  simp only at SP ⊢
  have HB0 : Hid (Below w.heap.size w ((w.alloc (.cells #[.int .i64 s, .int .i64 ww, .int .i64 t, .int .i64 en] 23)).alloc (.cells #[.int .i64 lo, .int .i64 hi, .int .i64 st] 79))) := Lib.hid (((Below.refl _ _).alloc (Nat.le_refl _) _).alloc (by simp) _)
  go_enter Try.func61, Try.ntmps61
  go_wp2
  obtain ⟨w0, hw0⟩ : ∃ w0, ((w.alloc (.cells #[.int .i64 s, .int .i64 ww, .int .i64 t, .int .i64 en] 23)).alloc (.cells #[.int .i64 lo, .int .i64 hi, .int .i64 st] 79)) = w0 := ⟨_, rfl⟩
  have HB1 : Hid (Below w.heap.size w w0) := Lib.hid (by rw [← hw0]; exact (((Below.refl _ _).alloc (Nat.le_refl _) _).alloc (by simp; try omega) _))
  have HC := Lib.hid (fun wx (hb : Below w0.heap.size w0 wx) => (show wx.cell? ⟨w.heap.size, 0, none⟩ = some (.int .i64 s) ∧ wx.cell? ⟨w.heap.size, 1, none⟩ = some (.int .i64 ww) ∧ wx.cell? ⟨w.heap.size, 2, none⟩ = some (.int .i64 t) ∧ wx.cell? ⟨w.heap.size, 3, none⟩ = some (.int .i64 en) ∧ wx.cell? ⟨w.heap.size + 1, 0, none⟩ = some (.int .i64 lo) ∧ wx.cell? ⟨w.heap.size + 1, 1, none⟩ = some (.int .i64 hi) ∧ wx.cell? ⟨w.heap.size + 1, 2, none⟩ = some (.int .i64 st) from by
    subst hw0
    obtain ⟨k, kf⟩ := bcell hb
    exact ⟨(k _ _ (by simp; try omega)).trans (by simp [go_sem]), (k _ _ (by simp; try omega)).trans (by simp [go_sem]), (k _ _ (by simp; try omega)).trans (by simp [go_sem]), (k _ _ (by simp; try omega)).trans (by simp [go_sem]), (k _ _ (by simp; try omega)).trans (by simp [go_sem]), (k _ _ (by simp; try omega)).trans (by simp [go_sem]), (k _ _ (by simp; try omega)).trans (by simp [go_sem])⟩))
  rw [hw0]
  clear hw0
  go_loopw [9, 10] (fun a i wr => ∃ m : Nat, m ≤ 2000 ∧ i = .int .i64 (1 + (m : Int)) ∧ a = .int .i64 ((min m k : Nat) : Int) ∧ Below w0.heap.size w0 wr) (fun _ i _ => 2001 - (intOf i).toNat)
  case atStart => exact ⟨0, by omega, rfl, by simp, Below.refl _ _⟩
  case round =>
    obtain ⟨m, hm, rfl, rfl, hbw⟩ := hrel
    obtain ⟨c0, c1, c2, c3, c4, c5, c6⟩ := HC.out wr hbw
    have HBW := Lib.hid hbw
    clear hbw
    by_cases hlt : m < 2000
    · have hc : (1 + (m : Int)) ≤ 2000 := by omega
      have SM := Lib.hid (SP.out wr m hlt)
      by_cases hmk : m < k
      · rw [decide_eq_true hmk] at SM
        have hmin : Hid ((min (m + 1) k : Nat) = m + 1) := Lib.hid (by omega)
        go_wp2_with (go_at_call 123; (refine Calls.mono SM.out ?_); rintro e w1 ⟨rfl, hb1⟩; have HX := Lib.hid (HBW.out.trans (hb1.mono HBW.out.size)); clear hb1)
        go_roundw
        case rel => exact ⟨m + 1, by omega, by go_num, by rw [hmin.out]; go_num, HX.out⟩
        case measure => simp [intOf]; omega
      · rw [decide_eq_false hmk] at SM
        have hmin : Hid ((min (m + 1) k : Nat) = min m k) := Lib.hid (by omega)
        go_wp2_with (go_at_call 123; (refine Calls.mono SM.out ?_); rintro e w1 ⟨rfl, hb1⟩; have HX := Lib.hid (HBW.out.trans (hb1.mono HBW.out.size)); clear hb1)
        go_roundw
        case rel => exact ⟨m + 1, by omega, by go_num, by rw [hmin.out], HX.out⟩
        case measure => simp [intOf]; omega
    · have hc : ¬ (1 + (m : Int)) ≤ 2000 := by omega
      have hmin : Hid ((min m k : Nat) = k) := Lib.hid (by omega)
      go_wp2
      go_ret
      exact ⟨ret_int (by rw [hmin.out]), HB1.out.trans (HBW.out.mono HB1.out.size)⟩
end Go.Proofs.Ytndkikalbghhaaa
