/- The law of superposition, whole. -/
import Derived.Test.YtablphoicidlkaaKB
import Derived.Test.YtablphoicidlkaaSX
namespace Go.Proofs.Ytablphoicidlkaa
open Go.RowKit

set_option maxHeartbeats 8000000 in
set_option maxRecDepth 20000 in
theorem super_bad {s ww t en S1 S2 E x d1 d2 : Int} {A1 A2 : Option Addr} {n1 n2 c1 c2 : Nat} {wa wb : Bool} (w : World)
    (CB1 : ∀ wx, Below w.heap.size w wx → Calls Try.prog 23 #[.agg #[.int .i64 s, .int .i64 ww, .int .i64 t, .int .i64 en], .agg #[.slice A1 n1 c1, .int .i64 S1]] wx fun e w' => e = .returned (.int .i64 d1) ∧ Below wx.heap.size wx w')
    (CB2 : ∀ wx, Below w.heap.size w wx → Calls Try.prog 23 #[.agg #[.int .i64 s, .int .i64 ww, .int .i64 t, .int .i64 en], .agg #[.slice A2 n2 c2, .int .i64 S2]] wx fun e w' => e = .returned (.int .i64 d2) ∧ Below wx.heap.size wx w')
    (W1 : ∀ wx, Calls Try.prog 32 #[.int .i64 x, .int .i64 0, .int .i64 s] wx fun e w' => e = .returned (.bool wa) ∧ wx = w')
    (W2 : ∀ wx, Calls Try.prog 32 #[.int .i64 E, .int .i64 1, .int .i64 15000] wx fun e w' => e = .returned (.bool wb) ∧ wx = w')
    (H : 4 < n1 ∨ (n1 ≤ 4 ∧ 4 < n2) ∨ (n1 ≤ 4 ∧ n2 ≤ 4 ∧ d1 ≠ 0) ∨ (n1 ≤ 4 ∧ n2 ≤ 4 ∧ d1 = 0 ∧ d2 ≠ 0) ∨ (n1 ≤ 4 ∧ n2 ≤ 4 ∧ d1 = 0 ∧ d2 = 0 ∧ wa = false) ∨ (n1 ≤ 4 ∧ n2 ≤ 4 ∧ d1 = 0 ∧ d2 = 0 ∧ wa = true ∧ wb = false)) :
    Calls Try.prog 17 #[.agg #[.int .i64 s, .int .i64 ww, .int .i64 t, .int .i64 en], .agg #[.slice A1 n1 c1, .int .i64 S1, .slice A2 n2 c2, .int .i64 S2], .agg #[.int .i64 E, .int .i64 x]] w fun e w' => e = .returned (.bool true) ∧ Below w.heap.size w w' := by
  have HCB1 := Lib.hid CB1
  have HCB2 := Lib.hid CB2
  have HW1 := Lib.hid W1
  have HW2 := Lib.hid W2
  have HH := Lib.hid H
  have AW := fun wx => Lib.hid (awake_any wx)
  clear CB1 CB2 W1 W2 H
  go_enter Try.func17, Try.ntmps17
  go_upto_region 1 with fail
  obtain ⟨w0, hw0⟩ : ∃ w0, (((w.alloc (.cells #[.int .i64 s, .int .i64 ww, .int .i64 t, .int .i64 en] 23)).alloc (.cells #[.slice A1 n1 c1, .int .i64 S1, .slice A2 n2 c2, .int .i64 S2] 70)).alloc (.cells #[.int .i64 E, .int .i64 x] 56)) = w0 := ⟨_, rfl⟩
  have HB0 : Hid (Below w.heap.size w w0) := Lib.hid (by rw [← hw0]; exact ((((Below.refl _ _).alloc (Nat.le_refl _) _).alloc (by simp; try omega) _).alloc (by simp; try omega) _))
  have HC := Lib.hid (fun wx (hb : Below w0.heap.size w0 wx) => (show wx.cell? ⟨w.heap.size, 0, none⟩ = some (.int .i64 s) ∧ wx.cell? ⟨w.heap.size, 1, none⟩ = some (.int .i64 ww) ∧ wx.cell? ⟨w.heap.size, 2, none⟩ = some (.int .i64 t) ∧ wx.cell? ⟨w.heap.size, 3, none⟩ = some (.int .i64 en) ∧ wx.cell? ⟨w.heap.size + 1, 0, none⟩ = some (.slice A1 n1 c1) ∧ wx.cell? ⟨w.heap.size + 1, 1, none⟩ = some (.int .i64 S1) ∧ wx.cell? ⟨w.heap.size + 1, 2, none⟩ = some (.slice A2 n2 c2) ∧ wx.cell? ⟨w.heap.size + 1, 3, none⟩ = some (.int .i64 S2) ∧ wx.cell? ⟨w.heap.size + 2, 0, none⟩ = some (.int .i64 E) ∧ wx.cell? ⟨w.heap.size + 2, 1, none⟩ = some (.int .i64 x) from by
    subst hw0
    obtain ⟨k, kf⟩ := bcell hb
    exact ⟨(k _ _ (by simp; try omega)).trans (by simp [go_sem]), (k _ _ (by simp; try omega)).trans (by simp [go_sem]), (k _ _ (by simp; try omega)).trans (by simp [go_sem]), (k _ _ (by simp; try omega)).trans (by simp [go_sem]), (k _ _ (by simp; try omega)).trans (by simp [go_sem]), (k _ _ (by simp; try omega)).trans (by simp [go_sem]), (k _ _ (by simp; try omega)).trans (by simp [go_sem]), (k _ _ (by simp; try omega)).trans (by simp [go_sem]), (k _ _ (by simp; try omega)).trans (by simp [go_sem]), (k _ _ (by simp; try omega)).trans (by simp [go_sem])⟩))
  rw [hw0]
  clear hw0
  go_upto_region 3 with (go_at_call 19; (refine Calls.mono (AW _).out ?_); rintro e w1 ⟨rfl, hb1⟩; have H1 := Lib.hid hb1; clear hb1)
  obtain ⟨c0, c1, c2, c3, c4, c5, c6, c7, c8, c9⟩ := HC.out w1 H1.out
  have HW1w := Lib.hid (HB0.out.trans (H1.out.mono HB0.out.size))
  rcases HH.out with h1 | ⟨h1, h2⟩ | ⟨h1, h2, hz⟩ | ⟨h1, h2, rfl, hz⟩ | ⟨h1, h2, rfl, rfl, rfl⟩ | ⟨h1, h2, rfl, rfl, rfl, rfl⟩
  · clear HCB1 HCB2
    have e1 : (4 : Int) < (n1 : Int) := by omega
    have e3 : decide ((4 : Int) < (n1 : Int)) = true := decide_eq_true e1
    go_wp2_with (first | (go_at_call 23; (with_reducible refine Calls.mono (HCB1.out _ HW1w.out) ?_); rintro e w2 ⟨rfl, hb2⟩; have H2 := Lib.hid (H1.out.trans (hb2.mono H1.out.size)); have HW2w := Lib.hid (HW1w.out.trans (hb2.mono HW1w.out.size)); clear hb2 HCB1; clear c0 c1 c2 c3 c4 c5 c6 c7 c8 c9; obtain ⟨c0, c1, c2, c3, c4, c5, c6, c7, c8, c9⟩ := HC.out w2 H2.out) | (go_at_call 23; (with_reducible refine Calls.mono (HCB2.out _ HW2w.out) ?_); rintro e w3 ⟨rfl, hb3⟩; have H3 := Lib.hid (H2.out.trans (hb3.mono H2.out.size)); have HW3w := Lib.hid (HW2w.out.trans (hb3.mono HW2w.out.size)); clear hb3; clear c0 c1 c2 c3 c4 c5 c6 c7 c8 c9; obtain ⟨c0, c1, c2, c3, c4, c5, c6, c7, c8, c9⟩ := HC.out w3 H3.out) | (go_at_call 32; (with_reducible refine Calls.mono (HW1.out _) ?_); rintro e w9 ⟨rfl, rfl⟩) | (go_at_call 32; (with_reducible refine Calls.mono (HW2.out _) ?_); rintro e w9 ⟨rfl, rfl⟩) | fail)
    go_ret
    exact ⟨rfl, by first | exact HW3w.out | exact HW2w.out | exact HW1w.out⟩
  · clear HCB1 HCB2
    have e1 : ¬ (4 : Int) < (n1 : Int) := by omega
    have e3 : decide ((4 : Int) < (n1 : Int)) = false := decide_eq_false e1
    have e2 : (4 : Int) < (n2 : Int) := by omega
    have e4 : decide ((4 : Int) < (n2 : Int)) = true := decide_eq_true e2
    go_wp2_with (first | (go_at_call 23; (with_reducible refine Calls.mono (HCB1.out _ HW1w.out) ?_); rintro e w2 ⟨rfl, hb2⟩; have H2 := Lib.hid (H1.out.trans (hb2.mono H1.out.size)); have HW2w := Lib.hid (HW1w.out.trans (hb2.mono HW1w.out.size)); clear hb2 HCB1; clear c0 c1 c2 c3 c4 c5 c6 c7 c8 c9; obtain ⟨c0, c1, c2, c3, c4, c5, c6, c7, c8, c9⟩ := HC.out w2 H2.out) | (go_at_call 23; (with_reducible refine Calls.mono (HCB2.out _ HW2w.out) ?_); rintro e w3 ⟨rfl, hb3⟩; have H3 := Lib.hid (H2.out.trans (hb3.mono H2.out.size)); have HW3w := Lib.hid (HW2w.out.trans (hb3.mono HW2w.out.size)); clear hb3; clear c0 c1 c2 c3 c4 c5 c6 c7 c8 c9; obtain ⟨c0, c1, c2, c3, c4, c5, c6, c7, c8, c9⟩ := HC.out w3 H3.out) | (go_at_call 32; (with_reducible refine Calls.mono (HW1.out _) ?_); rintro e w9 ⟨rfl, rfl⟩) | (go_at_call 32; (with_reducible refine Calls.mono (HW2.out _) ?_); rintro e w9 ⟨rfl, rfl⟩) | fail)
    go_ret
    exact ⟨rfl, by first | exact HW3w.out | exact HW2w.out | exact HW1w.out⟩
  · clear HCB2
    have e1 : ¬ (4 : Int) < (n1 : Int) := by omega
    have e3 : decide ((4 : Int) < (n1 : Int)) = false := decide_eq_false e1
    have e2 : ¬ (4 : Int) < (n2 : Int) := by omega
    have e4 : decide ((4 : Int) < (n2 : Int)) = false := decide_eq_false e2
    have f1 : (d1 == 0) = false := by simpa using hz
    have g1 : (d1 != 0) = true := by simpa using hz
    go_wp2_with (first | (go_at_call 23; (with_reducible refine Calls.mono (HCB1.out _ HW1w.out) ?_); rintro e w2 ⟨rfl, hb2⟩; have H2 := Lib.hid (H1.out.trans (hb2.mono H1.out.size)); have HW2w := Lib.hid (HW1w.out.trans (hb2.mono HW1w.out.size)); clear hb2 HCB1; clear c0 c1 c2 c3 c4 c5 c6 c7 c8 c9; obtain ⟨c0, c1, c2, c3, c4, c5, c6, c7, c8, c9⟩ := HC.out w2 H2.out) | (go_at_call 23; (with_reducible refine Calls.mono (HCB2.out _ HW2w.out) ?_); rintro e w3 ⟨rfl, hb3⟩; have H3 := Lib.hid (H2.out.trans (hb3.mono H2.out.size)); have HW3w := Lib.hid (HW2w.out.trans (hb3.mono HW2w.out.size)); clear hb3; clear c0 c1 c2 c3 c4 c5 c6 c7 c8 c9; obtain ⟨c0, c1, c2, c3, c4, c5, c6, c7, c8, c9⟩ := HC.out w3 H3.out) | (go_at_call 32; (with_reducible refine Calls.mono (HW1.out _) ?_); rintro e w9 ⟨rfl, rfl⟩) | (go_at_call 32; (with_reducible refine Calls.mono (HW2.out _) ?_); rintro e w9 ⟨rfl, rfl⟩) | fail)
    go_ret
    exact ⟨rfl, by first | exact HW3w.out | exact HW2w.out | exact HW1w.out⟩
  · clear HH
    have e1 : ¬ (4 : Int) < (n1 : Int) := by omega
    have e3 : decide ((4 : Int) < (n1 : Int)) = false := decide_eq_false e1
    have e2 : ¬ (4 : Int) < (n2 : Int) := by omega
    have e4 : decide ((4 : Int) < (n2 : Int)) = false := decide_eq_false e2
    have f2 : (d2 == 0) = false := by simpa using hz
    have g2 : (d2 != 0) = true := by simpa using hz
    go_wp2_with (first | (go_at_call 23; (with_reducible refine Calls.mono (HCB1.out _ HW1w.out) ?_); rintro e w2 ⟨rfl, hb2⟩; have H2 := Lib.hid (H1.out.trans (hb2.mono H1.out.size)); have HW2w := Lib.hid (HW1w.out.trans (hb2.mono HW1w.out.size)); clear hb2 HCB1; clear c0 c1 c2 c3 c4 c5 c6 c7 c8 c9; obtain ⟨c0, c1, c2, c3, c4, c5, c6, c7, c8, c9⟩ := HC.out w2 H2.out) | (go_at_call 23; (with_reducible refine Calls.mono (HCB2.out _ HW2w.out) ?_); rintro e w3 ⟨rfl, hb3⟩; have H3 := Lib.hid (H2.out.trans (hb3.mono H2.out.size)); have HW3w := Lib.hid (HW2w.out.trans (hb3.mono HW2w.out.size)); clear hb3; clear c0 c1 c2 c3 c4 c5 c6 c7 c8 c9; obtain ⟨c0, c1, c2, c3, c4, c5, c6, c7, c8, c9⟩ := HC.out w3 H3.out) | (go_at_call 32; (with_reducible refine Calls.mono (HW1.out _) ?_); rintro e w9 ⟨rfl, rfl⟩) | (go_at_call 32; (with_reducible refine Calls.mono (HW2.out _) ?_); rintro e w9 ⟨rfl, rfl⟩) | fail)
    go_ret
    exact ⟨rfl, by first | exact HW3w.out | exact HW2w.out | exact HW1w.out⟩
  · clear HH
    have e1 : ¬ (4 : Int) < (n1 : Int) := by omega
    have e3 : decide ((4 : Int) < (n1 : Int)) = false := decide_eq_false e1
    have e2 : ¬ (4 : Int) < (n2 : Int) := by omega
    have e4 : decide ((4 : Int) < (n2 : Int)) = false := decide_eq_false e2
    go_wp2_with (first | (go_at_call 23; (with_reducible refine Calls.mono (HCB1.out _ HW1w.out) ?_); rintro e w2 ⟨rfl, hb2⟩; have H2 := Lib.hid (H1.out.trans (hb2.mono H1.out.size)); have HW2w := Lib.hid (HW1w.out.trans (hb2.mono HW1w.out.size)); clear hb2 HCB1; clear c0 c1 c2 c3 c4 c5 c6 c7 c8 c9; obtain ⟨c0, c1, c2, c3, c4, c5, c6, c7, c8, c9⟩ := HC.out w2 H2.out) | (go_at_call 23; (with_reducible refine Calls.mono (HCB2.out _ HW2w.out) ?_); rintro e w3 ⟨rfl, hb3⟩; have H3 := Lib.hid (H2.out.trans (hb3.mono H2.out.size)); have HW3w := Lib.hid (HW2w.out.trans (hb3.mono HW2w.out.size)); clear hb3; clear c0 c1 c2 c3 c4 c5 c6 c7 c8 c9; obtain ⟨c0, c1, c2, c3, c4, c5, c6, c7, c8, c9⟩ := HC.out w3 H3.out) | (go_at_call 32; (with_reducible refine Calls.mono (HW1.out _) ?_); rintro e w9 ⟨rfl, rfl⟩) | (go_at_call 32; (with_reducible refine Calls.mono (HW2.out _) ?_); rintro e w9 ⟨rfl, rfl⟩) | fail)
    go_ret
    exact ⟨rfl, by first | exact HW3w.out | exact HW2w.out | exact HW1w.out⟩
  · clear HH
    have e1 : ¬ (4 : Int) < (n1 : Int) := by omega
    have e3 : decide ((4 : Int) < (n1 : Int)) = false := decide_eq_false e1
    have e2 : ¬ (4 : Int) < (n2 : Int) := by omega
    have e4 : decide ((4 : Int) < (n2 : Int)) = false := decide_eq_false e2
    go_wp2_with (first | (go_at_call 23; (with_reducible refine Calls.mono (HCB1.out _ HW1w.out) ?_); rintro e w2 ⟨rfl, hb2⟩; have H2 := Lib.hid (H1.out.trans (hb2.mono H1.out.size)); have HW2w := Lib.hid (HW1w.out.trans (hb2.mono HW1w.out.size)); clear hb2 HCB1; clear c0 c1 c2 c3 c4 c5 c6 c7 c8 c9; obtain ⟨c0, c1, c2, c3, c4, c5, c6, c7, c8, c9⟩ := HC.out w2 H2.out) | (go_at_call 23; (with_reducible refine Calls.mono (HCB2.out _ HW2w.out) ?_); rintro e w3 ⟨rfl, hb3⟩; have H3 := Lib.hid (H2.out.trans (hb3.mono H2.out.size)); have HW3w := Lib.hid (HW2w.out.trans (hb3.mono HW2w.out.size)); clear hb3; clear c0 c1 c2 c3 c4 c5 c6 c7 c8 c9; obtain ⟨c0, c1, c2, c3, c4, c5, c6, c7, c8, c9⟩ := HC.out w3 H3.out) | (go_at_call 32; (with_reducible refine Calls.mono (HW1.out _) ?_); rintro e w9 ⟨rfl, rfl⟩) | (go_at_call 32; (with_reducible refine Calls.mono (HW2.out _) ?_); rintro e w9 ⟨rfl, rfl⟩) | fail)
    go_ret
    exact ⟨rfl, by first | exact HW3w.out | exact HW2w.out | exact HW1w.out⟩
theorem super_walk (b : Bm) (A1 : Option Addr) (n1 c1 : Nat) (S1 : Int) (l1 : List Pt) (A2 : Option Addr) (n2 c2 : Nat) (S2 : Int) (l2 : List Pt) (E x : Int) (hn1 : n1 ≤ maxLen) (hn2 : n2 ≤ maxLen) (w : World) (R1 : PtRow w A1 n1 l1) (R2 : PtRow w A2 n2 l2) :
    Calls Try.prog 17 #[bmV b, .agg #[.slice A1 n1 c1, .int .i64 S1, .slice A2 n2 c2, .int .i64 S2], .agg #[.int .i64 E, .int .i64 x]] w fun e w' => e = .returned (.bool true) ∧ Below w.heap.size w w' := by
  have CB1 : ∀ wx, Below w.heap.size w wx → Calls Try.prog 23 #[bmV b, buV A1 n1 c1 S1] wx fun e w' => e = .returned (.int .i64 (burE b l1 S1)) ∧ Below wx.heap.size wx w' := fun wx hx => rcheckBurden_any wx (R1.below hx) hn1
  have CB2 : ∀ wx, Below w.heap.size w wx → Calls Try.prog 23 #[bmV b, buV A2 n2 c2 S2] wx fun e w' => e = .returned (.int .i64 (burE b l2 S2)) ∧ Below wx.heap.size wx w' := fun wx hx => rcheckBurden_any wx (R2.below hx) hn2
  have W1 := fun wx => within_any x 0 b.s wx
  have W2 := fun wx => within_any E 1 15000 wx
  have W3 := fun wx => within_any (S1 + S2) (-20000) 20000 wx
  by_cases h1 : 4 < n1
  · obtain ⟨s, ww, t, en⟩ := b
    exact super_bad w CB1 CB2 W1 W2 (.inl h1)
  by_cases h2 : 4 < n2
  · obtain ⟨s, ww, t, en⟩ := b
    exact super_bad w CB1 CB2 W1 W2 (.inr (.inl ⟨by omega, h2⟩))
  have h1' : n1 ≤ 4 := by omega
  have h2' : n2 ≤ 4 := by omega
  by_cases hd1 : burE b l1 S1 = 0
  rotate_left
  · obtain ⟨s, ww, t, en⟩ := b
    exact super_bad w CB1 CB2 W1 W2 (.inr (.inr (.inl ⟨h1', h2', hd1⟩)))
  by_cases hd2 : burE b l2 S2 = 0
  rotate_left
  · obtain ⟨s, ww, t, en⟩ := b
    exact super_bad w CB1 CB2 W1 W2 (.inr (.inr (.inr (.inl ⟨h1', h2', hd1, hd2⟩))))
  cases hwa : wiB x 0 b.s
  · obtain ⟨s, ww, t, en⟩ := b
    exact super_bad w CB1 CB2 W1 W2 (.inr (.inr (.inr (.inr (.inl ⟨h1', h2', hd1, hd2, hwa⟩)))))
  cases hwb : wiB E 1 15000
  · obtain ⟨s, ww, t, en⟩ := b
    exact super_bad w CB1 CB2 W1 W2 (.inr (.inr (.inr (.inr (.inr ⟨h1', h2', hd1, hd2, hwa, hwb⟩)))))
  have hx := wiB_iff.1 hwa
  have hE := wiB_iff.1 hwb
  obtain ⟨hb, hl1⟩ := burE_ok.1 hd1
  obtain ⟨-, hl2⟩ := burE_ok.1 hd2
  rw [hd1] at CB1
  rw [hd2] at CB2
  rw [hwa] at W1
  rw [hwb] at W2
  have s0 := hb.s0; have s1 := hb.s1; have w0 := hb.w0; have w1 := hb.w1; have t0 := hb.t0; have t1 := hb.t1
  have hD : 0 < 2 * b.s := by omega
  have hE1 : 1 ≤ E ∧ E ≤ 30000 := by omega
  have hE2 : 1 ≤ 2 * E ∧ 2 * E ≤ 30000 := by omega
  obtain ⟨u1, u2⟩ := sgD_bd (E := E) hb hE1.1 hE1.2
  obtain ⟨u3, u4⟩ := sgD_bd (E := 2 * E) hb hE2.1 hE2.2
  have u5 := sgD_two b E
  have M1 : ∀ wx, Below w.heap.size w wx → Calls Try.prog 31 #[bmV b, buV A1 n1 c1 S1, .int .i64 x] wx fun e w' => e = .returned (.tuple #[frV (mom b l1 S1 x) (2 * b.s), .int .i64 0]) ∧ Below wx.heap.size wx w' := fun wx hw => by
    have h' := momentF_any (b := b) (c := c1) (S := S1) (x := x) wx (R1.below hw) hn1
    rw [momE_ok.2 ⟨⟨hb, hl1⟩, hx⟩, fr1_ok] at h'
    exact h'
  have M2 : ∀ wx, Below w.heap.size w wx → Calls Try.prog 31 #[bmV b, buV A2 n2 c2 S2, .int .i64 x] wx fun e w' => e = .returned (.tuple #[frV (mom b l2 S2 x) (2 * b.s), .int .i64 0]) ∧ Below wx.heap.size wx w' := fun wx hw => by
    have h' := momentF_any (b := b) (c := c2) (S := S2) (x := x) wx (R2.below hw) hn2
    rw [momE_ok.2 ⟨⟨hb, hl2⟩, hx⟩, fr1_ok] at h'
    exact h'
  have G1 : ∀ wx, Below w.heap.size w wx → Calls Try.prog 39 #[bmV b, .int .i64 E, buV A1 n1 c1 S1, .int .i64 x] wx fun e w' => e = .returned (.tuple #[frV (sag b l1 S1 x) (sgD b E), .int .i64 0]) ∧ Below wx.heap.size wx w' := fun wx hw => by
    have h' := sagF_any (b := b) (c := c1) (S := S1) (E := E) (x := x) wx (R1.below hw) hn1
    rw [sagE_ok.2 ⟨⟨hb, hl1⟩, hE1, hx⟩, fr1_ok] at h'
    exact h'
  have G2 : ∀ wx, Below w.heap.size w wx → Calls Try.prog 39 #[bmV b, .int .i64 E, buV A2 n2 c2 S2, .int .i64 x] wx fun e w' => e = .returned (.tuple #[frV (sag b l2 S2 x) (sgD b E), .int .i64 0]) ∧ Below wx.heap.size wx w' := fun wx hw => by
    have h' := sagF_any (b := b) (c := c2) (S := S2) (E := E) (x := x) wx (R2.below hw) hn2
    rw [sagE_ok.2 ⟨⟨hb, hl2⟩, hE1, hx⟩, fr1_ok] at h'
    exact h'
  have WT : wiB (S1 + S2) (-20000) 20000 = true → WtOk b.s (l1 ++ l2) (S1 + S2) := fun h => by
    have h3 := wiB_iff.1 h
    refine ⟨by have := R1.1; have := R2.1; rw [List.length_append]; omega, fun p hp => ?_, h3.1, h3.2⟩
    rcases List.mem_append.1 hp with hp | hp
    · exact hl1.pt p hp
    · exact hl2.pt p hp
  have hnn : n1 + n2 ≤ maxLen := by unfold maxLen; omega
  have M3 : wiB (S1 + S2) (-20000) 20000 = true → ∀ A c wx, PtRow wx A (n1 + n2) (l1 ++ l2) → Calls Try.prog 31 #[bmV b, buV A (n1 + n2) c (S1 + S2), .int .i64 x] wx fun e w' => e = .returned (.tuple #[frV (mom b (l1 ++ l2) (S1 + S2) x) (2 * b.s), .int .i64 0]) ∧ Below wx.heap.size wx w' := fun hw A c wx h => by
    have h' := momentF_any (b := b) (c := c) (S := S1 + S2) (x := x) wx h hnn
    rw [momE_ok.2 ⟨⟨hb, WT hw⟩, hx⟩, fr1_ok] at h'
    exact h'
  have G3 : wiB (S1 + S2) (-20000) 20000 = true → ∀ A c wx, PtRow wx A (n1 + n2) (l1 ++ l2) → Calls Try.prog 39 #[bmV b, .int .i64 E, buV A (n1 + n2) c (S1 + S2), .int .i64 x] wx fun e w' => e = .returned (.tuple #[frV (sag b (l1 ++ l2) (S1 + S2) x) (sgD b E), .int .i64 0]) ∧ Below wx.heap.size wx w' := fun hw A c wx h => by
    have h' := sagF_any (b := b) (c := c) (S := S1 + S2) (E := E) (x := x) wx h hnn
    rw [sagE_ok.2 ⟨⟨hb, WT hw⟩, hE1, hx⟩, fr1_ok] at h'
    exact h'
  have G4 : wiB (S1 + S2) (-20000) 20000 = true → ∀ A c wx, PtRow wx A (n1 + n2) (l1 ++ l2) → Calls Try.prog 39 #[bmV b, .int .i64 (2 * E), buV A (n1 + n2) c (S1 + S2), .int .i64 x] wx fun e w' => e = .returned (.tuple #[frV (sag b (l1 ++ l2) (S1 + S2) x) (sgD b (2 * E)), .int .i64 0]) ∧ Below wx.heap.size wx w' := fun hw A c wx h => by
    have h' := sagF_any (b := b) (c := c) (S := S1 + S2) (E := 2 * E) (x := x) wx h hnn
    rw [sagE_ok.2 ⟨⟨hb, WT hw⟩, hE2, hx⟩, fr1_ok] at h'
    exact h'
  have PL : wiB (S1 + S2) (-20000) 20000 = true → (∀ wx, Calls Try.prog 88 #[frV (mom b l1 S1 x) (2 * b.s), frV (mom b l2 S2 x) (2 * b.s), frV (mom b (l1 ++ l2) (S1 + S2) x) (2 * b.s), .int .i64 (2 * b.s)] wx fun e w' => e = .returned (.bool true) ∧ Below wx.heap.size wx w') ∧
      (∀ wx, Calls Try.prog 88 #[frV (sag b l1 S1 x) (sgD b E), frV (sag b l2 S2 x) (sgD b E), frV (sag b (l1 ++ l2) (S1 + S2) x) (sgD b E), .int .i64 (sgD b E)] wx fun e w' => e = .returned (.bool true) ∧ Below wx.heap.size wx w') ∧
      (∀ wx, Calls Try.prog 88 #[frV (sag b (l1 ++ l2) (S1 + S2) x) (sgD b (2 * E)), frV (sag b (l1 ++ l2) (S1 + S2) x) (sgD b (2 * E)), frV (sag b (l1 ++ l2) (S1 + S2) x) (sgD b E), .int .i64 (sgD b (2 * E))] wx fun e w' => e = .returned (.bool true) ∧ Below wx.heap.size wx w') := fun _ => by
    refine ⟨fun wx => ?_, fun wx => ?_, fun wx => ?_⟩
    · have a1 := low_back1 (n := mom b l1 S1 x) hD
      have a2 := low_back1 (n := mom b l2 S2 x) hD
      have a3 := low_back1 (n := mom b (l1 ++ l2) (S1 + S2) x) hD
      have r1 := lowD_pos (n := mom b l1 S1 x) hD
      have r2 := lowD_pos (n := mom b l2 S2 x) hD
      have r3 := lowD_pos (n := mom b (l1 ++ l2) (S1 + S2) x) hD
      exact plus_any (by omega) (by omega) (by omega) (by omega) (by omega) a1.1 a2.1 a3.1 a1.2 a2.2 a3.2 (mom_both b l1 l2 S1 S2 x).symm wx
    · have a1 := low_back1 (n := sag b l1 S1 x) u1
      have a2 := low_back1 (n := sag b l2 S2 x) u1
      have a3 := low_back1 (n := sag b (l1 ++ l2) (S1 + S2) x) u1
      have r1 := lowD_pos (n := sag b l1 S1 x) u1
      have r2 := lowD_pos (n := sag b l2 S2 x) u1
      have r3 := lowD_pos (n := sag b (l1 ++ l2) (S1 + S2) x) u1
      exact plus_any (by omega) (by omega) (by omega) (by omega) (by omega) a1.1 a2.1 a3.1 a1.2 a2.2 a3.2 (sag_both b l1 l2 S1 S2 x).symm wx
    · have a1 := low_back1 (n := sag b (l1 ++ l2) (S1 + S2) x) u3
      have a3 := low_back (n := sag b (l1 ++ l2) (S1 + S2) x) (k := 2) u1
      rw [← u5] at a3
      have r1 := lowD_pos (n := sag b (l1 ++ l2) (S1 + S2) x) u3
      have r3 := lowD_pos (n := sag b (l1 ++ l2) (S1 + S2) x) u1
      exact plus_any (by omega) (by omega) (by omega) (by omega) (by omega) a1.1 a1.1 a3.1 a1.2 a1.2 a3.2 (by omega) wx
  have NU : wrap64 (S1 + S2) = S1 + S2 ∧ wrap64 (2 * E) = 2 * E ∧ wrap64 (2 * b.s) = 2 * b.s ∧ wrap64 (2 * b.s * E) = 2 * b.s * E ∧ wrap64 (2 * b.s * E * b.w) = 2 * b.s * E * b.w ∧ wrap64 (2 * b.s * E * b.w * b.t) = 2 * b.s * E * b.w * b.t ∧ wrap64 (2 * b.s * E * b.w * b.t * b.t) = 2 * b.s * E * b.w * b.t * b.t ∧ wrap64 (2 * b.s * E * b.w * b.t * b.t * b.t) = sgD b E ∧ wrap64 (2 * sgD b E) = sgD b (2 * E) := by
    have F1 : Ev b.s b.s 2000 := .of (by omega)
    have F2 : Ev E E 30000 := .of (by omega)
    have F3 : Ev b.w b.w 1000 := .of (by omega)
    have F4 : Ev b.t b.t 300 := .of (by omega)
    have q0 := hl1.S0; have q1 := hl1.S1; have q2 := hl2.S0; have q3 := hl2.S1
    have v1 : (2 * b.s * E).natAbs ≤ 9000000000000000000 := ev_bd (Ev.mul (Ev.mul (Ev.lit 2) F1) F2) (by decide +kernel)
    have v2 : (2 * b.s * E * b.w).natAbs ≤ 9000000000000000000 := ev_bd (Ev.mul (Ev.mul (Ev.mul (Ev.lit 2) F1) F2) F3) (by decide +kernel)
    have v3 : (2 * b.s * E * b.w * b.t).natAbs ≤ 9000000000000000000 := ev_bd (Ev.mul (Ev.mul (Ev.mul (Ev.mul (Ev.lit 2) F1) F2) F3) F4) (by decide +kernel)
    have v4 : (2 * b.s * E * b.w * b.t * b.t).natAbs ≤ 9000000000000000000 := ev_bd (Ev.mul (Ev.mul (Ev.mul (Ev.mul (Ev.mul (Ev.lit 2) F1) F2) F3) F4) F4) (by decide +kernel)
    have v5 : wrap64 (sgD b E) = sgD b E := w64 (by omega)
    have v6 : wrap64 (2 * sgD b E) = sgD b (2 * E) := by rw [w64 (by omega)]; omega
    exact ⟨w64 (by omega), w64 (by omega), w64 (by omega), w64 (by omega), w64 (by omega), w64 (by omega), w64 (by omega), v5, v6⟩
  obtain ⟨s, ww, t, en⟩ := b
  exact super_good h1' h2' w R1 R2 CB1 CB2 W1 W2 W3 M1 M2 M3 G1 G2 G3 G4 PL NU
end Go.Proofs.Ytablphoicidlkaa
