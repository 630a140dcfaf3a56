/- The law of spans, walked over its callees' contracts. -/
import Derived.Test.YtndkikalbghhaaaSY
namespace Go.Proofs.Ytndkikalbghhaaa
open Go.RowKit

theorem span_ex {b : Bm} {x : Wd} {p r : Int} (p0 : 1 ≤ p) (r0 : 1 ≤ r) : ∃ k, SpanK b x p r k := by
  have h : ∀ N, N ≤ 2000 → ∃ k, k ≤ N ∧ ∀ i : Nat, i < N → bearsB b x (1 + (i : Int)) p r = decide (i < k) := by
    intro N
    induction N with
    | zero => intro _; exact ⟨0, Nat.le_refl _, fun i hi => absurd hi (by omega)⟩
    | succ N ih =>
      intro hN
      obtain ⟨k, hk, hi⟩ := ih (by omega)
      cases hb : bearsB b x (1 + (N : Int)) p r
      · refine ⟨k, by omega, fun i hiN => ?_⟩
        by_cases e : i = N
        · subst e; rw [hb, decide_eq_false (by omega)]
        · exact hi i (by omega)
      · refine ⟨N + 1, Nat.le_refl _, fun i hiN => ?_⟩
        rw [decide_eq_true (by omega)]
        exact bears_mono (n := 1 + (i : Int)) (m := 1 + (N : Int)) (by omega) (by omega) (by omega) (by omega) hb
  obtain ⟨k, hk, hi⟩ := h 2000 (Nat.le_refl _)
  exact ⟨k, hk, hi⟩
theorem spanK_unique {b : Bm} {x : Wd} {p r : Int} {k k' : Nat} (h : SpanK b x p r k) (h' : SpanK b x p r k') : k = k' := by
  rcases Nat.lt_trichotomy k k' with hlt | e | hgt
  · have a := h.2 k (by have := h'.1; omega)
    rw [h'.2 k (by have := h'.1; omega), decide_eq_true hlt, decide_eq_false (Nat.lt_irrefl _)] at a
    cases a
  · exact e
  · have a := h'.2 k' (by have := h.1; omega)
    rw [h.2 k' (by have := h.1; omega), decide_eq_true hgt, decide_eq_false (Nat.lt_irrefl _)] at a
    cases a
theorem woodE_vals (x : Wd) : woodE x = 0 ∨ woodE x = 2 ∨ woodE x = 9 := by
  unfold woodE
  cases firstE [rngE 1 30000 [x.lo, x.hi], rngE 1 1000 [x.st]] == 0 <;> cases decide (x.hi < x.lo) <;> simp
theorem lon_wi (b : Bm) (x : Wd) (p r : Int) : lonE b x p r = firstE [beamE b, woodE x, bif wiB p 1 10000 && wiB r 1 1000 then 0 else 2] := by
  unfold lonE
  simp only [rng_wi]
  rcases beamE_two b with e | e <;> rcases woodE_vals x with f | f | f <;> rw [e, f] <;> cases wiB p 1 10000 <;> cases wiB r 1 1000 <;> rfl
theorem lon_bad {b : Bm} {x : Wd} {p r : Int} {e : Int} (h : lonE b x p r = e) (he : e ≠ 0) (w : World) : Calls Try.prog 60 #[bmV b, wdV x, .int .i64 p, .int .i64 r] w fun e' w' => e' = .returned (.tuple #[.int .i64 0, .int .i64 e]) ∧ Below w.heap.size w w' := by
  refine (longestSpan_any (b := b) (x := x) (p := p) (r := r) w).mono fun e' w' ⟨k, he', _, hw⟩ => ⟨?_, hw⟩
  rw [he', h]
  unfold lonV
  rw [show (e == 0) = false from by simpa using he]; rfl
theorem lon_good {b : Bm} {x : Wd} {p r : Int} {k : Nat} (h : lonE b x p r = 0) (hk : SpanK b x p r k) (w : World) : Calls Try.prog 60 #[bmV b, wdV x, .int .i64 p, .int .i64 r] w fun e' w' => e' = .returned (lonV 0 k) ∧ Below w.heap.size w w' := by
  refine (longestSpan_any (b := b) (x := x) (p := p) (r := r) w).mono fun e' w' ⟨j, he', hf, hw⟩ => ⟨?_, hw⟩
  have hh := lonE_ok.1 h
  rw [he', h, spanK_unique (spanK_of hh.2.2.1.1 hh.2.2.2.1 (hf h)) hk]
theorem rcheckBeam_is {b : Bm} {e : Int} (h : beamE b = e) (w : World) : Calls Try.prog 25 #[bmV b] w fun e' w' => e' = .returned (.int .i64 e) ∧ Below w.heap.size w w' := h ▸ rcheckBeam_any b w
theorem rcheckWood_is {x : Wd} {e : Int} (h : woodE x = e) (w : World) : Calls Try.prog 53 #[wdV x] w fun e' w' => e' = .returned (.int .i64 e) ∧ Below w.heap.size w w' := h ▸ rcheckWood_any x w
set_option maxHeartbeats 8000000 in
set_option maxRecDepth 20000 in
theorem spans_a (s ww t en lo hi st p r : Int) (hE : lonE ⟨s, ww, t, en⟩ ⟨lo, hi, st⟩ p r = 2) (h1 : beamE ⟨s, ww, t, en⟩ = 2) (w : World) :
    Calls Try.prog 12 #[bmV ⟨s, ww, t, en⟩, wdV ⟨lo, hi, st⟩, .agg #[.int .i64 p, .int .i64 r]] w fun e w' => e = .returned (.bool true) ∧ Below w.heap.size w w' := by
  have AW := fun wx => Lib.hid (awake_any wx)
  have LS := fun wx => Lib.hid (lon_bad hE (by decide) wx)
  have CB := fun wx => Lib.hid (rcheckBeam_is h1 wx)
  clear hE h1
  unfold bmV wdV at *
  simp only at AW LS CB ⊢
  go_enter Try.func12, Try.ntmps12
  go_upto_region 1 with fail
  obtain ⟨w0, hw0⟩ : ∃ w0, (((w.alloc (.cells #[.int .i64 s, .int .i64 ww, .int .i64 t, .int .i64 en] 23)).alloc (.cells #[.int .i64 lo, .int .i64 hi, .int .i64 st] 79)).alloc (.cells #[.int .i64 p, .int .i64 r] 96)) = w0 := ⟨_, rfl⟩
  have HB1 : Hid (Below w.heap.size w w0) := Lib.hid (by rw [← hw0]; exact ((((Below.refl _ _).alloc (Nat.le_refl _) _).alloc (by simp; try omega) _).alloc (by simp; try omega) _))
  have HC := Lib.hid (fun wx (hb : Below w0.heap.size w0 wx) => (show wx.cell? ⟨w.heap.size, 0, none⟩ = some (.int .i64 s) ∧ wx.cell? ⟨w.heap.size, 1, none⟩ = some (.int .i64 ww) ∧ wx.cell? ⟨w.heap.size, 2, none⟩ = some (.int .i64 t) ∧ wx.cell? ⟨w.heap.size, 3, none⟩ = some (.int .i64 en) ∧ wx.cell? ⟨w.heap.size + 1, 0, none⟩ = some (.int .i64 lo) ∧ wx.cell? ⟨w.heap.size + 1, 1, none⟩ = some (.int .i64 hi) ∧ wx.cell? ⟨w.heap.size + 1, 2, none⟩ = some (.int .i64 st) ∧ wx.cell? ⟨w.heap.size + 2, 0, none⟩ = some (.int .i64 p) ∧ wx.cell? ⟨w.heap.size + 2, 1, none⟩ = some (.int .i64 r) from by
    subst hw0
    obtain ⟨k, kf⟩ := bcell hb
    exact ⟨(k _ _ (by simp; try omega)).trans (by simp [go_sem]), (k _ _ (by simp; try omega)).trans (by simp [go_sem]), (k _ _ (by simp; try omega)).trans (by simp [go_sem]), (k _ _ (by simp; try omega)).trans (by simp [go_sem]), (k _ _ (by simp; try omega)).trans (by simp [go_sem]), (k _ _ (by simp; try omega)).trans (by simp [go_sem]), (k _ _ (by simp; try omega)).trans (by simp [go_sem]), (k _ _ (by simp; try omega)).trans (by simp [go_sem]), (k _ _ (by simp; try omega)).trans (by simp [go_sem])⟩))
  rw [hw0]
  clear hw0
  have HZ0 := Lib.hid (Below.refl w0.heap.size w0)
  obtain ⟨c0, c1, c2, c3, c4, c5, c6, c7, c8⟩ := HC.out w0 HZ0.out
  go_wp2_with (first | (go_at_call 19; ((with_reducible refine Calls.mono (AW _).out ?_)); rintro e w1 ⟨rfl, hb1⟩; have H1 := Lib.hid ((HZ0).out.trans (hb1.mono (HZ0).out.size)); obtain ⟨d1_0, d1_1, d1_2, d1_3, d1_4, d1_5, d1_6, d1_7, d1_8⟩ := HC.out w1 H1.out; clear hb1) | (go_at_call 60; ((with_reducible refine Calls.mono (LS _).out ?_)); rintro e w2 ⟨rfl, hb2⟩; have H2 := Lib.hid ((H1).out.trans (hb2.mono (H1).out.size)); obtain ⟨d2_0, d2_1, d2_2, d2_3, d2_4, d2_5, d2_6, d2_7, d2_8⟩ := HC.out w2 H2.out; clear hb2) | (go_at_call 25; ((with_reducible refine Calls.mono (CB _).out ?_)); rintro e w3 ⟨rfl, hb3⟩; have H3 := Lib.hid ((H2).out.trans (hb3.mono (H2).out.size)); obtain ⟨d3_0, d3_1, d3_2, d3_3, d3_4, d3_5, d3_6, d3_7, d3_8⟩ := HC.out w3 H3.out; clear hb3))
  go_ret
  exact ⟨rfl, HB1.out.trans (H3.out.mono HB1.out.size)⟩
set_option maxHeartbeats 8000000 in
set_option maxRecDepth 20000 in
theorem spans_b2 (s ww t en lo hi st p r : Int) (hE : lonE ⟨s, ww, t, en⟩ ⟨lo, hi, st⟩ p r = 2) (h1 : beamE ⟨s, ww, t, en⟩ = 0) (h2 : woodE ⟨lo, hi, st⟩ = 2) (w : World) :
    Calls Try.prog 12 #[bmV ⟨s, ww, t, en⟩, wdV ⟨lo, hi, st⟩, .agg #[.int .i64 p, .int .i64 r]] w fun e w' => e = .returned (.bool true) ∧ Below w.heap.size w w' := by
  have AW := fun wx => Lib.hid (awake_any wx)
  have LS := fun wx => Lib.hid (lon_bad hE (by decide) wx)
  have CB := fun wx => Lib.hid (rcheckBeam_is h1 wx)
  have CW := fun wx => Lib.hid (rcheckWood_is h2 wx)
  clear hE h1 h2
  unfold bmV wdV at *
  simp only at AW LS CB CW ⊢
  go_enter Try.func12, Try.ntmps12
  go_upto_region 1 with fail
  obtain ⟨w0, hw0⟩ : ∃ w0, (((w.alloc (.cells #[.int .i64 s, .int .i64 ww, .int .i64 t, .int .i64 en] 23)).alloc (.cells #[.int .i64 lo, .int .i64 hi, .int .i64 st] 79)).alloc (.cells #[.int .i64 p, .int .i64 r] 96)) = w0 := ⟨_, rfl⟩
  have HB1 : Hid (Below w.heap.size w w0) := Lib.hid (by rw [← hw0]; exact ((((Below.refl _ _).alloc (Nat.le_refl _) _).alloc (by simp; try omega) _).alloc (by simp; try omega) _))
  have HC := Lib.hid (fun wx (hb : Below w0.heap.size w0 wx) => (show wx.cell? ⟨w.heap.size, 0, none⟩ = some (.int .i64 s) ∧ wx.cell? ⟨w.heap.size, 1, none⟩ = some (.int .i64 ww) ∧ wx.cell? ⟨w.heap.size, 2, none⟩ = some (.int .i64 t) ∧ wx.cell? ⟨w.heap.size, 3, none⟩ = some (.int .i64 en) ∧ wx.cell? ⟨w.heap.size + 1, 0, none⟩ = some (.int .i64 lo) ∧ wx.cell? ⟨w.heap.size + 1, 1, none⟩ = some (.int .i64 hi) ∧ wx.cell? ⟨w.heap.size + 1, 2, none⟩ = some (.int .i64 st) ∧ wx.cell? ⟨w.heap.size + 2, 0, none⟩ = some (.int .i64 p) ∧ wx.cell? ⟨w.heap.size + 2, 1, none⟩ = some (.int .i64 r) from by
    subst hw0
    obtain ⟨k, kf⟩ := bcell hb
    exact ⟨(k _ _ (by simp; try omega)).trans (by simp [go_sem]), (k _ _ (by simp; try omega)).trans (by simp [go_sem]), (k _ _ (by simp; try omega)).trans (by simp [go_sem]), (k _ _ (by simp; try omega)).trans (by simp [go_sem]), (k _ _ (by simp; try omega)).trans (by simp [go_sem]), (k _ _ (by simp; try omega)).trans (by simp [go_sem]), (k _ _ (by simp; try omega)).trans (by simp [go_sem]), (k _ _ (by simp; try omega)).trans (by simp [go_sem]), (k _ _ (by simp; try omega)).trans (by simp [go_sem])⟩))
  rw [hw0]
  clear hw0
  have HZ0 := Lib.hid (Below.refl w0.heap.size w0)
  obtain ⟨c0, c1, c2, c3, c4, c5, c6, c7, c8⟩ := HC.out w0 HZ0.out
  go_wp2_with (first | (go_at_call 19; ((with_reducible refine Calls.mono (AW _).out ?_)); rintro e w1 ⟨rfl, hb1⟩; have H1 := Lib.hid ((HZ0).out.trans (hb1.mono (HZ0).out.size)); obtain ⟨d1_0, d1_1, d1_2, d1_3, d1_4, d1_5, d1_6, d1_7, d1_8⟩ := HC.out w1 H1.out; clear hb1) | (go_at_call 60; ((with_reducible refine Calls.mono (LS _).out ?_)); rintro e w2 ⟨rfl, hb2⟩; have H2 := Lib.hid ((H1).out.trans (hb2.mono (H1).out.size)); obtain ⟨d2_0, d2_1, d2_2, d2_3, d2_4, d2_5, d2_6, d2_7, d2_8⟩ := HC.out w2 H2.out; clear hb2) | (go_at_call 25; ((with_reducible refine Calls.mono (CB _).out ?_)); rintro e w3 ⟨rfl, hb3⟩; have H3 := Lib.hid ((H2).out.trans (hb3.mono (H2).out.size)); obtain ⟨d3_0, d3_1, d3_2, d3_3, d3_4, d3_5, d3_6, d3_7, d3_8⟩ := HC.out w3 H3.out; clear hb3) | (go_at_call 53; ((with_reducible refine Calls.mono (CW _).out ?_)); rintro e w4 ⟨rfl, hb4⟩; have H4 := Lib.hid ((H3).out.trans (hb4.mono (H3).out.size)); obtain ⟨d4_0, d4_1, d4_2, d4_3, d4_4, d4_5, d4_6, d4_7, d4_8⟩ := HC.out w4 H4.out; clear hb4))
  go_ret
  exact ⟨rfl, HB1.out.trans (H4.out.mono HB1.out.size)⟩
set_option maxHeartbeats 8000000 in
set_option maxRecDepth 20000 in
theorem spans_b9 (s ww t en lo hi st p r : Int) (hE : lonE ⟨s, ww, t, en⟩ ⟨lo, hi, st⟩ p r = 9) (h1 : beamE ⟨s, ww, t, en⟩ = 0) (h2 : woodE ⟨lo, hi, st⟩ = 9) (w : World) :
    Calls Try.prog 12 #[bmV ⟨s, ww, t, en⟩, wdV ⟨lo, hi, st⟩, .agg #[.int .i64 p, .int .i64 r]] w fun e w' => e = .returned (.bool true) ∧ Below w.heap.size w w' := by
  have AW := fun wx => Lib.hid (awake_any wx)
  have LS := fun wx => Lib.hid (lon_bad hE (by decide) wx)
  have CB := fun wx => Lib.hid (rcheckBeam_is h1 wx)
  have CW := fun wx => Lib.hid (rcheckWood_is h2 wx)
  clear hE h1 h2
  unfold bmV wdV at *
  simp only at AW LS CB CW ⊢
  go_enter Try.func12, Try.ntmps12
  go_upto_region 1 with fail
  obtain ⟨w0, hw0⟩ : ∃ w0, (((w.alloc (.cells #[.int .i64 s, .int .i64 ww, .int .i64 t, .int .i64 en] 23)).alloc (.cells #[.int .i64 lo, .int .i64 hi, .int .i64 st] 79)).alloc (.cells #[.int .i64 p, .int .i64 r] 96)) = w0 := ⟨_, rfl⟩
  have HB1 : Hid (Below w.heap.size w w0) := Lib.hid (by rw [← hw0]; exact ((((Below.refl _ _).alloc (Nat.le_refl _) _).alloc (by simp; try omega) _).alloc (by simp; try omega) _))
  have HC := Lib.hid (fun wx (hb : Below w0.heap.size w0 wx) => (show wx.cell? ⟨w.heap.size, 0, none⟩ = some (.int .i64 s) ∧ wx.cell? ⟨w.heap.size, 1, none⟩ = some (.int .i64 ww) ∧ wx.cell? ⟨w.heap.size, 2, none⟩ = some (.int .i64 t) ∧ wx.cell? ⟨w.heap.size, 3, none⟩ = some (.int .i64 en) ∧ wx.cell? ⟨w.heap.size + 1, 0, none⟩ = some (.int .i64 lo) ∧ wx.cell? ⟨w.heap.size + 1, 1, none⟩ = some (.int .i64 hi) ∧ wx.cell? ⟨w.heap.size + 1, 2, none⟩ = some (.int .i64 st) ∧ wx.cell? ⟨w.heap.size + 2, 0, none⟩ = some (.int .i64 p) ∧ wx.cell? ⟨w.heap.size + 2, 1, none⟩ = some (.int .i64 r) from by
    subst hw0
    obtain ⟨k, kf⟩ := bcell hb
    exact ⟨(k _ _ (by simp; try omega)).trans (by simp [go_sem]), (k _ _ (by simp; try omega)).trans (by simp [go_sem]), (k _ _ (by simp; try omega)).trans (by simp [go_sem]), (k _ _ (by simp; try omega)).trans (by simp [go_sem]), (k _ _ (by simp; try omega)).trans (by simp [go_sem]), (k _ _ (by simp; try omega)).trans (by simp [go_sem]), (k _ _ (by simp; try omega)).trans (by simp [go_sem]), (k _ _ (by simp; try omega)).trans (by simp [go_sem]), (k _ _ (by simp; try omega)).trans (by simp [go_sem])⟩))
  rw [hw0]
  clear hw0
  have HZ0 := Lib.hid (Below.refl w0.heap.size w0)
  obtain ⟨c0, c1, c2, c3, c4, c5, c6, c7, c8⟩ := HC.out w0 HZ0.out
  go_wp2_with (first | (go_at_call 19; ((with_reducible refine Calls.mono (AW _).out ?_)); rintro e w1 ⟨rfl, hb1⟩; have H1 := Lib.hid ((HZ0).out.trans (hb1.mono (HZ0).out.size)); obtain ⟨d1_0, d1_1, d1_2, d1_3, d1_4, d1_5, d1_6, d1_7, d1_8⟩ := HC.out w1 H1.out; clear hb1) | (go_at_call 60; ((with_reducible refine Calls.mono (LS _).out ?_)); rintro e w2 ⟨rfl, hb2⟩; have H2 := Lib.hid ((H1).out.trans (hb2.mono (H1).out.size)); obtain ⟨d2_0, d2_1, d2_2, d2_3, d2_4, d2_5, d2_6, d2_7, d2_8⟩ := HC.out w2 H2.out; clear hb2) | (go_at_call 25; ((with_reducible refine Calls.mono (CB _).out ?_)); rintro e w3 ⟨rfl, hb3⟩; have H3 := Lib.hid ((H2).out.trans (hb3.mono (H2).out.size)); obtain ⟨d3_0, d3_1, d3_2, d3_3, d3_4, d3_5, d3_6, d3_7, d3_8⟩ := HC.out w3 H3.out; clear hb3) | (go_at_call 53; ((with_reducible refine Calls.mono (CW _).out ?_)); rintro e w4 ⟨rfl, hb4⟩; have H4 := Lib.hid ((H3).out.trans (hb4.mono (H3).out.size)); obtain ⟨d4_0, d4_1, d4_2, d4_3, d4_4, d4_5, d4_6, d4_7, d4_8⟩ := HC.out w4 H4.out; clear hb4))
  go_ret
  exact ⟨rfl, HB1.out.trans (H4.out.mono HB1.out.size)⟩
set_option maxHeartbeats 8000000 in
set_option maxRecDepth 20000 in
theorem spans_c0 (s ww t en lo hi st p r : Int) (hE : lonE ⟨s, ww, t, en⟩ ⟨lo, hi, st⟩ p r = 2) (h1 : beamE ⟨s, ww, t, en⟩ = 0) (h2 : woodE ⟨lo, hi, st⟩ = 0) (h3 : wiB p 1 10000 = false) (w : World) :
    Calls Try.prog 12 #[bmV ⟨s, ww, t, en⟩, wdV ⟨lo, hi, st⟩, .agg #[.int .i64 p, .int .i64 r]] w fun e w' => e = .returned (.bool true) ∧ Below w.heap.size w w' := by
  have AW := fun wx => Lib.hid (awake_any wx)
  have LS := fun wx => Lib.hid (lon_bad hE (by decide) wx)
  have CB := fun wx => Lib.hid (rcheckBeam_is h1 wx)
  have CW := fun wx => Lib.hid (rcheckWood_is h2 wx)
  have W1 := fun wx => Lib.hid (within_is h3 wx)
  clear hE h1 h2 h3
  unfold bmV wdV at *
  simp only at AW LS CB CW ⊢
  go_enter Try.func12, Try.ntmps12
  go_upto_region 1 with fail
  obtain ⟨w0, hw0⟩ : ∃ w0, (((w.alloc (.cells #[.int .i64 s, .int .i64 ww, .int .i64 t, .int .i64 en] 23)).alloc (.cells #[.int .i64 lo, .int .i64 hi, .int .i64 st] 79)).alloc (.cells #[.int .i64 p, .int .i64 r] 96)) = w0 := ⟨_, rfl⟩
  have HB1 : Hid (Below w.heap.size w w0) := Lib.hid (by rw [← hw0]; exact ((((Below.refl _ _).alloc (Nat.le_refl _) _).alloc (by simp; try omega) _).alloc (by simp; try omega) _))
  have HC := Lib.hid (fun wx (hb : Below w0.heap.size w0 wx) => (show wx.cell? ⟨w.heap.size, 0, none⟩ = some (.int .i64 s) ∧ wx.cell? ⟨w.heap.size, 1, none⟩ = some (.int .i64 ww) ∧ wx.cell? ⟨w.heap.size, 2, none⟩ = some (.int .i64 t) ∧ wx.cell? ⟨w.heap.size, 3, none⟩ = some (.int .i64 en) ∧ wx.cell? ⟨w.heap.size + 1, 0, none⟩ = some (.int .i64 lo) ∧ wx.cell? ⟨w.heap.size + 1, 1, none⟩ = some (.int .i64 hi) ∧ wx.cell? ⟨w.heap.size + 1, 2, none⟩ = some (.int .i64 st) ∧ wx.cell? ⟨w.heap.size + 2, 0, none⟩ = some (.int .i64 p) ∧ wx.cell? ⟨w.heap.size + 2, 1, none⟩ = some (.int .i64 r) from by
    subst hw0
    obtain ⟨k, kf⟩ := bcell hb
    exact ⟨(k _ _ (by simp; try omega)).trans (by simp [go_sem]), (k _ _ (by simp; try omega)).trans (by simp [go_sem]), (k _ _ (by simp; try omega)).trans (by simp [go_sem]), (k _ _ (by simp; try omega)).trans (by simp [go_sem]), (k _ _ (by simp; try omega)).trans (by simp [go_sem]), (k _ _ (by simp; try omega)).trans (by simp [go_sem]), (k _ _ (by simp; try omega)).trans (by simp [go_sem]), (k _ _ (by simp; try omega)).trans (by simp [go_sem]), (k _ _ (by simp; try omega)).trans (by simp [go_sem])⟩))
  rw [hw0]
  clear hw0
  have HZ0 := Lib.hid (Below.refl w0.heap.size w0)
  obtain ⟨c0, c1, c2, c3, c4, c5, c6, c7, c8⟩ := HC.out w0 HZ0.out
  go_wp2_with (first | (go_at_call 19; ((with_reducible refine Calls.mono (AW _).out ?_)); rintro e w1 ⟨rfl, hb1⟩; have H1 := Lib.hid ((HZ0).out.trans (hb1.mono (HZ0).out.size)); obtain ⟨d1_0, d1_1, d1_2, d1_3, d1_4, d1_5, d1_6, d1_7, d1_8⟩ := HC.out w1 H1.out; clear hb1) | (go_at_call 60; ((with_reducible refine Calls.mono (LS _).out ?_)); rintro e w2 ⟨rfl, hb2⟩; have H2 := Lib.hid ((H1).out.trans (hb2.mono (H1).out.size)); obtain ⟨d2_0, d2_1, d2_2, d2_3, d2_4, d2_5, d2_6, d2_7, d2_8⟩ := HC.out w2 H2.out; clear hb2) | (go_at_call 25; ((with_reducible refine Calls.mono (CB _).out ?_)); rintro e w3 ⟨rfl, hb3⟩; have H3 := Lib.hid ((H2).out.trans (hb3.mono (H2).out.size)); obtain ⟨d3_0, d3_1, d3_2, d3_3, d3_4, d3_5, d3_6, d3_7, d3_8⟩ := HC.out w3 H3.out; clear hb3) | (go_at_call 53; ((with_reducible refine Calls.mono (CW _).out ?_)); rintro e w4 ⟨rfl, hb4⟩; have H4 := Lib.hid ((H3).out.trans (hb4.mono (H3).out.size)); obtain ⟨d4_0, d4_1, d4_2, d4_3, d4_4, d4_5, d4_6, d4_7, d4_8⟩ := HC.out w4 H4.out; clear hb4) | (go_at_call 32; ((with_reducible refine Calls.mono (W1 _).out ?_)); rintro e w5 ⟨rfl, rfl⟩))
  go_ret
  exact ⟨rfl, HB1.out.trans (H4.out.mono HB1.out.size)⟩
set_option maxHeartbeats 8000000 in
set_option maxRecDepth 20000 in
theorem spans_c1 (s ww t en lo hi st p r : Int) (hE : lonE ⟨s, ww, t, en⟩ ⟨lo, hi, st⟩ p r = 2) (h1 : beamE ⟨s, ww, t, en⟩ = 0) (h2 : woodE ⟨lo, hi, st⟩ = 0) (h3 : wiB p 1 10000 = true) (h4 : wiB r 1 1000 = false) (w : World) :
    Calls Try.prog 12 #[bmV ⟨s, ww, t, en⟩, wdV ⟨lo, hi, st⟩, .agg #[.int .i64 p, .int .i64 r]] w fun e w' => e = .returned (.bool true) ∧ Below w.heap.size w w' := by
  have AW := fun wx => Lib.hid (awake_any wx)
  have LS := fun wx => Lib.hid (lon_bad hE (by decide) wx)
  have CB := fun wx => Lib.hid (rcheckBeam_is h1 wx)
  have CW := fun wx => Lib.hid (rcheckWood_is h2 wx)
  have W1 := fun wx => Lib.hid (within_is h3 wx)
  have W2 := fun wx => Lib.hid (within_is h4 wx)
  clear hE h1 h2 h3 h4
  unfold bmV wdV at *
  simp only at AW LS CB CW ⊢
  go_enter Try.func12, Try.ntmps12
  go_upto_region 1 with fail
  obtain ⟨w0, hw0⟩ : ∃ w0, (((w.alloc (.cells #[.int .i64 s, .int .i64 ww, .int .i64 t, .int .i64 en] 23)).alloc (.cells #[.int .i64 lo, .int .i64 hi, .int .i64 st] 79)).alloc (.cells #[.int .i64 p, .int .i64 r] 96)) = w0 := ⟨_, rfl⟩
  have HB1 : Hid (Below w.heap.size w w0) := Lib.hid (by rw [← hw0]; exact ((((Below.refl _ _).alloc (Nat.le_refl _) _).alloc (by simp; try omega) _).alloc (by simp; try omega) _))
  have HC := Lib.hid (fun wx (hb : Below w0.heap.size w0 wx) => (show wx.cell? ⟨w.heap.size, 0, none⟩ = some (.int .i64 s) ∧ wx.cell? ⟨w.heap.size, 1, none⟩ = some (.int .i64 ww) ∧ wx.cell? ⟨w.heap.size, 2, none⟩ = some (.int .i64 t) ∧ wx.cell? ⟨w.heap.size, 3, none⟩ = some (.int .i64 en) ∧ wx.cell? ⟨w.heap.size + 1, 0, none⟩ = some (.int .i64 lo) ∧ wx.cell? ⟨w.heap.size + 1, 1, none⟩ = some (.int .i64 hi) ∧ wx.cell? ⟨w.heap.size + 1, 2, none⟩ = some (.int .i64 st) ∧ wx.cell? ⟨w.heap.size + 2, 0, none⟩ = some (.int .i64 p) ∧ wx.cell? ⟨w.heap.size + 2, 1, none⟩ = some (.int .i64 r) from by
    subst hw0
    obtain ⟨k, kf⟩ := bcell hb
    exact ⟨(k _ _ (by simp; try omega)).trans (by simp [go_sem]), (k _ _ (by simp; try omega)).trans (by simp [go_sem]), (k _ _ (by simp; try omega)).trans (by simp [go_sem]), (k _ _ (by simp; try omega)).trans (by simp [go_sem]), (k _ _ (by simp; try omega)).trans (by simp [go_sem]), (k _ _ (by simp; try omega)).trans (by simp [go_sem]), (k _ _ (by simp; try omega)).trans (by simp [go_sem]), (k _ _ (by simp; try omega)).trans (by simp [go_sem]), (k _ _ (by simp; try omega)).trans (by simp [go_sem])⟩))
  rw [hw0]
  clear hw0
  have HZ0 := Lib.hid (Below.refl w0.heap.size w0)
  obtain ⟨c0, c1, c2, c3, c4, c5, c6, c7, c8⟩ := HC.out w0 HZ0.out
  go_wp2_with (first | (go_at_call 19; ((with_reducible refine Calls.mono (AW _).out ?_)); rintro e w1 ⟨rfl, hb1⟩; have H1 := Lib.hid ((HZ0).out.trans (hb1.mono (HZ0).out.size)); obtain ⟨d1_0, d1_1, d1_2, d1_3, d1_4, d1_5, d1_6, d1_7, d1_8⟩ := HC.out w1 H1.out; clear hb1) | (go_at_call 60; ((with_reducible refine Calls.mono (LS _).out ?_)); rintro e w2 ⟨rfl, hb2⟩; have H2 := Lib.hid ((H1).out.trans (hb2.mono (H1).out.size)); obtain ⟨d2_0, d2_1, d2_2, d2_3, d2_4, d2_5, d2_6, d2_7, d2_8⟩ := HC.out w2 H2.out; clear hb2) | (go_at_call 25; ((with_reducible refine Calls.mono (CB _).out ?_)); rintro e w3 ⟨rfl, hb3⟩; have H3 := Lib.hid ((H2).out.trans (hb3.mono (H2).out.size)); obtain ⟨d3_0, d3_1, d3_2, d3_3, d3_4, d3_5, d3_6, d3_7, d3_8⟩ := HC.out w3 H3.out; clear hb3) | (go_at_call 53; ((with_reducible refine Calls.mono (CW _).out ?_)); rintro e w4 ⟨rfl, hb4⟩; have H4 := Lib.hid ((H3).out.trans (hb4.mono (H3).out.size)); obtain ⟨d4_0, d4_1, d4_2, d4_3, d4_4, d4_5, d4_6, d4_7, d4_8⟩ := HC.out w4 H4.out; clear hb4) | (go_at_call 32; ((with_reducible refine Calls.mono (W1 _).out ?_)); rintro e w5 ⟨rfl, rfl⟩) | (go_at_call 32; ((with_reducible refine Calls.mono (W2 _).out ?_)); rintro e w6 ⟨rfl, rfl⟩))
  go_ret
  exact ⟨rfl, HB1.out.trans (H4.out.mono HB1.out.size)⟩
set_option maxHeartbeats 8000000 in
set_option maxRecDepth 20000 in
theorem spans_d (s ww t en lo hi st p r : Int) (hE : lonE ⟨s, ww, t, en⟩ ⟨lo, hi, st⟩ p r = 0) (h1 : beamE ⟨s, ww, t, en⟩ = 0) (h2 : woodE ⟨lo, hi, st⟩ = 0) (h3 : wiB p 1 10000 = true) (h4 : wiB r 1 1000 = true) (hk : SpanK ⟨s, ww, t, en⟩ ⟨lo, hi, st⟩ p r 0) (w : World) :
    Calls Try.prog 12 #[bmV ⟨s, ww, t, en⟩, wdV ⟨lo, hi, st⟩, .agg #[.int .i64 p, .int .i64 r]] w fun e w' => e = .returned (.bool true) ∧ Below w.heap.size w w' := by
  have AW := fun wx => Lib.hid (awake_any wx)
  have hh := lonE_ok.1 hE
  have LS := fun wx => Lib.hid (show Calls Try.prog 60 #[bmV ⟨s, ww, t, en⟩, wdV ⟨lo, hi, st⟩, .int .i64 p, .int .i64 r] wx (fun e' w' => e' = .returned (.tuple #[.int .i64 0, .int .i64 12]) ∧ Below wx.heap.size wx w') from lon_good hE hk wx)
  have CB := fun wx => Lib.hid (rcheckBeam_is h1 wx)
  have CW := fun wx => Lib.hid (rcheckWood_is h2 wx)
  have W1 := fun wx => Lib.hid (within_is h3 wx)
  have W2 := fun wx => Lib.hid (within_is h4 wx)
  have RL := fun wx => Lib.hid (rlongest_any hh.1 hh.2.1 hh.2.2.1.1 hh.2.2.1.2 hh.2.2.2.1 hh.2.2.2.2 hk wx)
  clear hE h1 h2 h3 h4 hh hk
  unfold bmV wdV at *
  simp only at AW LS CB CW RL ⊢
  go_enter Try.func12, Try.ntmps12
  go_upto_region 1 with fail
  obtain ⟨w0, hw0⟩ : ∃ w0, (((w.alloc (.cells #[.int .i64 s, .int .i64 ww, .int .i64 t, .int .i64 en] 23)).alloc (.cells #[.int .i64 lo, .int .i64 hi, .int .i64 st] 79)).alloc (.cells #[.int .i64 p, .int .i64 r] 96)) = w0 := ⟨_, rfl⟩
  have HB1 : Hid (Below w.heap.size w w0) := Lib.hid (by rw [← hw0]; exact ((((Below.refl _ _).alloc (Nat.le_refl _) _).alloc (by simp; try omega) _).alloc (by simp; try omega) _))
  have HC := Lib.hid (fun wx (hb : Below w0.heap.size w0 wx) => (show wx.cell? ⟨w.heap.size, 0, none⟩ = some (.int .i64 s) ∧ wx.cell? ⟨w.heap.size, 1, none⟩ = some (.int .i64 ww) ∧ wx.cell? ⟨w.heap.size, 2, none⟩ = some (.int .i64 t) ∧ wx.cell? ⟨w.heap.size, 3, none⟩ = some (.int .i64 en) ∧ wx.cell? ⟨w.heap.size + 1, 0, none⟩ = some (.int .i64 lo) ∧ wx.cell? ⟨w.heap.size + 1, 1, none⟩ = some (.int .i64 hi) ∧ wx.cell? ⟨w.heap.size + 1, 2, none⟩ = some (.int .i64 st) ∧ wx.cell? ⟨w.heap.size + 2, 0, none⟩ = some (.int .i64 p) ∧ wx.cell? ⟨w.heap.size + 2, 1, none⟩ = some (.int .i64 r) from by
    subst hw0
    obtain ⟨k, kf⟩ := bcell hb
    exact ⟨(k _ _ (by simp; try omega)).trans (by simp [go_sem]), (k _ _ (by simp; try omega)).trans (by simp [go_sem]), (k _ _ (by simp; try omega)).trans (by simp [go_sem]), (k _ _ (by simp; try omega)).trans (by simp [go_sem]), (k _ _ (by simp; try omega)).trans (by simp [go_sem]), (k _ _ (by simp; try omega)).trans (by simp [go_sem]), (k _ _ (by simp; try omega)).trans (by simp [go_sem]), (k _ _ (by simp; try omega)).trans (by simp [go_sem]), (k _ _ (by simp; try omega)).trans (by simp [go_sem])⟩))
  rw [hw0]
  clear hw0
  have HZ0 := Lib.hid (Below.refl w0.heap.size w0)
  obtain ⟨c0, c1, c2, c3, c4, c5, c6, c7, c8⟩ := HC.out w0 HZ0.out
  go_wp2_with (first | (go_at_call 19; ((with_reducible refine Calls.mono (AW _).out ?_)); rintro e w1 ⟨rfl, hb1⟩; have H1 := Lib.hid ((HZ0).out.trans (hb1.mono (HZ0).out.size)); obtain ⟨d1_0, d1_1, d1_2, d1_3, d1_4, d1_5, d1_6, d1_7, d1_8⟩ := HC.out w1 H1.out; clear hb1) | (go_at_call 60; ((with_reducible refine Calls.mono (LS _).out ?_)); rintro e w2 ⟨rfl, hb2⟩; have H2 := Lib.hid ((H1).out.trans (hb2.mono (H1).out.size)); obtain ⟨d2_0, d2_1, d2_2, d2_3, d2_4, d2_5, d2_6, d2_7, d2_8⟩ := HC.out w2 H2.out; clear hb2) | (go_at_call 25; ((with_reducible refine Calls.mono (CB _).out ?_)); rintro e w3 ⟨rfl, hb3⟩; have H3 := Lib.hid ((H2).out.trans (hb3.mono (H2).out.size)); obtain ⟨d3_0, d3_1, d3_2, d3_3, d3_4, d3_5, d3_6, d3_7, d3_8⟩ := HC.out w3 H3.out; clear hb3) | (go_at_call 53; ((with_reducible refine Calls.mono (CW _).out ?_)); rintro e w4 ⟨rfl, hb4⟩; have H4 := Lib.hid ((H3).out.trans (hb4.mono (H3).out.size)); obtain ⟨d4_0, d4_1, d4_2, d4_3, d4_4, d4_5, d4_6, d4_7, d4_8⟩ := HC.out w4 H4.out; clear hb4) | (go_at_call 32; ((with_reducible refine Calls.mono (W1 _).out ?_)); rintro e w5 ⟨rfl, rfl⟩) | (go_at_call 32; ((with_reducible refine Calls.mono (W2 _).out ?_)); rintro e w6 ⟨rfl, rfl⟩) | (go_at_call 61; ((with_reducible refine Calls.mono (RL _).out ?_)); rintro e w7 ⟨rfl, hb7⟩; have H7 := Lib.hid ((H4).out.trans (hb7.mono (H4).out.size)); obtain ⟨d7_0, d7_1, d7_2, d7_3, d7_4, d7_5, d7_6, d7_7, d7_8⟩ := HC.out w7 H7.out; clear hb7))
  go_ret
  exact ⟨rfl, HB1.out.trans (H7.out.mono HB1.out.size)⟩
set_option maxHeartbeats 8000000 in
set_option maxRecDepth 20000 in
theorem spans_e (s ww t en lo hi st p r : Int) (hE : lonE ⟨s, ww, t, en⟩ ⟨lo, hi, st⟩ p r = 0) (h1 : beamE ⟨s, ww, t, en⟩ = 0) (h2 : woodE ⟨lo, hi, st⟩ = 0) (h3 : wiB p 1 10000 = true) (h4 : wiB r 1 1000 = true) {k : Nat} (hk : SpanK ⟨s, ww, t, en⟩ ⟨lo, hi, st⟩ p r (k + 1)) (w : World) :
    Calls Try.prog 12 #[bmV ⟨s, ww, t, en⟩, wdV ⟨lo, hi, st⟩, .agg #[.int .i64 p, .int .i64 r]] w fun e w' => e = .returned (.bool true) ∧ Below w.heap.size w w' := by
  have AW := fun wx => Lib.hid (awake_any wx)
  have hh := lonE_ok.1 hE
  have LS := fun wx => Lib.hid (show Calls Try.prog 60 #[bmV ⟨s, ww, t, en⟩, wdV ⟨lo, hi, st⟩, .int .i64 p, .int .i64 r] wx (fun e' w' => e' = .returned (.tuple #[.int .i64 ((k + 1 : Nat) : Int), .int .i64 0]) ∧ Below wx.heap.size wx w') from lon_good hE hk wx)
  have CB := fun wx => Lib.hid (rcheckBeam_is h1 wx)
  have CW := fun wx => Lib.hid (rcheckWood_is h2 wx)
  have W1 := fun wx => Lib.hid (within_is h3 wx)
  have W2 := fun wx => Lib.hid (within_is h4 wx)
  have RL := fun wx => Lib.hid (rlongest_any hh.1 hh.2.1 hh.2.2.1.1 hh.2.2.1.2 hh.2.2.2.1 hh.2.2.2.2 hk wx)
  clear hE h1 h2 h3 h4 hh hk
  have hkk : (((k + 1 : Nat) : Int) == 0) = false := by simp; omega
  generalize ((k + 1 : Nat) : Int) = kk at *
  unfold bmV wdV at *
  simp only at AW LS CB CW RL ⊢
  go_enter Try.func12, Try.ntmps12
  go_upto_region 1 with fail
  obtain ⟨w0, hw0⟩ : ∃ w0, (((w.alloc (.cells #[.int .i64 s, .int .i64 ww, .int .i64 t, .int .i64 en] 23)).alloc (.cells #[.int .i64 lo, .int .i64 hi, .int .i64 st] 79)).alloc (.cells #[.int .i64 p, .int .i64 r] 96)) = w0 := ⟨_, rfl⟩
  have HB1 : Hid (Below w.heap.size w w0) := Lib.hid (by rw [← hw0]; exact ((((Below.refl _ _).alloc (Nat.le_refl _) _).alloc (by simp; try omega) _).alloc (by simp; try omega) _))
  have HC := Lib.hid (fun wx (hb : Below w0.heap.size w0 wx) => (show wx.cell? ⟨w.heap.size, 0, none⟩ = some (.int .i64 s) ∧ wx.cell? ⟨w.heap.size, 1, none⟩ = some (.int .i64 ww) ∧ wx.cell? ⟨w.heap.size, 2, none⟩ = some (.int .i64 t) ∧ wx.cell? ⟨w.heap.size, 3, none⟩ = some (.int .i64 en) ∧ wx.cell? ⟨w.heap.size + 1, 0, none⟩ = some (.int .i64 lo) ∧ wx.cell? ⟨w.heap.size + 1, 1, none⟩ = some (.int .i64 hi) ∧ wx.cell? ⟨w.heap.size + 1, 2, none⟩ = some (.int .i64 st) ∧ wx.cell? ⟨w.heap.size + 2, 0, none⟩ = some (.int .i64 p) ∧ wx.cell? ⟨w.heap.size + 2, 1, none⟩ = some (.int .i64 r) from by
    subst hw0
    obtain ⟨k, kf⟩ := bcell hb
    exact ⟨(k _ _ (by simp; try omega)).trans (by simp [go_sem]), (k _ _ (by simp; try omega)).trans (by simp [go_sem]), (k _ _ (by simp; try omega)).trans (by simp [go_sem]), (k _ _ (by simp; try omega)).trans (by simp [go_sem]), (k _ _ (by simp; try omega)).trans (by simp [go_sem]), (k _ _ (by simp; try omega)).trans (by simp [go_sem]), (k _ _ (by simp; try omega)).trans (by simp [go_sem]), (k _ _ (by simp; try omega)).trans (by simp [go_sem]), (k _ _ (by simp; try omega)).trans (by simp [go_sem])⟩))
  rw [hw0]
  clear hw0
  have HZ0 := Lib.hid (Below.refl w0.heap.size w0)
  obtain ⟨c0, c1, c2, c3, c4, c5, c6, c7, c8⟩ := HC.out w0 HZ0.out
  go_wp2_with (first | (go_at_call 19; ((with_reducible refine Calls.mono (AW _).out ?_)); rintro e w1 ⟨rfl, hb1⟩; have H1 := Lib.hid ((HZ0).out.trans (hb1.mono (HZ0).out.size)); obtain ⟨d1_0, d1_1, d1_2, d1_3, d1_4, d1_5, d1_6, d1_7, d1_8⟩ := HC.out w1 H1.out; clear hb1) | (go_at_call 60; ((with_reducible refine Calls.mono (LS _).out ?_)); rintro e w2 ⟨rfl, hb2⟩; have H2 := Lib.hid ((H1).out.trans (hb2.mono (H1).out.size)); obtain ⟨d2_0, d2_1, d2_2, d2_3, d2_4, d2_5, d2_6, d2_7, d2_8⟩ := HC.out w2 H2.out; clear hb2) | (go_at_call 25; ((with_reducible refine Calls.mono (CB _).out ?_)); rintro e w3 ⟨rfl, hb3⟩; have H3 := Lib.hid ((H2).out.trans (hb3.mono (H2).out.size)); obtain ⟨d3_0, d3_1, d3_2, d3_3, d3_4, d3_5, d3_6, d3_7, d3_8⟩ := HC.out w3 H3.out; clear hb3) | (go_at_call 53; ((with_reducible refine Calls.mono (CW _).out ?_)); rintro e w4 ⟨rfl, hb4⟩; have H4 := Lib.hid ((H3).out.trans (hb4.mono (H3).out.size)); obtain ⟨d4_0, d4_1, d4_2, d4_3, d4_4, d4_5, d4_6, d4_7, d4_8⟩ := HC.out w4 H4.out; clear hb4) | (go_at_call 32; ((with_reducible refine Calls.mono (W1 _).out ?_)); rintro e w5 ⟨rfl, rfl⟩) | (go_at_call 32; ((with_reducible refine Calls.mono (W2 _).out ?_)); rintro e w6 ⟨rfl, rfl⟩) | (go_at_call 61; ((with_reducible refine Calls.mono (RL _).out ?_)); rintro e w7 ⟨rfl, hb7⟩; have H7 := Lib.hid ((H4).out.trans (hb7.mono (H4).out.size)); obtain ⟨d7_0, d7_1, d7_2, d7_3, d7_4, d7_5, d7_6, d7_7, d7_8⟩ := HC.out w7 H7.out; clear hb7))
  go_ret
  exact ⟨rfl, HB1.out.trans (H7.out.mono HB1.out.size)⟩
theorem spans_law (s ww t en lo hi st p r : Int) (w : World) :
    Calls Try.prog 12 #[bmV ⟨s, ww, t, en⟩, wdV ⟨lo, hi, st⟩, .agg #[.int .i64 p, .int .i64 r]] w fun e w' => e = .returned (.bool true) ∧ Below w.heap.size w w' := by
  have hl := lon_wi ⟨s, ww, t, en⟩ ⟨lo, hi, st⟩ p r
  rcases beamE_two ⟨s, ww, t, en⟩ with h1 | h1
  · rcases woodE_vals ⟨lo, hi, st⟩ with h2 | h2 | h2
    · rw [h1, h2] at hl
      cases h3 : wiB p 1 10000
      · rw [h3] at hl; exact spans_c0 s ww t en lo hi st p r hl h1 h2 h3 w
      · cases h4 : wiB r 1 1000
        · rw [h3, h4] at hl; exact spans_c1 s ww t en lo hi st p r hl h1 h2 h3 h4 w
        · rw [h3, h4] at hl
          obtain ⟨k, hk⟩ := span_ex (b := ⟨s, ww, t, en⟩) (x := ⟨lo, hi, st⟩) (wiB_iff.1 h3).1 (wiB_iff.1 h4).1
          cases k with
          | zero => exact spans_d s ww t en lo hi st p r hl h1 h2 h3 h4 hk w
          | succ k => exact spans_e s ww t en lo hi st p r hl h1 h2 h3 h4 hk w
    · rw [h1, h2] at hl; exact spans_b2 s ww t en lo hi st p r hl h1 h2 w
    · rw [h1, h2] at hl; exact spans_b9 s ww t en lo hi st p r hl h1 h2 w
  · rw [h1] at hl; exact spans_a s ww t en lo hi st p r hl h1 w
theorem spans_walk (x : Bm) (y : Wd) (a b : Int) (w : World) :
    Calls Try.prog 12 #[bmV x, wdV y, .agg #[.int .i64 a, .int .i64 b]] w fun e w' => e = .returned (.bool true) ∧ Below w.heap.size w w' := spans_law x.s x.w x.t x.e y.lo y.hi y.st a b w
end Go.Proofs.Ytndkikalbghhaaa
