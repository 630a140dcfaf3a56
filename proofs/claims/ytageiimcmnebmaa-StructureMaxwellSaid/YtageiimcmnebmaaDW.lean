/- Maxwell's law, whole. -/
import Derived.Test.YtageiimcmnebmaaDU
import Derived.Test.YtageiimcmnebmaaBF
import Derived.Test.YtageiimcmnebmaaBG
namespace Go.Proofs.Ytageiimcmnebmaa
open Go.RowKit

set_option maxHeartbeats 8000000 in
set_option maxRecDepth 20000 in
theorem maxwell_bad {s ww t en x a v E cb : Int} {b1 b2 b3 b4 : Bool}
    (CB : ∀ wx, Calls Try.prog 25 #[.agg #[.int .i64 s, .int .i64 ww, .int .i64 t, .int .i64 en]] wx fun e w' => e = .returned (.int .i64 cb) ∧ Below wx.heap.size wx w')
    (W1 : ∀ wx, Calls Try.prog 32 #[.int .i64 x, .int .i64 0, .int .i64 s] wx fun e w' => e = .returned (.bool b1) ∧ wx = w')
    (W2 : ∀ wx, Calls Try.prog 32 #[.int .i64 a, .int .i64 0, .int .i64 s] wx fun e w' => e = .returned (.bool b2) ∧ wx = w')
    (W3 : ∀ wx, Calls Try.prog 32 #[.int .i64 v, .int .i64 (-2000), .int .i64 2000] wx fun e w' => e = .returned (.bool b3) ∧ wx = w')
    (IS : ∀ wx, Calls Try.prog 41 #[.int .i64 E] wx fun e w' => e = .returned (.bool b4) ∧ wx = w')
    (H : cb ≠ 0 ∨ (cb = 0 ∧ b1 = false) ∨ (cb = 0 ∧ b1 = true ∧ b2 = false) ∨ (cb = 0 ∧ b1 = true ∧ b2 = true ∧ b3 = false) ∨ (cb = 0 ∧ b1 = true ∧ b2 = true ∧ b3 = true ∧ b4 = false)) (w : World) :
    Calls Try.prog 18 #[.agg #[.int .i64 s, .int .i64 ww, .int .i64 t, .int .i64 en], .agg #[.int .i64 x, .int .i64 a, .int .i64 v], .int .i64 E] w fun e w' => e = .returned (.bool true) ∧ Below w.heap.size w w' := by
  have HCB := Lib.hid CB
  have HW1 := Lib.hid W1
  have HW2 := Lib.hid W2
  have HW3 := Lib.hid W3
  have HIS := Lib.hid IS
  have AW := fun wx => Lib.hid (awake_any wx)
  have HH := Lib.hid H
  clear CB W1 W2 W3 IS H
  go_enter Try.func18, Try.ntmps18
  go_upto_region 1 with fail
  obtain ⟨w0, hw0⟩ : ∃ w0, ((w.alloc (.cells #[.int .i64 s, .int .i64 ww, .int .i64 t, .int .i64 en] 23)).alloc (.cells #[.int .i64 x, .int .i64 a, .int .i64 v] 147)) = w0 := ⟨_, rfl⟩
  have HB0 : Hid (Below w.heap.size w w0) := Lib.hid (by rw [← hw0]; exact (((Below.refl _ _).alloc (Nat.le_refl _) _).alloc (by simp; try omega) _))
  have HC := Lib.hid (fun wx (hb : Below w0.heap.size w0 wx) => (show wx.cell? ⟨w.heap.size, 0, none⟩ = some (.int .i64 s) ∧ wx.cell? ⟨w.heap.size, 1, none⟩ = some (.int .i64 ww) ∧ wx.cell? ⟨w.heap.size, 2, none⟩ = some (.int .i64 t) ∧ wx.cell? ⟨w.heap.size, 3, none⟩ = some (.int .i64 en) ∧ wx.cell? ⟨w.heap.size + 1, 0, none⟩ = some (.int .i64 x) ∧ wx.cell? ⟨w.heap.size + 1, 1, none⟩ = some (.int .i64 a) ∧ wx.cell? ⟨w.heap.size + 1, 2, none⟩ = some (.int .i64 v) from by
    subst hw0
    obtain ⟨k, kf⟩ := bcell hb
    exact ⟨(k _ _ (by simp; try omega)).trans (by simp [go_sem]), (k _ _ (by simp; try omega)).trans (by simp [go_sem]), (k _ _ (by simp; try omega)).trans (by simp [go_sem]), (k _ _ (by simp; try omega)).trans (by simp [go_sem]), (k _ _ (by simp; try omega)).trans (by simp [go_sem]), (k _ _ (by simp; try omega)).trans (by simp [go_sem]), (k _ _ (by simp; try omega)).trans (by simp [go_sem])⟩))
  rw [hw0]
  clear hw0
  go_upto_region 3 with (go_at_call 19; (refine Calls.mono (AW _).out ?_); rintro e w1 ⟨rfl, hb1⟩; have H1 := Lib.hid hb1; clear hb1)
  obtain ⟨c0, c1, c2, c3, c4, c5, c6⟩ := HC.out w1 H1.out
  rcases HH.out with hc | ⟨rfl, rfl⟩ | ⟨rfl, rfl, rfl⟩ | ⟨rfl, rfl, rfl, rfl⟩ | ⟨rfl, rfl, rfl, rfl, rfl⟩
  · have hd : (cb == 0) = false := by simpa using hc
    go_wp2_with (first | (go_at_call 25; (refine Calls.mono (HCB.out _) ?_); rintro e w2 ⟨rfl, hb2⟩; have H2 := Lib.hid (H1.out.trans (hb2.mono H1.out.size)); clear hb2; clear c0 c1 c2 c3 c4 c5 c6; obtain ⟨c0, c1, c2, c3, c4, c5, c6⟩ := HC.out w2 H2.out) | (go_at_call 32; (with_reducible refine Calls.mono (HW1.out _) ?_); rintro e w9 ⟨rfl, rfl⟩) | (go_at_call 32; (with_reducible refine Calls.mono (HW2.out _) ?_); rintro e w9 ⟨rfl, rfl⟩) | (go_at_call 32; (with_reducible refine Calls.mono (HW3.out _) ?_); rintro e w9 ⟨rfl, rfl⟩) | (go_at_call 41; (with_reducible refine Calls.mono (HIS.out _) ?_); rintro e w9 ⟨rfl, rfl⟩) | fail)
    go_ret
    exact ⟨rfl, HB0.out.trans (H2.out.mono HB0.out.size)⟩
  · go_wp2_with (first | (go_at_call 25; (refine Calls.mono (HCB.out _) ?_); rintro e w2 ⟨rfl, hb2⟩; have H2 := Lib.hid (H1.out.trans (hb2.mono H1.out.size)); clear hb2; clear c0 c1 c2 c3 c4 c5 c6; obtain ⟨c0, c1, c2, c3, c4, c5, c6⟩ := HC.out w2 H2.out) | (go_at_call 32; (with_reducible refine Calls.mono (HW1.out _) ?_); rintro e w9 ⟨rfl, rfl⟩) | (go_at_call 32; (with_reducible refine Calls.mono (HW2.out _) ?_); rintro e w9 ⟨rfl, rfl⟩) | (go_at_call 32; (with_reducible refine Calls.mono (HW3.out _) ?_); rintro e w9 ⟨rfl, rfl⟩) | (go_at_call 41; (with_reducible refine Calls.mono (HIS.out _) ?_); rintro e w9 ⟨rfl, rfl⟩) | fail)
    go_ret
    exact ⟨rfl, HB0.out.trans (H2.out.mono HB0.out.size)⟩
  · go_wp2_with (first | (go_at_call 25; (refine Calls.mono (HCB.out _) ?_); rintro e w2 ⟨rfl, hb2⟩; have H2 := Lib.hid (H1.out.trans (hb2.mono H1.out.size)); clear hb2; clear c0 c1 c2 c3 c4 c5 c6; obtain ⟨c0, c1, c2, c3, c4, c5, c6⟩ := HC.out w2 H2.out) | (go_at_call 32; (with_reducible refine Calls.mono (HW1.out _) ?_); rintro e w9 ⟨rfl, rfl⟩) | (go_at_call 32; (with_reducible refine Calls.mono (HW2.out _) ?_); rintro e w9 ⟨rfl, rfl⟩) | (go_at_call 32; (with_reducible refine Calls.mono (HW3.out _) ?_); rintro e w9 ⟨rfl, rfl⟩) | (go_at_call 41; (with_reducible refine Calls.mono (HIS.out _) ?_); rintro e w9 ⟨rfl, rfl⟩) | fail)
    go_ret
    exact ⟨rfl, HB0.out.trans (H2.out.mono HB0.out.size)⟩
  · go_wp2_with (first | (go_at_call 25; (refine Calls.mono (HCB.out _) ?_); rintro e w2 ⟨rfl, hb2⟩; have H2 := Lib.hid (H1.out.trans (hb2.mono H1.out.size)); clear hb2; clear c0 c1 c2 c3 c4 c5 c6; obtain ⟨c0, c1, c2, c3, c4, c5, c6⟩ := HC.out w2 H2.out) | (go_at_call 32; (with_reducible refine Calls.mono (HW1.out _) ?_); rintro e w9 ⟨rfl, rfl⟩) | (go_at_call 32; (with_reducible refine Calls.mono (HW2.out _) ?_); rintro e w9 ⟨rfl, rfl⟩) | (go_at_call 32; (with_reducible refine Calls.mono (HW3.out _) ?_); rintro e w9 ⟨rfl, rfl⟩) | (go_at_call 41; (with_reducible refine Calls.mono (HIS.out _) ?_); rintro e w9 ⟨rfl, rfl⟩) | fail)
    go_ret
    exact ⟨rfl, HB0.out.trans (H2.out.mono HB0.out.size)⟩
  · go_wp2_with (first | (go_at_call 25; (refine Calls.mono (HCB.out _) ?_); rintro e w2 ⟨rfl, hb2⟩; have H2 := Lib.hid (H1.out.trans (hb2.mono H1.out.size)); clear hb2; clear c0 c1 c2 c3 c4 c5 c6; obtain ⟨c0, c1, c2, c3, c4, c5, c6⟩ := HC.out w2 H2.out) | (go_at_call 32; (with_reducible refine Calls.mono (HW1.out _) ?_); rintro e w9 ⟨rfl, rfl⟩) | (go_at_call 32; (with_reducible refine Calls.mono (HW2.out _) ?_); rintro e w9 ⟨rfl, rfl⟩) | (go_at_call 32; (with_reducible refine Calls.mono (HW3.out _) ?_); rintro e w9 ⟨rfl, rfl⟩) | (go_at_call 41; (with_reducible refine Calls.mono (HIS.out _) ?_); rintro e w9 ⟨rfl, rfl⟩) | fail)
    go_ret
    exact ⟨rfl, HB0.out.trans (H2.out.mono HB0.out.size)⟩
theorem maxwell_walk (b : Bm) (x a v E : Int) (w : World) :
    Calls Try.prog 18 #[bmV b, .agg #[.int .i64 x, .int .i64 a, .int .i64 v], .int .i64 E] w fun e w' => e = .returned (.bool true) ∧ Below w.heap.size w w' := by
  have CB := fun wx => rcheckBeam_any b wx
  have W1 := fun wx => within_any x 0 b.s wx
  have W2 := fun wx => within_any a 0 b.s wx
  have W3 := fun wx => within_any v (-2000) 2000 wx
  have IS := fun wx => isStiff_any E wx
  by_cases hbe : beamE b = 0
  · cases h1 : wiB x 0 b.s
    · obtain ⟨s, ww, t, en⟩ := b
      exact maxwell_bad CB W1 W2 W3 IS (.inr (.inl ⟨hbe, h1⟩)) w
    cases h2 : wiB a 0 b.s
    · obtain ⟨s, ww, t, en⟩ := b
      exact maxwell_bad CB W1 W2 W3 IS (.inr (.inr (.inl ⟨hbe, h1, h2⟩))) w
    cases h3 : wiB v (-2000) 2000
    · obtain ⟨s, ww, t, en⟩ := b
      exact maxwell_bad CB W1 W2 W3 IS (.inr (.inr (.inr (.inl ⟨hbe, h1, h2, h3⟩)))) w
    cases h4 : wiB E 1 30000
    · obtain ⟨s, ww, t, en⟩ := b
      exact maxwell_bad CB W1 W2 W3 IS (.inr (.inr (.inr (.inr ⟨hbe, h1, h2, h3, h4⟩)))) w
    have hb := beamE_ok.1 hbe
    have x1 := wiB_iff.1 h1
    have a1 := wiB_iff.1 h2
    have v1 := wiB_iff.1 h3
    have E1 := wiB_iff.1 h4
    rw [hbe] at CB
    rw [h1] at W1
    rw [h2] at W2
    rw [h3] at W3
    rw [h4] at IS
    have s0 := hb.s0; have s1 := hb.s1
    have hla : WtOk b.s [⟨a, v⟩] 0 := wtsE_ok.1 (by
      unfold wtsE
      have hp : ptE b.s ⟨a, v⟩ = 0 := ptE_ok.2 ⟨a1.1, a1.2, v1.1, v1.2⟩
      simp [hp, rngE, allIn, outB])
    have hlx : WtOk b.s [⟨x, v⟩] 0 := wtsE_ok.1 (by
      unfold wtsE
      have hp : ptE b.s ⟨x, v⟩ = 0 := ptE_ok.2 ⟨x1.1, x1.2, v1.1, v1.2⟩
      simp [hp, rngE, allIn, outB])
    have hD : 0 < 2 * b.s := by omega
    have SA : ∀ B wx, PtRow wx (some ⟨B, 0, none⟩) 1 [⟨a, v⟩] → Calls Try.prog 39 #[bmV b, .int .i64 E, .agg #[.slice (some ⟨B, 0, none⟩) 1 1, .int .i64 0], .int .i64 x] wx fun e w' => e = .returned (.tuple #[frV (sag b [⟨a, v⟩] 0 x) (sgD b E), .int .i64 0]) ∧ Below wx.heap.size wx w' := fun B wx h => by
      have h' := sagF_any (b := b) (c := 1) (S := 0) (E := E) (x := x) wx h (by decide)
      rw [sagE_ok.2 ⟨⟨hb, hla⟩, E1, x1⟩, fr1_ok] at h'
      exact h'
    have SB : ∀ B wx, PtRow wx (some ⟨B, 0, none⟩) 1 [⟨x, v⟩] → Calls Try.prog 39 #[bmV b, .int .i64 E, .agg #[.slice (some ⟨B, 0, none⟩) 1 1, .int .i64 0], .int .i64 a] wx fun e w' => e = .returned (.tuple #[frV (sag b [⟨a, v⟩] 0 x) (sgD b E), .int .i64 0]) ∧ Below wx.heap.size wx w' := fun B wx h => by
      have h' := sagF_any (b := b) (c := 1) (S := 0) (E := E) (x := a) wx h (by decide)
      rw [sagE_ok.2 ⟨⟨hb, hlx⟩, E1, a1⟩, fr1_ok, ← sag_maxwell b a v x] at h'
      exact h'
    have MX : ∀ y, 0 ≤ y ∧ y ≤ b.s → ∀ B wx, PtRow wx (some ⟨B, 0, none⟩) 1 [⟨a, v⟩] → Calls Try.prog 31 #[bmV b, .agg #[.slice (some ⟨B, 0, none⟩) 1 1, .int .i64 0], .int .i64 y] wx fun e w' => e = .returned (.tuple #[frV (mom b [⟨a, v⟩] 0 y) (2 * b.s), .int .i64 0]) ∧ Below wx.heap.size wx w' := fun y hy B wx h => by
      have h' := momentF_any (b := b) (c := 1) (S := 0) (x := y) wx h (by decide)
      rw [momE_ok.2 ⟨⟨hb, hla⟩, hy⟩, fr1_ok] at h'
      exact h'
    have SH : ∀ B wx, PtRow wx (some ⟨B, 0, none⟩) 1 [⟨a, v⟩] → Calls Try.prog 30 #[bmV b, .agg #[.slice (some ⟨B, 0, none⟩) 1 1, .int .i64 0], .int .i64 x] wx fun e w' => e = .returned (.tuple #[frV (shr b [⟨a, v⟩] 0 x) (2 * b.s), .int .i64 0]) ∧ Below wx.heap.size wx w' := fun B wx h => by
      have h' := shear_any (b := b) (c := 1) (S := 0) (x := x) wx h (by decide)
      rw [momE_ok.2 ⟨⟨hb, hla⟩, x1⟩, fr1_ok] at h'
      exact h'
    have k1 := fr_take_bd hb hla 1
    rw [show List.take 1 [(⟨a, v⟩ : Pt)] = [⟨a, v⟩] from rfl] at k1
    have k2 : (sumL (cutV b x) [(⟨a, v⟩ : Pt)]).natAbs ≤ 8000000 := by
      rw [sumL_one]
      unfold cutV
      have F1 : Ev b.s b.s 2000 := .of (by omega)
      have F2 : Ev v v 2000 := .of (by omega)
      cases decide (a ≤ x)
      · show (0 : Int).natAbs ≤ _; decide
      · exact ev_bd (Ev.mul (Ev.mul (Ev.lit (-2)) F1) F2) (by decide +kernel)
    have k3 : (shr b [⟨a, v⟩] 0 x).natAbs ≤ 2000000000000 := by
      unfold shr
      rw [show -2 * (0 : Int) * x = 0 by simp]
      omega
    obtain ⟨lb1, lb2⟩ := low_back1 (n := shr b [⟨a, v⟩] 0 x) hD
    have lp := lowD_pos (n := shr b [⟨a, v⟩] 0 x) hD
    have F3 : Ev (shr b [⟨a, v⟩] 0 x) (shr b [⟨a, v⟩] 0 x) 2000000000000 := .of k3
    have F4 : Ev (a - x) (a - x) 2000 := .of (by omega)
    have k4 : (shr b [⟨a, v⟩] 0 x * (a - x)).natAbs ≤ 4000000000000000 := ev_bd (Ev.mul F3 F4) (by decide +kernel)
    have LO := fun wx => lowest_any (n := shr b [⟨a, v⟩] 0 x * (a - x)) (d := 2 * b.s) (by omega) hD (by omega) wx
    have ti := tdiv_in (u := 2 * b.s) (d := lowD (shr b [⟨a, v⟩] 0 x) (2 * b.s)) (by omega) (by omega) (by omega)
    have NU : wrap64 (2 * b.s) = 2 * b.s ∧ 1 ≤ lowD (shr b [⟨a, v⟩] 0 x) (2 * b.s) ∧ (2 * b.s).tmod (lowD (shr b [⟨a, v⟩] 0 x) (2 * b.s)) = 0 ∧ (2 * b.s).tdiv (lowD (shr b [⟨a, v⟩] 0 x) (2 * b.s)) = (2 * b.s).tdiv (lowD (shr b [⟨a, v⟩] 0 x) (2 * b.s)) ∧ wrap64 ((2 * b.s).tdiv (lowD (shr b [⟨a, v⟩] 0 x) (2 * b.s))) = (2 * b.s).tdiv (lowD (shr b [⟨a, v⟩] 0 x) (2 * b.s)) ∧ wrap64 (lowN (shr b [⟨a, v⟩] 0 x) (2 * b.s) * (2 * b.s).tdiv (lowD (shr b [⟨a, v⟩] 0 x) (2 * b.s))) = shr b [⟨a, v⟩] 0 x ∧ wrap64 (a - x) = a - x ∧ wrap64 (shr b [⟨a, v⟩] 0 x * (a - x)) = shr b [⟨a, v⟩] 0 x * (a - x) :=
      ⟨w64 (by omega), by omega, lb1, rfl, w64 (by omega), by rw [lb2]; exact w64 (by omega), w64 (by omega), w64 (by omega)⟩
    have PL : x < a → ∀ wx, Calls Try.prog 88 #[frV (mom b [⟨a, v⟩] 0 x) (2 * b.s), frV (shr b [⟨a, v⟩] 0 x * (a - x)) (2 * b.s), frV (mom b [⟨a, v⟩] 0 a) (2 * b.s), .int .i64 (2 * b.s)] wx fun e w' => e = .returned (.bool true) ∧ Below wx.heap.size wx w' := fun hxa wx => by
      have q1 := low_back1 (n := mom b [⟨a, v⟩] 0 x) hD
      have q2 := low_back1 (n := shr b [⟨a, v⟩] 0 x * (a - x)) hD
      have q3 := low_back1 (n := mom b [⟨a, v⟩] 0 a) hD
      have r1 := lowD_pos (n := mom b [⟨a, v⟩] 0 x) hD
      have r2 := lowD_pos (n := shr b [⟨a, v⟩] 0 x * (a - x)) hD
      have r3 := lowD_pos (n := mom b [⟨a, v⟩] 0 a) hD
      exact plus_any (by omega) (by omega) (by omega) (by omega) (by omega) q1.1 q2.1 q3.1 q1.2 q2.2 q3.2 (mom_between b a v x hxa) wx
    have MXx := MX x x1
    have MXa := MX a a1
    unfold frV at SA SB MXx MXa SH LO PL
    obtain ⟨s, ww, t, en⟩ := b
    exact maxwell_good CB W1 W2 W3 IS SA SB MXx MXa SH LO PL NU w
  · obtain ⟨s, ww, t, en⟩ := b
    exact maxwell_bad CB W1 W2 W3 IS (.inl hbe) w
end Go.Proofs.Ytageiimcmnebmaa
