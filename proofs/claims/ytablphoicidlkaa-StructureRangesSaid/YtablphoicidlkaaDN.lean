/- The reference of beams: the range of sags. -/
import Derived.Test.YtablphoicidlkaaMGE
import Derived.Test.YtablphoicidlkaaMGD
import Derived.Test.YtablphoicidlkaaDM
namespace Go.Proofs.Ytablphoicidlkaa
open Go.RowKit

theorem sg_tight {b : Bm} {p : Pt} {S x : Int} (hb : BmOk b) (x0 : 0 ≤ x) (x1 : x ≤ b.s) : (PtOk b.s p → (ptS b x p).natAbs ≤ 384000000000000000) ∧ (-20000 ≤ S → S ≤ 20000 → (spS b S x).natAbs ≤ 1920000000000000000) := by
  have E1 : Ev b.s b.s 2000 := .of (by have := hb.s0; have := hb.s1; omega)
  have E4 : Ev x x 2000 := .of (by have := hb.s1; omega)
  have hs := hb.e0
  have hs1 := hb.s1
  constructor
  · intro hp
    have a0 := hp.a0; have a1 := hp.a1
    have E2 : Ev p.a p.a 2000 := .of (by omega)
    have E3 : Ev p.n p.n 2000 := .of (by have := hp.n0; have := hp.n1; omega)
    have E5 : Ev (b.s - p.a) (b.s - p.a) 2000 := .of (by omega)
    have E6 : Ev (b.s - x) (b.s - x) 2000 := .of (by omega)
    have E7 : Ev (3 * p.a - x) (3 * p.a - x) 6000 := .of (by omega)
    have E8 : Ev (3 * x - p.a) (3 * x - p.a) 6000 := .of (by omega)
    unfold ptS sgP
    rcases hs with e | e <;> rw [e] <;> cases decide (p.a < x)
    · exact ev_bd (Ev.mul (Ev.mul (Ev.mul (Ev.mul (Ev.lit 4) E3) E5) E4) (Ev.sub (Ev.sub (Ev.mul E1 E1) (Ev.mul E5 E5)) (Ev.mul E4 E4))) (by decide +kernel)
    · exact ev_bd (Ev.mul (Ev.mul (Ev.mul (Ev.mul (Ev.lit 4) E3) E6) E2) (Ev.sub (Ev.sub (Ev.mul E1 E1) (Ev.mul E6 E6)) (Ev.mul E2 E2))) (by decide +kernel)
    · exact ev_bd (Ev.mul (Ev.mul (Ev.mul (Ev.mul (Ev.mul (Ev.lit 4) E1) E3) E4) E4) E7) (by decide +kernel)
    · exact ev_bd (Ev.mul (Ev.mul (Ev.mul (Ev.mul (Ev.mul (Ev.lit 4) E1) E3) E2) E2) E8) (by decide +kernel)
  · intro h0 h1
    have E3 : Ev S S 20000 := .of (by omega)
    have m1 : x * x ≤ b.s * x := Int.mul_le_mul_of_nonneg_right x1 x0
    have m2 : b.s * x ≤ b.s * b.s := Int.mul_le_mul_of_nonneg_left x1 (by omega)
    have m3 : b.s * b.s ≤ 2000 * 2000 := Int.mul_le_mul hs1 hs1 (by omega) (by omega)
    have m0 : 0 ≤ x * x := Int.mul_nonneg x0 x0
    have E9 : Ev (x * x - 4 * b.s * x + 6 * b.s * b.s) (x * x - 4 * b.s * x + 6 * b.s * b.s) 24000000 := .of (by
      rw [Int.mul_assoc 4, Int.mul_assoc 6]
      omega)
    unfold spS
    rcases hs with e | e <;> rw [e]
    · exact ev_bd (Ev.mul (Ev.mul E3 E4) (Ev.add (Ev.sub (Ev.mul (Ev.mul E1 E1) E1) (Ev.mul (Ev.mul (Ev.mul (Ev.lit 2) E1) E4) E4)) (Ev.mul (Ev.mul E4 E4) E4))) (by decide +kernel)
    · exact ev_bd (Ev.mul (Ev.mul (Ev.mul E3 E4) E4) E9) (by decide +kernel)
theorem sag_bd5 {b : Bm} {l : List Pt} {S x : Int} (hb : BmOk b) (hl : WtOk b.s l S) (x0 : 0 ≤ x) (x1 : x ≤ b.s) : (sag b l S x).natAbs ≤ 5000000000000000000 := by
  have h1 := (sg_tight (p := ⟨0, 0⟩) (S := S) hb x0 x1).2 hl.S0 hl.S1
  have h2 := sumL_bd8 (f := ptS b x) hl.len (fun p hp => (sg_tight (S := 0) hb x0 x1).1 (hl.pt p hp))
  unfold sag
  omega
theorem sgD_le {b : Bm} {E E' : Int} (hb : BmOk b) (h : E ≤ E') : sgD b E ≤ sgD b E' := by
  have s0 := hb.s0; have w0 := hb.w0; have t0 := hb.t0
  unfold sgD
  exact Int.mul_le_mul_of_nonneg_right (Int.mul_le_mul_of_nonneg_right (Int.mul_le_mul_of_nonneg_right (Int.mul_le_mul_of_nonneg_right (Int.mul_le_mul_of_nonneg_left h (by omega)) (by omega)) (by omega)) (by omega)) (by omega)
theorem cross_low {v d1 d2 : Int} : (lowN v d1 * lowD v d2 - lowN v d2 * lowD v d1) * ((lowG v d1 : Int) * (lowG v d2 : Int)) = v * (d2 - d1) := by
  have e1 := lowN_mul v d1
  have e2 := lowN_mul v d2
  have e3 := lowD_mul v d1
  have e4 := lowD_mul v d2
  generalize (lowG v d1 : Int) = g1 at *
  generalize (lowG v d2 : Int) = g2 at *
  generalize lowN v d1 = a at *
  generalize lowN v d2 = b at *
  generalize lowD v d1 = c at *
  generalize lowD v d2 = d at *
  have h1 : a * d * (g1 * g2) = v * d2 := by rw [← e4]; have : a * d * (g1 * g2) = (a * g1) * (d * g2) := by grind
                                             rw [this, e1]
  have h2 : b * c * (g1 * g2) = v * d1 := by rw [← e3]; have : b * c * (g1 * g2) = (b * g2) * (c * g1) := by grind
                                             rw [this, e2]
  rw [Int.sub_mul, h1, h2, Int.mul_sub]
theorem frV_zero {d : Int} (hd : 0 < d) : frV 0 d = .agg #[.int .i64 0, .int .i64 1] := by
  have h1 := lowD_mul 0 d
  have hg : (lowG 0 d : Int) = d := by unfold lowG; simp; omega
  have hN : lowN 0 d = 0 := Int.zero_tdiv _
  have hD : lowD 0 d = 1 := by
    rw [hg] at h1
    exact Int.eq_of_mul_eq_mul_right (by omega : d ≠ 0) (by omega)
  unfold frV
  rw [hN, hD]
theorem range_is {b : Bm} {x : Wd} {v : Int} (h1 : 0 < sgD b x.lo) (h2 : sgD b x.lo ≤ sgD b x.hi) :
    (0 < Int.sign (lowN v (sgD b x.lo) * lowD v (sgD b x.hi) - lowN v (sgD b x.hi) * lowD v (sgD b x.lo)) → frV v (loD b x v) = frV v (sgD b x.hi) ∧ frV v (hiD b x v) = frV v (sgD b x.lo)) ∧
    (¬ 0 < Int.sign (lowN v (sgD b x.lo) * lowD v (sgD b x.hi) - lowN v (sgD b x.hi) * lowD v (sgD b x.lo)) → frV v (loD b x v) = frV v (sgD b x.lo) ∧ frV v (hiD b x v) = frV v (sgD b x.hi)) := by
  have hc := cross_low (v := v) (d1 := sgD b x.lo) (d2 := sgD b x.hi)
  have hg : (0 : Int) < (lowG v (sgD b x.lo) : Int) * (lowG v (sgD b x.hi) : Int) := Int.mul_pos (by have := lowG_pos (n := v) h1; omega) (by have := lowG_pos (n := v) (show 0 < sgD b x.hi by omega); omega)
  unfold loD hiD
  generalize lowN v (sgD b x.lo) * lowD v (sgD b x.hi) - lowN v (sgD b x.hi) * lowD v (sgD b x.lo) = cr at *
  generalize (lowG v (sgD b x.lo) : Int) * (lowG v (sgD b x.hi) : Int) = g at *
  generalize sgD b x.lo = d1 at *
  generalize sgD b x.hi = d2 at *
  constructor
  · intro hs
    have hcp : 0 < cr := Int.sign_pos_iff.1 hs
    have hv : ¬ v < 0 := fun hv => by
      have e1 : 0 < cr * g := Int.mul_pos hcp hg
      have e2 : v * (d2 - d1) ≤ 0 := Int.mul_nonpos_of_nonpos_of_nonneg (by omega) (by omega)
      omega
    rw [decide_eq_false hv]
    exact ⟨rfl, rfl⟩
  · intro hs
    have hcp : ¬ 0 < cr := fun h => hs (Int.sign_pos_iff.2 h)
    by_cases hv : v < 0
    · rw [decide_eq_true hv]
      exact ⟨rfl, rfl⟩
    · rw [decide_eq_false hv]
      show frV v d2 = frV v d1 ∧ frV v d1 = frV v d2
      have e1 : cr * g ≤ 0 := Int.mul_nonpos_of_nonpos_of_nonneg (by omega) (by omega)
      have e2 : 0 ≤ v * (d2 - d1) := Int.mul_nonneg (by omega) (by omega)
      have e3 : v * (d2 - d1) = 0 := by omega
      rcases Int.mul_eq_zero.1 e3 with e | e
      · subst e
        rw [frV_zero h1, frV_zero (show 0 < d2 by omega)]
        exact ⟨rfl, rfl⟩
      · have : d1 = d2 := by omega
        subst this
        exact ⟨rfl, rfl⟩
set_option maxHeartbeats 16000000 in
set_option maxRecDepth 20000 in
theorem rSagRange_any {b : Bm} {x : Wd} {A : Option Addr} {n c : Nat} {S y : Int} {l : List Pt} (hb : BmOk b) (hl : WtOk b.s l S) (hx : WdOk x) (y0 : 0 ≤ y) (y1 : y ≤ b.s) (w : World) (h : PtRow w A n l) :
    Calls Try.prog 54 #[bmV b, wdV x, buV A n c S, .int .i64 y] w fun e w' => e = .returned (.tuple #[frV (sag b l S y) (loD b x (sag b l S y)), frV (sag b l S y) (hiD b x (sag b l S y))]) ∧ Below w.heap.size w w' := by
  have k1 : x.lo ≤ 30000 := Int.le_trans hx.l1 hx.h1
  have k2 : 1 ≤ x.hi := Int.le_trans hx.l0 hx.l1
  have SA := Lib.hid (fun wx (hw : Below w.heap.size w wx) => rSag_any (E := x.lo) (c := c) hb hl hx.l0 k1 y0 y1 wx (h.below hw))
  have SB := Lib.hid (fun wx (hw : Below w.heap.size w wx) => rSag_any (E := x.hi) (c := c) hb hl k2 hx.h1 y0 y1 wx (h.below hw))
  have b0 := sag_bd5 hb hl y0 y1
  have b1 := sgD_bd hb hx.l0 k1
  have b2 := sgD_bd hb k2 hx.h1
  have RI := Lib.hid (range_is (b := b) (x := x) (v := sag b l S y) b1.1 (sgD_le hb hx.l1))
  have CM := Lib.hid (fun wx => cmp_any (an := lowN (sag b l S y) (sgD b x.lo)) (ad := lowD (sag b l S y) (sgD b x.lo)) (bn := lowN (sag b l S y) (sgD b x.hi)) (bd := lowD (sag b l S y) (sgD b x.hi)) (lowD_pos b1.1) (lowD_pos b2.1) (Nat.le_trans (lowN_bd b1.1) b0) (Int.le_trans (lowD_le b1.1) b1.2) (Nat.le_trans (lowN_bd b2.1) b0) (Int.le_trans (lowD_le b2.1) b2.2) wx)
  clear h hb hl hx y0 y1 k1 k2 b0 b1 b2
  obtain ⟨s, ww, t, en⟩ := b
  obtain ⟨lo, hi, st⟩ := x
  unfold bmV wdV buV at *
  simp only at SA SB RI CM ⊢
  generalize loD ⟨s, ww, t, en⟩ ⟨lo, hi, st⟩ (sag ⟨s, ww, t, en⟩ l S y) = dl at *
  generalize hiD ⟨s, ww, t, en⟩ ⟨lo, hi, st⟩ (sag ⟨s, ww, t, en⟩ l S y) = dh at *
  generalize sag ⟨s, ww, t, en⟩ l S y = nu at *
  generalize sgD ⟨s, ww, t, en⟩ lo = d1 at *
  generalize sgD ⟨s, ww, t, en⟩ hi = d2 at *
  have HF1 : Hid (frV nu d1 = .agg #[.int .i64 (lowN nu d1), .int .i64 (lowD nu d1)]) := Lib.hid rfl
  have HF2 : Hid (frV nu d2 = .agg #[.int .i64 (lowN nu d2), .int .i64 (lowD nu d2)]) := Lib.hid rfl
  rw [HF1.out] at SA
  rw [HF2.out] at SB
  generalize lowN nu d1 = sn at *
  generalize lowD nu d1 = sd at *
  generalize lowN nu d2 = tn at *
  generalize lowD nu d2 = td at *
  generalize Int.sign (sn * td - tn * sd) = cs at *
  go_enter Try.func54, Try.ntmps54
  go_upto_region 1 with fail
  obtain ⟨w0, hw0⟩ : ∃ w0, (((((w.alloc (.cells #[.int .i64 s, .int .i64 ww, .int .i64 t, .int .i64 en] 23)).alloc (.cells #[.int .i64 lo, .int .i64 hi, .int .i64 st] 79)).alloc (.cells #[.slice A n c, .int .i64 S] 26)).alloc (.cells #[.int .i64 0, .int .i64 0] 30)).alloc (.cells #[.int .i64 0, .int .i64 0] 30)) = w0 := ⟨_, rfl⟩
  have HB0 : Hid (Below w.heap.size w w0) := Lib.hid (by rw [← hw0]; exact ((((((Below.refl _ _).alloc (Nat.le_refl _) _).alloc (by simp; try omega) _).alloc (by simp; try omega) _).alloc (by simp; try omega) _).alloc (by simp; try omega) _))
  have HC := Lib.hid (fun wx (hb : Below w0.heap.size w0 wx) => (show wx.cell? ⟨w.heap.size, 0, none⟩ = some (.int .i64 s) ∧ wx.cell? ⟨w.heap.size, 1, none⟩ = some (.int .i64 ww) ∧ wx.cell? ⟨w.heap.size, 2, none⟩ = some (.int .i64 t) ∧ wx.cell? ⟨w.heap.size, 3, none⟩ = some (.int .i64 en) ∧ wx.cell? ⟨w.heap.size + 1, 0, none⟩ = some (.int .i64 lo) ∧ wx.cell? ⟨w.heap.size + 1, 1, none⟩ = some (.int .i64 hi) ∧ wx.cell? ⟨w.heap.size + 1, 2, none⟩ = some (.int .i64 st) ∧ wx.cell? ⟨w.heap.size + 2, 0, none⟩ = some (.slice A n c) ∧ wx.cell? ⟨w.heap.size + 2, 1, none⟩ = some (.int .i64 S) ∧ wx.cell? ⟨w.heap.size + 3, 0, none⟩ = some (.int .i64 0) ∧ wx.cell? ⟨w.heap.size + 3, 1, none⟩ = some (.int .i64 0) ∧ wx.cell? ⟨w.heap.size + 4, 0, none⟩ = some (.int .i64 0) ∧ wx.cell? ⟨w.heap.size + 4, 1, none⟩ = some (.int .i64 0) ∧ wx.frozen? ⟨w.heap.size + 3, 0, none⟩ = false ∧ wx.frozen? ⟨w.heap.size + 3, 1, none⟩ = false ∧ wx.frozen? ⟨w.heap.size + 4, 0, none⟩ = false ∧ wx.frozen? ⟨w.heap.size + 4, 1, none⟩ = false from by
    subst hw0
    obtain ⟨k, kf⟩ := bcell hb
    exact ⟨(k _ _ (by simp; try omega)).trans (by simp [go_sem]), (k _ _ (by simp; try omega)).trans (by simp [go_sem]), (k _ _ (by simp; try omega)).trans (by simp [go_sem]), (k _ _ (by simp; try omega)).trans (by simp [go_sem]), (k _ _ (by simp; try omega)).trans (by simp [go_sem]), (k _ _ (by simp; try omega)).trans (by simp [go_sem]), (k _ _ (by simp; try omega)).trans (by simp [go_sem]), (k _ _ (by simp; try omega)).trans (by simp [go_sem]), (k _ _ (by simp; try omega)).trans (by simp [go_sem]), (k _ _ (by simp; try omega)).trans (by simp [go_sem]), (k _ _ (by simp; try omega)).trans (by simp [go_sem]), (k _ _ (by simp; try omega)).trans (by simp [go_sem]), (k _ _ (by simp; try omega)).trans (by simp [go_sem]), (kf _ _ (by simp; try omega)).trans (by simp [go_sem]), (kf _ _ (by simp; try omega)).trans (by simp [go_sem]), (kf _ _ (by simp; try omega)).trans (by simp [go_sem]), (kf _ _ (by simp; try omega)).trans (by simp [go_sem])⟩))
  rw [hw0]
  clear hw0
  have HCY := HC
  refine wp_region_ptrs (t := 30) [12, 13, 14, 15, 16, 17, 18, 19, 20, 21, 22, 23, 10, 11, 31, 30] [⟨12, 14, sn, sd⟩, ⟨13, 15, tn, td⟩] [rEq (.agg #[.int .i64 s, .int .i64 ww, .int .i64 t, .int .i64 en]), rEq (.pointer (some ⟨w.heap.size + 1, 0, none⟩)), rEq (.int .i64 lo), rEq (.agg #[.slice A n c, .int .i64 S]), rEq (.int .i64 y), rEq (.agg #[.int .i64 sn, .int .i64 sd]), rEq (.agg #[.int .i64 s, .int .i64 ww, .int .i64 t, .int .i64 en]), rEq (.pointer (some ⟨w.heap.size + 1, 1, none⟩)), rEq (.int .i64 hi), rEq (.agg #[.slice A n c, .int .i64 S]), rEq (.int .i64 y), rEq (.agg #[.int .i64 tn, .int .i64 td]), (rAny), (rAny), (rAny), (rAny)] [rEq (.agg #[.int .i64 s, .int .i64 ww, .int .i64 t, .int .i64 en]), rEq (.pointer (some ⟨w.heap.size + 1, 0, none⟩)), rEq (.int .i64 lo), rEq (.agg #[.slice A n c, .int .i64 S]), rEq (.int .i64 y), rEq (.agg #[.int .i64 sn, .int .i64 sd]), rEq (.agg #[.int .i64 s, .int .i64 ww, .int .i64 t, .int .i64 en]), rEq (.pointer (some ⟨w.heap.size + 1, 1, none⟩)), rEq (.int .i64 hi), rEq (.agg #[.slice A n c, .int .i64 S]), rEq (.int .i64 y), rEq (.agg #[.int .i64 tn, .int .i64 td]), (rAny), (rAny), (rAny), (rAny)] [12, 13, 14, 15] [0, 1, 2, 3, 4, 5, 11, 12, 13, 14, 15] (by kernel_rfl) (by kernel_rfl) (by decide) rfl ?_ ?_ ?_ ?_ ?_ ?_ ?_ ?_ ?_ ?_ (by simp)
  · refine ⟨fun i h1 h2 => ?_, fun q hq => ?_, fun q hq q' hq' h => ?_, fun q hq o ho => ?_, fun q hq => ?_⟩
    · have h3 : i = 14 ∨ i = 15 := by
        revert h2
        revert h1
        revert i
        decide +kernel
      rcases h3 with rfl | rfl
      · exact ⟨⟨12, 14, sn, sd⟩, by simp, rfl⟩
      · exact ⟨⟨13, 15, tn, td⟩, by simp, rfl⟩
    · simp only [List.mem_cons, List.not_mem_nil, or_false] at hq
      rcases hq with rfl | rfl
      · exact ⟨by kernel_rfl, by kernel_rfl, (show 12 < _ by decide +kernel)⟩
      · exact ⟨by kernel_rfl, by kernel_rfl, (show 13 < _ by decide +kernel)⟩
    · simp only [List.mem_cons, List.not_mem_nil, or_false] at hq
      simp only [List.mem_cons, List.not_mem_nil, or_false] at hq'
      rcases hq with rfl | rfl <;> rcases hq' with rfl | rfl <;> first | rfl | (exfalso; revert h; simp)
    · simp only [List.mem_cons, List.not_mem_nil, or_false] at hq
      rcases hq with rfl | rfl
      · dsimp only at ho
        have ho2 : _ = o := Option.some.inj ho
        subst ho2
        show 12 ∈ depsOf _
        decide
      · dsimp only at ho
        have ho2 : _ = o := Option.some.inj ho
        subst ho2
        show 13 ∈ depsOf _
        decide
    · simp only [List.mem_cons, List.not_mem_nil, or_false] at hq
      rcases hq with rfl | rfl <;> exact ⟨rfl, rfl, rfl⟩
  · intro i o ho he
    have he' : i = 12 ∨ i = 13 ∨ i = 14 ∨ i = 15 := by simpa using he
    rcases he' with rfl | rfl | rfl | rfl
    · exact .inl ⟨⟨12, 14, sn, sd⟩, by simp, .inl rfl⟩
    · exact .inl ⟨⟨13, 15, tn, td⟩, by simp, .inl rfl⟩
    · exact .inl ⟨⟨12, 14, sn, sd⟩, by simp, .inr rfl⟩
    · exact .inl ⟨⟨13, 15, tn, td⟩, by simp, .inr rfl⟩
  · intro i hi he
    have he' : i = 0 ∨ i = 1 ∨ i = 2 ∨ i = 3 ∨ i = 4 ∨ i = 5 ∨ i = 11 ∨ i = 12 ∨ i = 13 ∨ i = 14 ∨ i = 15 := by simpa using he
    rcases he' with rfl | rfl | rfl | rfl | rfl | rfl | rfl | rfl | rfl | rfl | rfl
    · exact .inr (fun q hq os hos => by
        simp only [List.mem_cons, List.not_mem_nil, or_false] at hq
        rcases hq with rfl | rfl <;> (dsimp only at hos; have ho2 : _ = os := Option.some.inj hos; subst ho2; decide))
    · exact .inr (fun q hq os hos => by
        simp only [List.mem_cons, List.not_mem_nil, or_false] at hq
        rcases hq with rfl | rfl <;> (dsimp only at hos; have ho2 : _ = os := Option.some.inj hos; subst ho2; decide))
    · exact .inr (fun q hq os hos => by
        simp only [List.mem_cons, List.not_mem_nil, or_false] at hq
        rcases hq with rfl | rfl <;> (dsimp only at hos; have ho2 : _ = os := Option.some.inj hos; subst ho2; decide))
    · exact .inr (fun q hq os hos => by
        simp only [List.mem_cons, List.not_mem_nil, or_false] at hq
        rcases hq with rfl | rfl <;> (dsimp only at hos; have ho2 : _ = os := Option.some.inj hos; subst ho2; decide))
    · exact .inr (fun q hq os hos => by
        simp only [List.mem_cons, List.not_mem_nil, or_false] at hq
        rcases hq with rfl | rfl <;> (dsimp only at hos; have ho2 : _ = os := Option.some.inj hos; subst ho2; decide))
    · exact .inr (fun q hq os hos => by
        simp only [List.mem_cons, List.not_mem_nil, or_false] at hq
        rcases hq with rfl | rfl <;> (dsimp only at hos; have ho2 : _ = os := Option.some.inj hos; subst ho2; decide))
    · exact .inr (fun q hq os hos => by
        simp only [List.mem_cons, List.not_mem_nil, or_false] at hq
        rcases hq with rfl | rfl <;> (dsimp only at hos; have ho2 : _ = os := Option.some.inj hos; subst ho2; decide))
    · exact .inl ⟨⟨12, 14, sn, sd⟩, by simp, .inl rfl⟩
    · exact .inl ⟨⟨13, 15, tn, td⟩, by simp, .inl rfl⟩
    · exact .inl ⟨⟨12, 14, sn, sd⟩, by simp, .inr rfl⟩
    · exact .inl ⟨⟨13, 15, tn, td⟩, by simp, .inr rfl⟩
  · intro j v w1' w2' h
    match j, h with
    | 0, h => exact h
    | 1, h => exact h
    | 2, h => exact h
    | 3, h => exact h
    | 4, h => exact h
    | 5, h => exact h
    | 6, h => exact h
    | 7, h => exact h
    | 8, h => exact h
    | 9, h => exact h
    | 10, h => exact h
    | 11, h => exact h
    | 12, h => exact trivial
    | 13, h => exact trivial
    | 14, h => exact trivial
    | 15, h => exact trivial
    | _ + 16, _ => exact trivial
  · intro j v w1' w2' h
    match j, h with
    | 0, h => exact h
    | 1, h => exact h
    | 2, h => exact h
    | 3, h => exact h
    | 4, h => exact h
    | 5, h => exact h
    | 6, h => exact h
    | 7, h => exact h
    | 8, h => exact h
    | 9, h => exact h
    | 10, h => exact h
    | 11, h => exact h
    | 12, h => exact trivial
    | 13, h => exact trivial
    | 14, h => exact trivial
    | 15, h => exact trivial
    | _ + 16, _ => exact trivial
  · refine ⟨?_, ?_, ?_, ?_, ?_, ?_, ?_, ?_, ?_, ?_, ?_, ?_, ?_, ?_, ?_, ?_, trivial⟩
    · intro _ ac wx hf hb hd -- 0
      have f4 : ac.tmps[4]?.getD undef = .pointer (some ⟨w.heap.size, 0, none⟩) := by rw [← Array.getD_eq_getD_getElem?]; exact hf.same 4 (by decide)
      obtain ⟨c0, c1, c2, c3, c4, c5, c6, c7, c8, c9, c10, c11, c12, z3_0, z3_1, z4_0, z4_1⟩ := HCY.out wx hb
      exact rstep_eq (by simp [execOp, Act.eval, f4, c0, c1, c2, c3, go_sem]) rfl
    · intro _ ac wx hf hb hd -- 1
      have f5 : ac.tmps[5]?.getD undef = .pointer (some ⟨w.heap.size + 1, 0, none⟩) := by rw [← Array.getD_eq_getD_getElem?]; exact hf.same 5 (by decide)
      exact rstep_eq (by simp [execOp, Act.eval, f5, go_sem]) rfl
    · intro _ ac wx hf hb hd -- 2
      have d1 : ac.tmps[13]?.getD undef = .pointer (some ⟨w.heap.size + 1, 0, none⟩) := by rw [← Array.getD_eq_getD_getElem?]; exact hd 1 (by decide)
      obtain ⟨c0, c1, c2, c3, c4, c5, c6, c7, c8, c9, c10, c11, c12, z3_0, z3_1, z4_0, z4_1⟩ := HCY.out wx hb
      exact rstep_eq (by simp [execOp, Act.eval, d1, c4, go_sem]) rfl
    · intro _ ac wx hf hb hd -- 3
      have f6 : ac.tmps[6]?.getD undef = .pointer (some ⟨w.heap.size + 2, 0, none⟩) := by rw [← Array.getD_eq_getD_getElem?]; exact hf.same 6 (by decide)
      obtain ⟨c0, c1, c2, c3, c4, c5, c6, c7, c8, c9, c10, c11, c12, z3_0, z3_1, z4_0, z4_1⟩ := HCY.out wx hb
      exact rstep_eq (by simp [execOp, Act.eval, f6, c7, c8, go_sem]) rfl
    · intro _ ac wx hf hb hd -- 4
      have f3 : ac.tmps[3]?.getD undef = .int .i64 y := by rw [← Array.getD_eq_getD_getElem?]; exact hf.same 3 (by decide)
      exact rstep_eq (by simp [execOp, Act.eval, f3, go_sem]) rfl
    · intro _ ac wx hf hb hd -- 5
      have d0 : ac.tmps[12]?.getD undef = .agg #[.int .i64 s, .int .i64 ww, .int .i64 t, .int .i64 en] := by rw [← Array.getD_eq_getD_getElem?]; exact hd 0 (by decide)
      have d2 : ac.tmps[14]?.getD undef = .int .i64 lo := by rw [← Array.getD_eq_getD_getElem?]; exact hd 2 (by decide)
      have d3 : ac.tmps[15]?.getD undef = .agg #[.slice A n c, .int .i64 S] := by rw [← Array.getD_eq_getD_getElem?]; exact hd 3 (by decide)
      have d4 : ac.tmps[16]?.getD undef = .int .i64 y := by rw [← Array.getD_eq_getD_getElem?]; exact hd 4 (by decide)
      refine rstep_call (f := 43) (args := #[.agg #[.int .i64 s, .int .i64 ww, .int .i64 t, .int .i64 en], .int .i64 lo, .agg #[.slice A n c, .int .i64 S], .int .i64 y]) (by simp [Act.eval, d0, d2, d3, d4, go_sem]) ?_ rfl
      exact SA.out wx (HB0.out.trans (hb.mono HB0.out.size))
    · intro _ ac wx hf hb hd -- 6
      have f4 : ac.tmps[4]?.getD undef = .pointer (some ⟨w.heap.size, 0, none⟩) := by rw [← Array.getD_eq_getD_getElem?]; exact hf.same 4 (by decide)
      obtain ⟨c0, c1, c2, c3, c4, c5, c6, c7, c8, c9, c10, c11, c12, z3_0, z3_1, z4_0, z4_1⟩ := HCY.out wx hb
      exact rstep_eq (by simp [execOp, Act.eval, f4, c0, c1, c2, c3, go_sem]) rfl
    · intro _ ac wx hf hb hd -- 7
      have f5 : ac.tmps[5]?.getD undef = .pointer (some ⟨w.heap.size + 1, 0, none⟩) := by rw [← Array.getD_eq_getD_getElem?]; exact hf.same 5 (by decide)
      exact rstep_eq (by simp [execOp, Act.eval, f5, go_sem]) rfl
    · intro _ ac wx hf hb hd -- 8
      have d7 : ac.tmps[19]?.getD undef = .pointer (some ⟨w.heap.size + 1, 1, none⟩) := by rw [← Array.getD_eq_getD_getElem?]; exact hd 7 (by decide)
      obtain ⟨c0, c1, c2, c3, c4, c5, c6, c7, c8, c9, c10, c11, c12, z3_0, z3_1, z4_0, z4_1⟩ := HCY.out wx hb
      exact rstep_eq (by simp [execOp, Act.eval, d7, c5, go_sem]) rfl
    · intro _ ac wx hf hb hd -- 9
      have f6 : ac.tmps[6]?.getD undef = .pointer (some ⟨w.heap.size + 2, 0, none⟩) := by rw [← Array.getD_eq_getD_getElem?]; exact hf.same 6 (by decide)
      obtain ⟨c0, c1, c2, c3, c4, c5, c6, c7, c8, c9, c10, c11, c12, z3_0, z3_1, z4_0, z4_1⟩ := HCY.out wx hb
      exact rstep_eq (by simp [execOp, Act.eval, f6, c7, c8, go_sem]) rfl
    · intro _ ac wx hf hb hd -- 10
      have f3 : ac.tmps[3]?.getD undef = .int .i64 y := by rw [← Array.getD_eq_getD_getElem?]; exact hf.same 3 (by decide)
      exact rstep_eq (by simp [execOp, Act.eval, f3, go_sem]) rfl
    · intro _ ac wx hf hb hd -- 11
      have d6 : ac.tmps[18]?.getD undef = .agg #[.int .i64 s, .int .i64 ww, .int .i64 t, .int .i64 en] := by rw [← Array.getD_eq_getD_getElem?]; exact hd 6 (by decide)
      have d8 : ac.tmps[20]?.getD undef = .int .i64 hi := by rw [← Array.getD_eq_getD_getElem?]; exact hd 8 (by decide)
      have d9 : ac.tmps[21]?.getD undef = .agg #[.slice A n c, .int .i64 S] := by rw [← Array.getD_eq_getD_getElem?]; exact hd 9 (by decide)
      have d10 : ac.tmps[22]?.getD undef = .int .i64 y := by rw [← Array.getD_eq_getD_getElem?]; exact hd 10 (by decide)
      refine rstep_call (f := 43) (args := #[.agg #[.int .i64 s, .int .i64 ww, .int .i64 t, .int .i64 en], .int .i64 hi, .agg #[.slice A n c, .int .i64 S], .int .i64 y]) (by simp [Act.eval, d6, d8, d9, d10, go_sem]) ?_ rfl
      exact SB.out wx (HB0.out.trans (hb.mono HB0.out.size))
    · intro h; cases h
    · intro h; cases h
    · intro h; cases h
    · intro h; cases h
  · refine ⟨?_, ?_, ?_, ?_, ?_, ?_, ?_, ?_, ?_, ?_, ?_, ?_, ?_, ?_, ?_, ?_, trivial⟩
    · intro h; cases h
    · intro h; cases h
    · intro h; cases h
    · intro h; cases h
    · intro h; cases h
    · intro h; cases h
    · intro _ ac wx hf hb hd -- 6
      have f4 : ac.tmps[4]?.getD undef = .pointer (some ⟨w.heap.size, 0, none⟩) := by rw [← Array.getD_eq_getD_getElem?]; exact hf.same 4 (by decide)
      obtain ⟨c0, c1, c2, c3, c4, c5, c6, c7, c8, c9, c10, c11, c12, z3_0, z3_1, z4_0, z4_1⟩ := HCY.out wx hb
      exact rstep_eq (by simp [execOp, Act.eval, f4, c0, c1, c2, c3, go_sem]) rfl
    · intro _ ac wx hf hb hd -- 7
      have f5 : ac.tmps[5]?.getD undef = .pointer (some ⟨w.heap.size + 1, 0, none⟩) := by rw [← Array.getD_eq_getD_getElem?]; exact hf.same 5 (by decide)
      exact rstep_eq (by simp [execOp, Act.eval, f5, go_sem]) rfl
    · intro _ ac wx hf hb hd -- 8
      have d7 : ac.tmps[19]?.getD undef = .pointer (some ⟨w.heap.size + 1, 1, none⟩) := by rw [← Array.getD_eq_getD_getElem?]; exact hd 7 (by decide)
      obtain ⟨c0, c1, c2, c3, c4, c5, c6, c7, c8, c9, c10, c11, c12, z3_0, z3_1, z4_0, z4_1⟩ := HCY.out wx hb
      exact rstep_eq (by simp [execOp, Act.eval, d7, c5, go_sem]) rfl
    · intro _ ac wx hf hb hd -- 9
      have f6 : ac.tmps[6]?.getD undef = .pointer (some ⟨w.heap.size + 2, 0, none⟩) := by rw [← Array.getD_eq_getD_getElem?]; exact hf.same 6 (by decide)
      obtain ⟨c0, c1, c2, c3, c4, c5, c6, c7, c8, c9, c10, c11, c12, z3_0, z3_1, z4_0, z4_1⟩ := HCY.out wx hb
      exact rstep_eq (by simp [execOp, Act.eval, f6, c7, c8, go_sem]) rfl
    · intro _ ac wx hf hb hd -- 10
      have f3 : ac.tmps[3]?.getD undef = .int .i64 y := by rw [← Array.getD_eq_getD_getElem?]; exact hf.same 3 (by decide)
      exact rstep_eq (by simp [execOp, Act.eval, f3, go_sem]) rfl
    · intro h; cases h
    · intro h; cases h
    · intro h; cases h
    · intro h; cases h
    · intro h; cases h
  · intro q hq o ac wx ho
    simp only [List.mem_cons, List.not_mem_nil, or_false] at hq
    rcases hq with rfl | rfl <;> (cases ho; simp [execOp, go_sem])
  · intro q hq o ac wx bb ho hf hp z0 z1 y0 y1 hd
    simp only [List.mem_cons, List.not_mem_nil, or_false] at hq
    rcases hq with rfl | rfl
    · dsimp only at ho
      have ho2 : _ = o := Option.some.inj ho
      subst ho2
      clear ho
      have dp : ac.tmps[10]?.getD undef = .pointer (some ⟨bb, 0, none⟩) := by rw [← Array.getD_eq_getD_getElem?]; exact hp
      have dv : ac.tmps[17]?.getD undef = .agg #[.int .i64 sn, .int .i64 sd] := by rw [← Array.getD_eq_getD_getElem?]; exact hd 5 (by decide)
      simp [Oper.wp, Oper.upon, execOp, Act.eval, go_sem, dp, dv, z0, z1, y0, y1]
    · dsimp only at ho
      have ho2 : _ = o := Option.some.inj ho
      subst ho2
      clear ho
      have dp : ac.tmps[11]?.getD undef = .pointer (some ⟨bb, 0, none⟩) := by rw [← Array.getD_eq_getD_getElem?]; exact hp
      have dv : ac.tmps[23]?.getD undef = .agg #[.int .i64 tn, .int .i64 td] := by rw [← Array.getD_eq_getD_getElem?]; exact hd 11 (by decide)
      simp [Oper.wp, Oper.upon, execOp, Act.eval, go_sem, dp, dv, z0, z1, y0, y1]
  rintro ⟨⟨ll⟩, df⟩ w3 hf hbw3 hall ⟨blkf, hq1, hq2⟩
  have hdf : df = [] := hf.defers
  subst hdf
  have hsz : ll.length = 32 := hf.size
  obtain ⟨x0, ll0, rfl, hsz0⟩ := cons_of hsz
  obtain ⟨x1, ll1, rfl, hsz1⟩ := cons_of hsz0
  obtain ⟨x2, ll2, rfl, hsz2⟩ := cons_of hsz1
  obtain ⟨x3, ll3, rfl, hsz3⟩ := cons_of hsz2
  obtain ⟨x4, ll4, rfl, hsz4⟩ := cons_of hsz3
  obtain ⟨x5, ll5, rfl, hsz5⟩ := cons_of hsz4
  obtain ⟨x6, ll6, rfl, hsz6⟩ := cons_of hsz5
  obtain ⟨x7, ll7, rfl, hsz7⟩ := cons_of hsz6
  obtain ⟨x8, ll8, rfl, hsz8⟩ := cons_of hsz7
  obtain ⟨x9, ll9, rfl, hsz9⟩ := cons_of hsz8
  obtain ⟨x10, ll10, rfl, hsz10⟩ := cons_of hsz9
  obtain ⟨x11, ll11, rfl, hsz11⟩ := cons_of hsz10
  obtain ⟨x12, ll12, rfl, hsz12⟩ := cons_of hsz11
  obtain ⟨x13, ll13, rfl, hsz13⟩ := cons_of hsz12
  obtain ⟨x14, ll14, rfl, hsz14⟩ := cons_of hsz13
  obtain ⟨x15, ll15, rfl, hsz15⟩ := cons_of hsz14
  obtain ⟨x16, ll16, rfl, hsz16⟩ := cons_of hsz15
  obtain ⟨x17, ll17, rfl, hsz17⟩ := cons_of hsz16
  obtain ⟨x18, ll18, rfl, hsz18⟩ := cons_of hsz17
  obtain ⟨x19, ll19, rfl, hsz19⟩ := cons_of hsz18
  obtain ⟨x20, ll20, rfl, hsz20⟩ := cons_of hsz19
  obtain ⟨x21, ll21, rfl, hsz21⟩ := cons_of hsz20
  obtain ⟨x22, ll22, rfl, hsz22⟩ := cons_of hsz21
  obtain ⟨x23, ll23, rfl, hsz23⟩ := cons_of hsz22
  obtain ⟨x24, ll24, rfl, hsz24⟩ := cons_of hsz23
  obtain ⟨x25, ll25, rfl, hsz25⟩ := cons_of hsz24
  obtain ⟨x26, ll26, rfl, hsz26⟩ := cons_of hsz25
  obtain ⟨x27, ll27, rfl, hsz27⟩ := cons_of hsz26
  obtain ⟨x28, ll28, rfl, hsz28⟩ := cons_of hsz27
  obtain ⟨x29, ll29, rfl, hsz29⟩ := cons_of hsz28
  obtain ⟨x30, ll30, rfl, hsz30⟩ := cons_of hsz29
  obtain ⟨x31, ll31, rfl, hsz31⟩ := cons_of hsz30
  obtain rfl := List.eq_nil_of_length_eq_zero hsz31
  obtain rfl : x3 = .int .i64 y := hf.same 3 (by decide)
  obtain rfl : x4 = .pointer (some ⟨w.heap.size, 0, none⟩) := hf.same 4 (by decide)
  obtain rfl : x5 = .pointer (some ⟨w.heap.size + 1, 0, none⟩) := hf.same 5 (by decide)
  obtain rfl : x6 = .pointer (some ⟨w.heap.size + 2, 0, none⟩) := hf.same 6 (by decide)
  obtain rfl : x8 = .pointer (some ⟨w.heap.size + 3, 0, none⟩) := hf.same 8 (by decide)
  obtain rfl : x9 = .pointer (some ⟨w.heap.size + 4, 0, none⟩) := hf.same 9 (by decide)
  obtain rfl : x12 = .agg #[.int .i64 s, .int .i64 ww, .int .i64 t, .int .i64 en] := hall 0 12 rfl
  obtain rfl : x13 = .pointer (some ⟨w.heap.size + 1, 0, none⟩) := hall 1 13 rfl
  obtain rfl : x14 = .int .i64 lo := hall 2 14 rfl
  obtain rfl : x15 = .agg #[.slice A n c, .int .i64 S] := hall 3 15 rfl
  obtain rfl : x16 = .int .i64 y := hall 4 16 rfl
  obtain rfl : x17 = .agg #[.int .i64 sn, .int .i64 sd] := hall 5 17 rfl
  obtain rfl : x18 = .agg #[.int .i64 s, .int .i64 ww, .int .i64 t, .int .i64 en] := hall 6 18 rfl
  obtain rfl : x19 = .pointer (some ⟨w.heap.size + 1, 1, none⟩) := hall 7 19 rfl
  obtain rfl : x20 = .int .i64 hi := hall 8 20 rfl
  obtain rfl : x21 = .agg #[.slice A n c, .int .i64 S] := hall 9 21 rfl
  obtain rfl : x22 = .int .i64 y := hall 10 22 rfl
  obtain rfl : x23 = .agg #[.int .i64 tn, .int .i64 td] := hall 11 23 rfl
  obtain ⟨pA, hxA, plA, psA, paA, pcA⟩ : ∃ blk, x10 = .pointer (some ⟨blk, 0, none⟩) ∧ w0.heap.size ≤ blk ∧ blk < w3.heap.size ∧ w3.cell? ⟨blk, 0, none⟩ = some (.int .i64 sn) ∧ w3.cell? ⟨blk, 1, none⟩ = some (.int .i64 sd) := by
    obtain ⟨g0, g1, g2, -, -, g5, g6⟩ := hq1 ⟨12, 14, sn, sd⟩ (by simp) rfl
    exact ⟨blkf 12, g0, g1, g2, g5, g6⟩
  subst hxA
  obtain ⟨pB, hxB, plB, psB, paB, pcB⟩ : ∃ blk, x11 = .pointer (some ⟨blk, 0, none⟩) ∧ w0.heap.size ≤ blk ∧ blk < w3.heap.size ∧ w3.cell? ⟨blk, 0, none⟩ = some (.int .i64 tn) ∧ w3.cell? ⟨blk, 1, none⟩ = some (.int .i64 td) := by
    obtain ⟨g0, g1, g2, -, -, g5, g6⟩ := hq1 ⟨13, 15, tn, td⟩ (by simp) rfl
    exact ⟨blkf 13, g0, g1, g2, g5, g6⟩
  subst hxB
  clear hall hf hq1 hq2 blkf
  have H3 := Lib.hid hbw3
  have l0 : w.heap.size + 4 < w0.heap.size := World.block_lt_of_cell? w0 _ (HC.out w0 (Below.refl _ _)).2.2.2.2.2.2.2.2.2.2.2.1
  have a3 : ¬ pA = w.heap.size + 3 := by omega
  have a4 : ¬ pA = w.heap.size + 4 := by omega
  have b3 : ¬ pB = w.heap.size + 3 := by omega
  have b4 : ¬ pB = w.heap.size + 4 := by omega
  clear plA plB l0 hbw3
  obtain ⟨c0, c1, c2, c3, c4, c5, c6, c7, c8, c9, c10, c11, c12, z3_0, z3_1, z4_0, z4_1⟩ := HC.out w3 H3.out
  by_cases hcs : 0 < cs
  · go_upto_region 3 with (go_at_call 50; (refine Calls.mono (CM.out _) ?_); rintro e w4 ⟨rfl, hb4⟩; have H4 := Lib.hid (H3.out.trans (hb4.mono H3.out.size)); have paA' := ((bcell hb4).1 _ _ psA).trans paA; have pcA' := ((bcell hb4).1 _ _ psA).trans pcA; have paB' := ((bcell hb4).1 _ _ psB).trans paB; have pcB' := ((bcell hb4).1 _ _ psB).trans pcB; clear hb4)
    clear c0 c1 c2 c3 c4 c5 c6 c7 c8 c9 c10 c11 c12 z3_0 z3_1 z4_0 z4_1 paA pcA paB pcB
    obtain ⟨g0, g1, g2, g3, g4, g5, g6, g7, g8, g9, g10, g11, g12, y3_0, y3_1, y4_0, y4_1⟩ := HC.out w4 H4.out
    have HQ := Lib.hid (RI.out.1 hcs)
    go_region
    all_goals (
      go_wp2
      refine bodyPost_ret (v := .tuple #[.agg #[.int .i64 tn, .int .i64 td], .agg #[.int .i64 sn, .int .i64 sd]]) (by simp [results, Try.results54, go_sem, g9, g10, g11, g12]) rfl ⟨?_, ?_⟩
      · rw [HQ.out.1, HQ.out.2, HF1.out, HF2.out]
      · exact ((((((HB0.out.trans (H4.out.mono HB0.out.size)).setCell (p := ⟨w.heap.size + 3, 0, none⟩) (by simp) _).setCell (p := ⟨w.heap.size + 3, 1, none⟩) (by simp) _).setCell (p := ⟨w.heap.size + 4, 0, none⟩) (by simp) _).setCell (p := ⟨w.heap.size + 4, 1, none⟩) (by simp) _)).drew)
  
  · go_upto_region 4 with (go_at_call 50; (refine Calls.mono (CM.out _) ?_); rintro e w4 ⟨rfl, hb4⟩; have H4 := Lib.hid (H3.out.trans (hb4.mono H3.out.size)); have paA' := ((bcell hb4).1 _ _ psA).trans paA; have pcA' := ((bcell hb4).1 _ _ psA).trans pcA; have paB' := ((bcell hb4).1 _ _ psB).trans paB; have pcB' := ((bcell hb4).1 _ _ psB).trans pcB; clear hb4)
    clear c0 c1 c2 c3 c4 c5 c6 c7 c8 c9 c10 c11 c12 z3_0 z3_1 z4_0 z4_1 paA pcA paB pcB
    obtain ⟨g0, g1, g2, g3, g4, g5, g6, g7, g8, g9, g10, g11, g12, y3_0, y3_1, y4_0, y4_1⟩ := HC.out w4 H4.out
    have HQ := Lib.hid (RI.out.2 hcs)
    go_region
    all_goals (
      go_wp2
      refine bodyPost_ret (v := .tuple #[.agg #[.int .i64 sn, .int .i64 sd], .agg #[.int .i64 tn, .int .i64 td]]) (by simp [results, Try.results54, go_sem, g9, g10, g11, g12]) rfl ⟨?_, ?_⟩
      · rw [HQ.out.1, HQ.out.2, HF1.out, HF2.out]
      · exact ((((((HB0.out.trans (H4.out.mono HB0.out.size)).setCell (p := ⟨w.heap.size + 3, 0, none⟩) (by simp) _).setCell (p := ⟨w.heap.size + 3, 1, none⟩) (by simp) _).setCell (p := ⟨w.heap.size + 4, 0, none⟩) (by simp) _).setCell (p := ⟨w.heap.size + 4, 1, none⟩) (by simp) _)).drew)
end Go.Proofs.Ytablphoicidlkaa
