/- The law of wood, whole. -/
import Derived.Test.YtageiimcmnebmaaDO
import Derived.Test.YtageiimcmnebmaaOPE
namespace Go.Proofs.Ytageiimcmnebmaa
open Go.RowKit

set_option maxHeartbeats 8000000 in
set_option maxRecDepth 20000 in
theorem wood_many {s ww t en lo hi st ra x : Int} {A : Option Addr} {n c : Nat} {S : Int} (hn : 12 < n) (w : World) :
    Calls Try.prog 9 #[.agg #[.int .i64 s, .int .i64 ww, .int .i64 t, .int .i64 en], .agg #[.int .i64 lo, .int .i64 hi, .int .i64 st, .slice A n c, .int .i64 S, .int .i64 ra], .int .i64 x] w fun e w' => e = .returned (.bool true) ∧ Below w.heap.size w w' := by
  have AW := fun wx => Lib.hid (awake_any wx)
  have FE := Lib.hid (fun wx => few_any (A := A) (n := n) (c := c) (S := S) wx)
  have hd : decide (n ≤ 12) = false := decide_eq_false (by omega)
  rw [hd] at FE
  clear hd
  unfold buV at *
  go_enter Try.func9, Try.ntmps9
  go_upto_region 1 with fail
  obtain ⟨w0, hw0⟩ : ∃ w0, ((w.alloc (.cells #[.int .i64 s, .int .i64 ww, .int .i64 t, .int .i64 en] 23)).alloc (.cells #[.int .i64 lo, .int .i64 hi, .int .i64 st, .slice A n c, .int .i64 S, .int .i64 ra] 81)) = w0 := ⟨_, rfl⟩
  have HB0 : Hid (Below w.heap.size w w0) := Lib.hid (by rw [← hw0]; exact (((Below.refl _ _).alloc (Nat.le_refl _) _).alloc (by simp; try omega) _))
  have HC := Lib.hid (fun wx (hb : Below w0.heap.size w0 wx) => (show wx.cell? ⟨w.heap.size, 0, none⟩ = some (.int .i64 s) ∧ wx.cell? ⟨w.heap.size, 1, none⟩ = some (.int .i64 ww) ∧ wx.cell? ⟨w.heap.size, 2, none⟩ = some (.int .i64 t) ∧ wx.cell? ⟨w.heap.size, 3, none⟩ = some (.int .i64 en) ∧ wx.cell? ⟨w.heap.size + 1, 0, none⟩ = some (.int .i64 lo) ∧ wx.cell? ⟨w.heap.size + 1, 1, none⟩ = some (.int .i64 hi) ∧ wx.cell? ⟨w.heap.size + 1, 2, none⟩ = some (.int .i64 st) ∧ wx.cell? ⟨w.heap.size + 1, 3, none⟩ = some (.slice A n c) ∧ wx.cell? ⟨w.heap.size + 1, 4, none⟩ = some (.int .i64 S) ∧ wx.cell? ⟨w.heap.size + 1, 5, none⟩ = some (.int .i64 ra) from by
    subst hw0
    obtain ⟨k, kf⟩ := bcell hb
    exact ⟨(k _ _ (by simp; try omega)).trans (by simp [go_sem]), (k _ _ (by simp; try omega)).trans (by simp [go_sem]), (k _ _ (by simp; try omega)).trans (by simp [go_sem]), (k _ _ (by simp; try omega)).trans (by simp [go_sem]), (k _ _ (by simp; try omega)).trans (by simp [go_sem]), (k _ _ (by simp; try omega)).trans (by simp [go_sem]), (k _ _ (by simp; try omega)).trans (by simp [go_sem]), (k _ _ (by simp; try omega)).trans (by simp [go_sem]), (k _ _ (by simp; try omega)).trans (by simp [go_sem]), (k _ _ (by simp; try omega)).trans (by simp [go_sem])⟩))
  rw [hw0]
  clear hw0
  go_upto_region 3 with (go_at_call 19; (refine Calls.mono (AW _).out ?_); rintro e w1 ⟨rfl, hb1⟩; have H1 := Lib.hid hb1; clear hb1)
  obtain ⟨c0, c1, c2, c3, c4, c5, c6, c7, c8, c9⟩ := HC.out w1 H1.out
  go_wp2_with (go_at_call 20; (refine Calls.mono (FE.out _) ?_); rintro e w2 ⟨rfl, hb2⟩; have H2 := Lib.hid (H1.out.trans (hb2.mono H1.out.size)); clear hb2)
  go_ret
  exact ⟨rfl, HB0.out.trans (H2.out.mono HB0.out.size)⟩
theorem firstE_zz (r : List Int) : firstE (0 :: r) = firstE r := rfl
theorem wiB_no {n lo hi : Int} (h : wiB n lo hi = false) : rngE lo hi [n] = 2 := by rw [rng_wi, h]; rfl
theorem wiB_yes {n lo hi : Int} (h : wiB n lo hi = true) : rngE lo hi [n] = 0 := by rw [rng_wi, h]; rfl
theorem wood_walk (b : Bm) (x : Wd) (A : Option Addr) (n c : Nat) (S : Int) (l : List Pt) (ra y : Int) (hn : n ≤ maxLen) (w : World) (h : PtRow w A n l) :
    Calls Try.prog 9 #[bmV b, shV x A n c S ra, .int .i64 y] w fun e w' => e = .returned (.bool true) ∧ Below w.heap.size w w' := by
  by_cases h12 : 12 < n
  · obtain ⟨s, ww, t, en⟩ := b
    obtain ⟨lo, hi, st⟩ := x
    exact wood_many h12 w
  have h12' : n ≤ 12 := by omega
  have SR : ∀ A c wx, PtRow wx A n l → Calls Try.prog 51 #[bmV b, wdV x, buV A n c S, .int .i64 y] wx fun e w' => e = .returned (fr3 (srE b l S x y) (sag b l S y) (loD b x (sag b l S y)) (sag b l S y) (hiD b x (sag b l S y))) ∧ Below wx.heap.size wx w' := fun A c wx h => sagRangeF_any wx h hn
  have CW := fun wx => checkWood_any x wx
  have RW := fun wx => rcheckWood_any x wx
  have CB : ∀ wx, Below w.heap.size w wx → Calls Try.prog 23 #[bmV b, buV A n c S] wx fun e w' => e = .returned (.int .i64 (burE b l S)) ∧ Below wx.heap.size wx w' := fun wx hx => rcheckBurden_any wx (h.below hx) hn
  have WI := fun wx => within_any y 0 b.s wx
  have hE : srE b l S x y = firstE [burE b l S, woodE x, rngE 0 b.s [y]] := rfl
  by_cases hbu : burE b l S = 0
  · rw [hbu, firstE_zz] at hE
    rw [hbu] at CB
    by_cases hwo : woodE x = 0
    · rw [hwo, firstE_zz] at hE
      rw [hwo] at CW RW
      obtain ⟨hb, hl⟩ := burE_ok.1 hbu
      have hx := woodE_ok.1 hwo
      cases hwi : wiB y 0 b.s
      · rw [wiB_no hwi] at hE
        have hE2 : srE b l S x y = 2 := hE
        rw [hE2, fr3_bad (by decide)] at SR
        rw [hwi] at WI
        obtain ⟨s, ww, t, en⟩ := b
        obtain ⟨lo, hi, st⟩ := x
        exact wood_law h12' SR CW RW w CB WI (fun _ _ h => by cases h) (.inr (.inr (.inl ⟨rfl, rfl, rfl, rfl, rfl, rfl, rfl, rfl⟩))) h
      · rw [wiB_yes hwi] at hE
        have hE2 : srE b l S x y = 0 := hE
        have hy := wiB_iff.1 hwi
        rw [hE2, fr3_ok] at SR
        rw [hwi] at WI
        have RG := fun wx (hw : Below w.heap.size w wx) => rSagRange_any (c := c) hb hl hx hy.1 hy.2 wx (h.below hw)
        obtain ⟨s, ww, t, en⟩ := b
        obtain ⟨lo, hi, st⟩ := x
        exact wood_law h12' SR CW RW w CB WI (fun _ _ _ => RG) (.inr (.inr (.inr ⟨rfl, rfl, rfl, rfl⟩))) h
    · have hd : (woodE x == 0) = false := by simpa using hwo
      have hE2 : srE b l S x y = woodE x := by rw [hE, firstE_cons, hd]; rfl
      rw [hE2, fr3_bad hwo] at SR
      obtain ⟨s, ww, t, en⟩ := b
      obtain ⟨lo, hi, st⟩ := x
      exact wood_law h12' SR CW RW w CB WI (fun _ h => absurd h hwo) (.inr (.inl ⟨rfl, hwo, rfl, rfl, rfl, rfl, rfl⟩)) h
  · have hd : (burE b l S == 0) = false := by simpa using hbu
    have hE2 : srE b l S x y = burE b l S := by rw [hE, firstE_cons, hd]; rfl
    rw [hE2, fr3_bad hbu] at SR
    obtain ⟨s, ww, t, en⟩ := b
    obtain ⟨lo, hi, st⟩ := x
    exact wood_law h12' SR CW RW w CB WI (fun h => absurd h hbu) (.inl ⟨hbu, rfl, rfl, rfl, rfl, rfl⟩) h
end Go.Proofs.Ytageiimcmnebmaa
