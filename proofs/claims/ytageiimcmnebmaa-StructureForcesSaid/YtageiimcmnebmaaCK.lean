/- The law of forces, whole. -/
import Derived.Test.YtageiimcmnebmaaCJ
namespace Go.Proofs.Ytageiimcmnebmaa
open Go.RowKit

set_option maxHeartbeats 8000000 in
set_option maxRecDepth 20000 in
theorem forces_many {s ww t en x : Int} {A : Option Addr} {n c : Nat} {S : Int} (hn : 12 < n) (w : World) :
    Calls Try.prog 4 #[.agg #[.int .i64 s, .int .i64 ww, .int .i64 t, .int .i64 en], buV A n c S, .int .i64 x] w fun e w' => e = .returned (.bool true) ∧ Below w.heap.size w w' := by
  have AW := fun wx => Lib.hid (awake_any wx)
  have FE := Lib.hid (fun wx => few_any (A := A) (n := n) (c := c) (S := S) wx)
  have hd : decide (n ≤ 12) = false := decide_eq_false (by omega)
  rw [hd] at FE
  clear hd
  unfold buV at *
  go_enter Try.func4, Try.ntmps4
  go_upto_region 1 with fail
  obtain ⟨w0, hw0⟩ : ∃ w0, ((w.alloc (.cells #[.int .i64 s, .int .i64 ww, .int .i64 t, .int .i64 en] 23)).alloc (.cells #[.slice A n c, .int .i64 S] 26)) = w0 := ⟨_, rfl⟩
  have HB0 : Hid (Below w.heap.size w w0) := Lib.hid (by rw [← hw0]; exact (((Below.refl _ _).alloc (Nat.le_refl _) _).alloc (by simp; try omega) _))
  have HC := Lib.hid (fun wx (hb : Below w0.heap.size w0 wx) => (show wx.cell? ⟨w.heap.size + 1, 0, none⟩ = some (.slice A n c) ∧ wx.cell? ⟨w.heap.size + 1, 1, none⟩ = some (.int .i64 S) from by
    subst hw0
    obtain ⟨k, kf⟩ := bcell hb
    exact ⟨(k _ _ (by simp; try omega)).trans (by simp [go_sem]), (k _ _ (by simp; try omega)).trans (by simp [go_sem])⟩))
  rw [hw0]
  clear hw0
  go_upto_region 3 with (go_at_call 19; (refine Calls.mono (AW _).out ?_); rintro e w1 ⟨rfl, hb1⟩; have H1 := Lib.hid hb1; clear hb1)
  obtain ⟨d0, d1⟩ := HC.out w1 H1.out
  go_wp2_with (go_at_call 20; (refine Calls.mono (FE.out _) ?_); rintro e w2 ⟨rfl, hb2⟩; have H2 := Lib.hid (H1.out.trans (hb2.mono H1.out.size)); clear hb2)
  go_ret
  exact ⟨rfl, HB0.out.trans (H2.out.mono HB0.out.size)⟩
theorem forces_walk (b : Bm) (A : Option Addr) (n c : Nat) (S : Int) (l : List Pt) (x : Int) (hn : n ≤ maxLen) (w : World) (h : PtRow w A n l) :
    Calls Try.prog 4 #[bmV b, buV A n c S, .int .i64 x] w fun e w' => e = .returned (.bool true) ∧ Below w.heap.size w w' := by
  by_cases h12 : 12 < n
  · obtain ⟨s, ww, t, en⟩ := b
    exact forces_many h12 w
  have h12' : n ≤ 12 := by omega
  have SH : ∀ A c wx, PtRow wx A n l → Calls Try.prog 30 #[bmV b, buV A n c S, .int .i64 x] wx fun e w' => e = .returned (fr1 (momE b l S x) (shr b l S x) (2 * b.s)) ∧ Below wx.heap.size wx w' := fun A c wx h => shear_any wx h hn
  have MO : ∀ A c wx, PtRow wx A n l → Calls Try.prog 31 #[bmV b, buV A n c S, .int .i64 x] wx fun e w' => e = .returned (fr1 (momE b l S x) (mom b l S x) (2 * b.s)) ∧ Below wx.heap.size wx w' := fun A c wx h => momentF_any wx h hn
  have hE : momE b l S x = firstE [burE b l S, rngE 0 b.s [x]] := rfl
  have CB : ∀ wx, Below w.heap.size w wx → Calls Try.prog 23 #[bmV b, buV A n c S] wx fun e w' => e = .returned (.int .i64 (burE b l S)) ∧ Below wx.heap.size wx w' := fun wx hx => rcheckBurden_any wx (h.below hx) hn
  by_cases hbu : burE b l S = 0
  · rw [hbu] at CB hE
    rw [firstE_z] at hE
    by_cases hx : 0 ≤ x ∧ x ≤ b.s
    · have h0 : rngE 0 b.s [x] = 0 := rngE_ok.2 (by intro n hn; simp at hn; subst hn; exact hx)
      have hwi : wiB x 0 b.s = true := wiB_iff.2 hx
      obtain ⟨hb, hl⟩ := burE_ok.1 hbu
      rw [h0] at hE
      rw [hE, fr1_ok] at SH MO
      have RS := fun wx (hw : Below w.heap.size w wx) => rshear_any (c := c) hb hl hx.1 hx.2 wx (h.below hw)
      have RM := fun wx (hw : Below w.heap.size w wx) => rMoment_any (c := c) hb hl hx.1 hx.2 wx (h.below hw)
      obtain ⟨s, ww, t, en⟩ := b
      exact forces_good h12' SH MO (fun wx => within_is hwi wx) w CB RS RM h
    · have hwi : wiB x 0 b.s = false := by
        cases hc : wiB x 0 b.s
        · rfl
        · exact absurd (wiB_iff.1 hc) hx
      have h0 : rngE 0 b.s [x] = 2 := by rw [rng_wi, hwi]; rfl
      rw [h0] at hE
      rw [hE, fr1_bad (by decide)] at SH MO
      obtain ⟨s, ww, t, en⟩ := b
      exact forces_place h12' SH MO (fun wx => within_is hwi wx) w CB h
  · have hE2 : momE b l S x = burE b l S := by
      rw [hE, firstE_cons]
      have : (burE b l S == 0) = false := by simpa using hbu
      rw [this]; rfl
    rw [hE2, fr1_bad hbu] at SH MO
    obtain ⟨s, ww, t, en⟩ := b
    exact forces_bad h12' SH MO hbu w CB h
end Go.Proofs.Ytageiimcmnebmaa
