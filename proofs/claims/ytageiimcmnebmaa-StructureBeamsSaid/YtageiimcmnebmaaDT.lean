/- The law of beams, whole. -/
import Derived.Test.YtageiimcmnebmaaDS
namespace Go.Proofs.Ytageiimcmnebmaa
open Go.RowKit

set_option maxHeartbeats 8000000 in
set_option maxRecDepth 20000 in
theorem beams_many {s ww t en : Int} {A : Option Addr} {n c : Nat} {S : Int} (hn : 12 < n) (w : World) :
    Calls Try.prog 3 #[.agg #[.int .i64 s, .int .i64 ww, .int .i64 t, .int .i64 en], buV A n c S] w fun e w' => e = .returned (.bool true) ∧ Below w.heap.size w w' := by
  have AW := fun wx => Lib.hid (awake_any wx)
  have FE := Lib.hid (fun wx => few_any (A := A) (n := n) (c := c) (S := S) wx)
  have hd : decide (n ≤ 12) = false := decide_eq_false (by omega)
  rw [hd] at FE
  clear hd
  unfold buV at *
  go_enter Try.func3, Try.ntmps3
  go_upto_region 1 with fail
  obtain ⟨w0, hw0⟩ : ∃ w0, ((w.alloc (.cells #[.int .i64 s, .int .i64 ww, .int .i64 t, .int .i64 en] 23)).alloc (.cells #[.slice A n c, .int .i64 S] 26)) = w0 := ⟨_, rfl⟩
  have HB0 : Hid (Below w.heap.size w w0) := Lib.hid (by rw [← hw0]; exact (((Below.refl _ _).alloc (Nat.le_refl _) _).alloc (by simp; try omega) _))
  have HC := Lib.hid (fun wx (hb : Below w0.heap.size w0 wx) => (show wx.cell? ⟨w.heap.size + 1, 0, none⟩ = some (.slice A n c) ∧ wx.cell? ⟨w.heap.size + 1, 1, none⟩ = some (.int .i64 S) from by
    subst hw0
    obtain ⟨k, kf⟩ := bcell hb
    exact ⟨(k _ _ (by simp; try omega)).trans (by simp [go_sem]), (k _ _ (by simp; try omega)).trans (by simp [go_sem])⟩))
  rw [hw0]
  clear hw0
  go_upto_region 3 with (go_at_call 19; (refine Calls.mono (AW _).out ?_); rintro e w1 ⟨rfl, hb1⟩; have H1 := Lib.hid hb1; clear hb1)
  obtain ⟨d0, d1⟩ := HC.out w1 H1.out
  go_wp2_with (go_at_call 20; (refine Calls.mono (FE.out _) ?_); rintro e w2 ⟨rfl, hb2⟩; have H2 := Lib.hid (H1.out.trans (hb2.mono H1.out.size)); clear hb2)
  go_ret
  exact ⟨rfl, HB0.out.trans (H2.out.mono HB0.out.size)⟩
theorem both_ends {b : Bm} {l : List Pt} {S : Int} (hb : BmOk b) : lowN (frR b l S) (2 * b.s) * lowD (frQ b l S) (2 * b.s) + lowN (frQ b l S) (2 * b.s) * lowD (frR b l S) (2 * b.s) = (S + sumL wgt l) * lowD (frR b l S) (2 * b.s) * lowD (frQ b l S) (2 * b.s) := by
  have hD : 0 < 2 * b.s := by have := hb.s0; omega
  have hq := frQ_is (b := b) (l := l) (S := S)
  have g1 : (0 : Int) < (lowG (frR b l S) (2 * b.s) : Int) := by have := lowG_pos (n := frR b l S) hD; omega
  have g2 : (0 : Int) < (lowG (frQ b l S) (2 * b.s) : Int) := by have := lowG_pos (n := frQ b l S) hD; omega
  have a1 := lowN_mul (frR b l S) (2 * b.s)
  have a2 := lowD_mul (frR b l S) (2 * b.s)
  have a3 := lowN_mul (frQ b l S) (2 * b.s)
  have a4 := lowD_mul (frQ b l S) (2 * b.s)
  generalize lowN (frR b l S) (2 * b.s) = n1 at *
  generalize lowD (frR b l S) (2 * b.s) = e1 at *
  generalize lowN (frQ b l S) (2 * b.s) = n2 at *
  generalize lowD (frQ b l S) (2 * b.s) = e2 at *
  generalize (lowG (frR b l S) (2 * b.s) : Int) = k1 at *
  generalize (lowG (frQ b l S) (2 * b.s) : Int) = k2 at *
  generalize frR b l S = r1 at *
  generalize frQ b l S = r2 at *
  generalize S + sumL wgt l = wt at *
  generalize 2 * b.s = d at *
  have hz : k1 * k2 ≠ 0 := by have := Int.mul_pos g1 g2; omega
  refine Int.eq_of_mul_eq_mul_right hz ?_
  have h1 : (n1 * e2 + n2 * e1) * (k1 * k2) = (n1 * k1) * (e2 * k2) + (n2 * k2) * (e1 * k1) := by grind
  have h2 : wt * e1 * e2 * (k1 * k2) = wt * (e1 * k1) * (e2 * k2) := by grind
  rw [h1, h2, a1, a2, a3, a4, ← hq]
  grind
theorem beams_walk (b : Bm) (A : Option Addr) (n c : Nat) (S : Int) (l : List Pt) (hn : n ≤ maxLen) (w : World) (h : PtRow w A n l) :
    Calls Try.prog 3 #[bmV b, buV A n c S] w fun e w' => e = .returned (.bool true) ∧ Below w.heap.size w w' := by
  by_cases h12 : 12 < n
  · obtain ⟨s, ww, t, en⟩ := b
    exact beams_many h12 w
  have h12' : n ≤ 12 := by omega
  have GM : ∀ A c wx, PtRow wx A n l → Calls Try.prog 21 #[bmV b, buV A n c S] wx fun e w' => e = .returned (fr4 (burE b l S) (frR b l S) (frQ b l S) (frM b l S) (2 * b.s)) ∧ Below wx.heap.size wx w' := fun A c wx h => reactionsF_any wx h hn
  have CF : ∀ A c wx, PtRow wx A n l → Calls Try.prog 26 #[bmV b, buV A n c S] wx fun e w' => e = .returned (.int .i64 (burE b l S)) ∧ Below wx.heap.size wx w' := fun A c wx h => checkBurden_any wx h hn
  have KB := fun wx => checkBeam_any b wx
  have RB := fun wx => rcheckBeam_any b wx
  have CB : ∀ wx, Below w.heap.size w wx → Calls Try.prog 23 #[bmV b, buV A n c S] wx fun e w' => e = .returned (.int .i64 (burE b l S)) ∧ Below wx.heap.size wx w' := fun wx hx => rcheckBurden_any wx (h.below hx) hn
  by_cases hbu : burE b l S = 0
  · obtain ⟨hb, hl⟩ := burE_ok.1 hbu
    rw [hbu] at CB GM CF
    rw [fr4_ok] at GM
    have RG : ∀ wx, Below w.heap.size w wx → Calls Try.prog 28 #[bmV b, buV A n c S] wx fun e w' => e = .returned (frA (frR b l S) (frQ b l S) (frM b l S) (2 * b.s)) ∧ Below wx.heap.size wx w' := fun wx hw => rReactions_any (c := c) hb hl wx (h.below hw)
    have RW : ∀ wx, Below w.heap.size w wx → Calls Try.prog 29 #[buV A n c S] wx fun e w' => e = .returned (.int .i64 (S + sumL wgt l)) ∧ Below wx.heap.size wx w' := fun wx hw => rweight_any (c := c) hl wx (h.below hw)
    have hEQ := both_ends (l := l) (S := S) hb
    have hD : 0 < 2 * b.s := by have := hb.s0; omega
    have k1 := fr_take_bd hb hl l.length
    have k0 := wgt_bd hl l.length
    rw [List.take_length] at k0 k1
    have b1 := Nat.le_trans (lowN_bd (n := frR b l S) hD) k1.1
    have b2 := Nat.le_trans (lowN_bd (n := frQ b l S) hD) k1.2.1
    have b3 : (lowD (frR b l S) (2 * b.s)).natAbs ≤ 4000 := by have := lowD_pos (n := frR b l S) hD; have := lowD_le (n := frR b l S) hD; have := hb.s1; omega
    have b4 : (lowD (frQ b l S) (2 * b.s)).natAbs ≤ 4000 := by have := lowD_pos (n := frQ b l S) hD; have := lowD_le (n := frQ b l S) hD; have := hb.s1; omega
    have b5 : (S + sumL wgt l).natAbs ≤ 100000 := by have := hl.S0; have := hl.S1; omega
    unfold frV at GM
    unfold frA at RG
    obtain ⟨s, ww, t, en⟩ := b
    exact beams_law h12' GM CF KB RB w CB (fun _ => RG) (fun _ => RW) (fun _ => ⟨b1, b2, b3, b4, b5, hEQ⟩) (.inr ⟨rfl, rfl⟩) h
  · rw [fr4_bad hbu] at GM
    obtain ⟨s, ww, t, en⟩ := b
    exact beams_law (wt := 0) h12' GM CF KB RB w CB (fun h => absurd h hbu) (fun h => absurd h hbu) (fun h => absurd h hbu) (.inl ⟨hbu, rfl, rfl, rfl, rfl, rfl, rfl, rfl⟩) h
end Go.Proofs.Ytageiimcmnebmaa
