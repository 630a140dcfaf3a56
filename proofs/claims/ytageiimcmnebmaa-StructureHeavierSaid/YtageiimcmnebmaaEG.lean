/- The law of heavier weights. -/
import Derived.Test.YtageiimcmnebmaaEF
import Derived.Test.YtageiimcmnebmaaEB
import Derived.Test.YtageiimcmnebmaaCF
import Derived.Test.YtageiimcmnebmaaSW
namespace Go.Proofs.Ytageiimcmnebmaa
open Go.RowKit

set_option maxHeartbeats 8000000 in
set_option maxRecDepth 20000 in
theorem heavier_walk (A : Option Addr) (n c : Nat) (S : Int) (l : List Pt) (p : Int) (_hn : n ≤ maxLen) (w : World) (h : PtRow w A n l) :
    Calls Try.prog 7 #[buV A n c S, .int .i64 p] w fun e w' => e = .returned (.bool true) ∧ Below w.heap.size w w' := by
  have HR := Lib.hid (fun wx (hx : Below w.heap.size w wx) => h.below hx)
  have FE := Lib.hid (fun wx => few_any (A := A) (n := n) (c := c) (S := S) wx)
  have AW := fun wx => Lib.hid (awake_any wx)
  have CP := Lib.hid (fun (hn : n ≤ 12) wx (hx : Below w.heap.size w wx) => copied_any (c := c) (S := S) (by omega) wx (h.below hx))
  have HH := Lib.hid (fun (hn : n ≤ 12) wx A c (h : PtRow wx A n l) => heavier_any (c := c) (S := S) (p := p) (by omega) wx h)
  have RH := Lib.hid (fun (hn : n ≤ 12) wx (hx : Below w.heap.size w wx) => rheavier_any (c := c) (S := S) (p := p) (by omega) wx (h.below hx))
  have HL : Hid (n ≤ 12 → (hvR l S p).2.2.length ≤ 12) := Lib.hid (fun h12 => by
    have := h.1
    unfold hvR
    by_cases h1 : hvE l S p = 0
    · rw [if_pos h1]
      by_cases h2 : wtsE 2000 (l.map (hvP p)) (hvI S p) = 0
      · rw [if_pos h2]; simp; omega
      · rw [if_neg h2]; decide
    · rw [if_neg h1]; exact Nat.zero_le _)
  unfold HvOut at HH RH
  generalize hvR l S p = RR at *
  obtain ⟨re, rs, rl⟩ := RR
  simp only at HH RH HL
  have SB := Lib.hid (fun n (hn : n ≤ 12) A c A' c' wx (h : PtRow wx A n rl) (h' : PtRow wx A' n rl) => same_any (c := c) (c' := c') (S := rs) (by unfold maxLen; omega) wx h h')
  clear h
  unfold buV at *
  go_enter Try.func7, Try.ntmps7
  go_upto_region 1 with fail
  obtain ⟨w0, hw0⟩ : ∃ w0, (w.alloc (.cells #[.slice A n c, .int .i64 S] 26)) = w0 := ⟨_, rfl⟩
  have HB0 : Hid (Below w.heap.size w w0) := Lib.hid (by rw [← hw0]; exact ((Below.refl _ _).alloc (Nat.le_refl _) _))
  have HC := Lib.hid (fun wx (hb : Below w0.heap.size w0 wx) => (show wx.cell? ⟨w.heap.size, 0, none⟩ = some (.slice A n c) ∧ wx.cell? ⟨w.heap.size, 1, none⟩ = some (.int .i64 S) from by
    subst hw0
    obtain ⟨k, kf⟩ := bcell hb
    exact ⟨(k _ _ (by simp; try omega)).trans (by simp [go_sem]), (k _ _ (by simp; try omega)).trans (by simp [go_sem])⟩))
  rw [hw0]
  clear hw0
  have HZ0 := Lib.hid (Below.refl w0.heap.size w0)
  go_upto_region 3 with (go_at_call 19; (refine Calls.mono (AW _).out ?_); rintro e w1 ⟨rfl, hb1⟩; have H1 := Lib.hid hb1; clear hb1)
  obtain ⟨c0, c1⟩ := HC.out w1 H1.out
  go_upto_region 5 with (go_at_call 20; (refine Calls.mono (FE.out _) ?_); rintro e w2 ⟨rfl, hb2⟩; have H2 := Lib.hid (H1.out.trans (hb2.mono H1.out.size)); clear hb2)
  · go_ret
    exact ⟨rfl, HB0.out.trans (H2.out.mono HB0.out.size)⟩
  · have h12 : n ≤ 12 := by
      first
      | (have hx : (!decide (n ≤ 12)) = false := by assumption
         simpa using hx)
      | (have hx : ¬ (!decide (n ≤ 12)) = true := by assumption
         simpa using hx)
    have HW2 := Lib.hid (HB0.out.trans (H2.out.mono HB0.out.size))
    have CP2 := Lib.hid (CP.out h12)
    have HH2 := Lib.hid (HH.out h12)
    have RH2 := Lib.hid (RH.out h12)
    have HL2 := Lib.hid (HL.out h12)
    clear CP HH RH HL FE AW c0 c1
    obtain ⟨c0, c1⟩ := HC.out w2 H2.out
    go_upto_region 6 with (first | (go_at_call 22; (with_reducible refine Calls.mono (CP2.out _ HW2.out) ?_); rintro e w3 ⟨A2, c2, rfl, hp3, hb3⟩; have HP3 := Lib.hid hp3; have H3 := Lib.hid (H2.out.trans (hb3.mono H2.out.size)); clear hp3 hb3) | (go_at_call 44; (with_reducible refine Calls.mono (HH2.out _ _ _ HP3.out) ?_); rintro e w4 ⟨A3, n3, c3, rfl, hp4, hb4⟩; have HP4 := Lib.hid hp4; have H4 := Lib.hid (H3.out.trans (hb4.mono H3.out.size)); clear hp4 hb4) | fail)
    obtain ⟨w5, hw5⟩ : ∃ w5, w4.alloc (.cells #[.slice A3 n3 c3, .int .i64 rs] 26) = w5 := ⟨_, rfl⟩
    have HB5 : Hid (Below w4.heap.size w4 w5) := Lib.hid (by rw [← hw5]; exact (Below.refl _ _).alloc (Nat.le_refl _) _)
    have H5 := Lib.hid (H4.out.trans (HB5.out.mono H4.out.size))
    have HP5 := Lib.hid (HP4.out.below HB5.out)
    obtain ⟨pM, hpM⟩ : ∃ x, w4.heap.size = x := ⟨_, rfl⟩
    have HM : Hid (w5.cell? ⟨pM, 0, none⟩ = some (.slice A3 n3 c3) ∧ w5.cell? ⟨pM, 1, none⟩ = some (.int .i64 rs) ∧ pM < w5.heap.size) := Lib.hid (by rw [← hw5, ← hpM]; exact ⟨by simp [go_sem], by simp [go_sem], by simp⟩)
    rw [hw5, hpM]
    have HW5 := Lib.hid (HB0.out.trans (H5.out.mono HB0.out.size))
    clear hw5 hpM HB5 HP4 HP3 CP2 HH2 c0 c1
    obtain ⟨c0, c1⟩ := HC.out w5 H5.out
    go_upto_region 7 with (go_at_call 45; (with_reducible refine Calls.mono (RH2.out _ HW5.out) ?_); rintro e w6 ⟨A6, n6, c6, rfl, hp6, hb6⟩; have HP6 := Lib.hid hp6; have HB6 := Lib.hid hb6; clear hp6 hb6)
    obtain rfl : n6 = n3 := by rw [← HP6.out.1, ← HP5.out.1]
    obtain ⟨w7, hw7⟩ : ∃ w7, w6.alloc (.cells #[.slice A6 n6 c6, .int .i64 rs] 26) = w7 := ⟨_, rfl⟩
    have HB7 : Hid (Below w6.heap.size w6 w7) := Lib.hid (by rw [← hw7]; exact (Below.refl _ _).alloc (Nat.le_refl _) _)
    have H57 : Hid (Below w5.heap.size w5 w7) := Lib.hid (HB6.out.trans (HB7.out.mono HB6.out.size))
    have HP7 := Lib.hid (HP6.out.below HB7.out)
    have HP57 := Lib.hid (HP5.out.below H57.out)
    obtain ⟨qM, hqM⟩ : ∃ x, w6.heap.size = x := ⟨_, rfl⟩
    have k2 : w7.cell? ⟨qM, 0, none⟩ = some (.slice A6 n6 c6) := by rw [← hw7, ← hqM]; simp [go_sem]
    have k3 : w7.cell? ⟨qM, 1, none⟩ = some (.int .i64 rs) := by rw [← hw7, ← hqM]; simp [go_sem]
    have k0 := ((bcell H57.out).1 _ _ HM.out.2.2).trans HM.out.1
    have k1 := ((bcell H57.out).1 _ _ HM.out.2.2).trans HM.out.2.1
    rw [hw7, hqM]
    have HW7 := Lib.hid (HW5.out.trans (H57.out.mono HW5.out.size))
    have SB2 := Lib.hid (SB.out n6 (by have := HL2.out; have := HP7.out.1; omega) A3 c3 A6 c6 w7 HP57.out HP7.out)
    clear hw7 hqM HB7 RH2 c0 c1
    go_wp2_with (go_at_call 46; (with_reducible refine Calls.mono SB2.out ?_); rintro e w8 ⟨rfl, hb8⟩)
    go_ret
    exact ⟨rfl, HW7.out.trans (hb8.mono HW7.out.size)⟩
end Go.Proofs.Ytageiimcmnebmaa
