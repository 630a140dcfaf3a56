/- The law of sags, whole. -/
import Derived.Test.YtageiimcmnebmaaDE
namespace Go.Proofs.Ytageiimcmnebmaa
open Go.RowKit

set_option maxHeartbeats 8000000 in
set_option maxRecDepth 20000 in
theorem sags_many {s ww t en E x : Int} {A : Option Addr} {n c : Nat} {S : Int} (hn : 12 < n) (w : World) :
    Calls Try.prog 6 #[.agg #[.int .i64 s, .int .i64 ww, .int .i64 t, .int .i64 en], buV A n c S, .agg #[.int .i64 E, .int .i64 x]] w fun e w' => e = .returned (.bool true) ∧ Below w.heap.size w w' := by
  have AW := fun wx => Lib.hid (awake_any wx)
  have FE := Lib.hid (fun wx => few_any (A := A) (n := n) (c := c) (S := S) wx)
  have hd : decide (n ≤ 12) = false := decide_eq_false (by omega)
  rw [hd] at FE
  clear hd
  unfold buV at *
  go_enter Try.func6, Try.ntmps6
  go_upto_region 1 with fail
  obtain ⟨w0, hw0⟩ : ∃ w0, (((w.alloc (.cells #[.int .i64 s, .int .i64 ww, .int .i64 t, .int .i64 en] 23)).alloc (.cells #[.slice A n c, .int .i64 S] 26)).alloc (.cells #[.int .i64 E, .int .i64 x] 56)) = w0 := ⟨_, rfl⟩
  have HB0 : Hid (Below w.heap.size w w0) := Lib.hid (by rw [← hw0]; exact ((((Below.refl _ _).alloc (Nat.le_refl _) _).alloc (by simp; try omega) _).alloc (by simp; try omega) _))
  have HC := Lib.hid (fun wx (hb : Below w0.heap.size w0 wx) => (show wx.cell? ⟨w.heap.size + 1, 0, none⟩ = some (.slice A n c) ∧ wx.cell? ⟨w.heap.size + 1, 1, none⟩ = some (.int .i64 S) from by
    subst hw0
    obtain ⟨k, kf⟩ := bcell hb
    exact ⟨(k _ _ (by simp; try omega)).trans (by simp [go_sem]), (k _ _ (by simp; try omega)).trans (by simp [go_sem])⟩))
  rw [hw0]
  clear hw0
  go_upto_region 3 with (go_at_call 19; (refine Calls.mono (AW _).out ?_); rintro e w1 ⟨rfl, hb1⟩; have H1 := Lib.hid hb1; clear hb1)
  obtain ⟨d0, d1⟩ := HC.out w1 H1.out
  go_wp2_with (go_at_call 20; (refine Calls.mono (FE.out _) ?_); rintro e w2 ⟨rfl, hb2⟩; have H2 := Lib.hid (H1.out.trans (hb2.mono H1.out.size)); clear hb2)
  go_ret
  exact ⟨rfl, HB0.out.trans (H2.out.mono HB0.out.size)⟩
theorem firstE_zz (r : List Int) : firstE (0 :: r) = firstE r := rfl
theorem wiB_no {n lo hi : Int} (h : wiB n lo hi = false) : rngE lo hi [n] = 2 := by rw [rng_wi, h]; rfl
theorem wiB_yes {n lo hi : Int} (h : wiB n lo hi = true) : rngE lo hi [n] = 0 := by rw [rng_wi, h]; rfl
theorem sags_walk (b : Bm) (A : Option Addr) (n c : Nat) (S : Int) (l : List Pt) (E x : Int) (hn : n ≤ maxLen) (w : World) (h : PtRow w A n l) :
    Calls Try.prog 6 #[bmV b, buV A n c S, .agg #[.int .i64 E, .int .i64 x]] w fun e w' => e = .returned (.bool true) ∧ Below w.heap.size w w' := by
  by_cases h12 : 12 < n
  · obtain ⟨s, ww, t, en⟩ := b
    exact sags_many h12 w
  have h12' : n ≤ 12 := by omega
  have SA : ∀ A c wx, PtRow wx A n l → Calls Try.prog 39 #[bmV b, .int .i64 E, buV A n c S, .int .i64 x] wx fun e w' => e = .returned (fr1 (sagE b l S E x) (sag b l S x) (sgD b E)) ∧ Below wx.heap.size wx w' := fun A c wx h => sagF_any wx h hn
  have GS : ∀ A c wx, PtRow wx A n l → Calls Try.prog 40 #[bmV b, .int .i64 E, buV A n c S] wx fun e w' => e = .returned (fr2 (gsE b l S E) (gS b l S).1 (gS b l S).2 (sgD b E)) ∧ Below wx.heap.size wx w' := fun A c wx h => greatestSagF_any wx h hn
  have hE : sagE b l S E x = firstE [burE b l S, rngE 1 30000 [E], rngE 0 b.s [x]] := rfl
  have hF : gsE b l S E = firstE [burE b l S, rngE 1 30000 [E]] := rfl
  have CB : ∀ wx, Below w.heap.size w wx → Calls Try.prog 23 #[bmV b, buV A n c S] wx fun e w' => e = .returned (.int .i64 (burE b l S)) ∧ Below wx.heap.size wx w' := fun wx hx => rcheckBurden_any wx (h.below hx) hn
  have IS := fun wx => isStiff_any E wx
  have WI := fun wx => within_any x 0 b.s wx
  by_cases hbu : burE b l S = 0
  · rw [hbu] at CB hE hF
    rw [firstE_zz] at hE hF
    obtain ⟨hb, hl⟩ := burE_ok.1 hbu
    cases hst : wiB E 1 30000
    · rw [wiB_no hst] at hE hF
      have hE2 : sagE b l S E x = 2 := hE
      have hF2 : gsE b l S E = 2 := hF
      rw [hE2, fr1_bad (by decide)] at SA
      rw [hF2, fr2_bad (by decide)] at GS
      rw [hst] at IS
      obtain ⟨s, ww, t, en⟩ := b
      exact sags_law h12' SA GS w CB IS WI (fun _ h => by cases h) (fun _ h => by cases h) (.inr (.inl ⟨rfl, rfl, rfl, rfl, rfl, rfl, rfl, rfl, rfl⟩)) h
    · rw [wiB_yes hst] at hE hF
      rw [firstE_zz] at hE hF
      have hF2 : gsE b l S E = 0 := hF
      have h01 := wiB_iff.1 hst
      rw [hF2, fr2_ok] at GS
      rw [hst] at IS
      have RG := fun wx (hw : Below w.heap.size w wx) => rGreatestSag_any (c := c) hb hl h01.1 h01.2 wx (h.below hw)
      cases hwi : wiB x 0 b.s
      · rw [wiB_no hwi] at hE
        have hE2 : sagE b l S E x = 2 := hE
        rw [hE2, fr1_bad (by decide)] at SA
        rw [hwi] at WI
        obtain ⟨s, ww, t, en⟩ := b
        exact sags_law h12' SA GS w CB IS WI (fun _ _ => RG) (fun _ _ h => by cases h) (.inr (.inr (.inl ⟨rfl, rfl, rfl, rfl, rfl, rfl, rfl⟩))) h
      · rw [wiB_yes hwi] at hE
        have hE2 : sagE b l S E x = 0 := hE
        have hx := wiB_iff.1 hwi
        rw [hE2, fr1_ok] at SA
        rw [hwi] at WI
        have RS := fun wx (hw : Below w.heap.size w wx) => rSag_any (c := c) hb hl h01.1 h01.2 hx.1 hx.2 wx (h.below hw)
        obtain ⟨s, ww, t, en⟩ := b
        exact sags_law h12' SA GS w CB IS WI (fun _ _ => RG) (fun _ _ _ => RS) (.inr (.inr (.inr ⟨rfl, rfl, rfl, rfl, rfl⟩))) h
  · have hd : (burE b l S == 0) = false := by simpa using hbu
    have hE2 : sagE b l S E x = burE b l S := by rw [hE, firstE_cons, hd]; rfl
    have hF2 : gsE b l S E = burE b l S := by rw [hF, firstE_cons, hd]; rfl
    rw [hE2, fr1_bad hbu] at SA
    rw [hF2, fr2_bad hbu] at GS
    obtain ⟨s, ww, t, en⟩ := b
    exact sags_law h12' SA GS w CB IS WI (fun h => absurd h hbu) (fun h => absurd h hbu) (.inl ⟨hbu, rfl, rfl, rfl, rfl, rfl, rfl, rfl⟩) h
end Go.Proofs.Ytageiimcmnebmaa
