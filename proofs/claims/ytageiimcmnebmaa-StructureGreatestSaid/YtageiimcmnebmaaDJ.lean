/- The law of the greatest moment, whole. -/
import Derived.Test.YtageiimcmnebmaaDI
namespace Go.Proofs.Ytageiimcmnebmaa
open Go.RowKit

set_option maxHeartbeats 2000000 in
set_option maxRecDepth 20000 in
theorem stressB_any {b : Bm} {A : Option Addr} {n c : Nat} {S : Int} {l : List Pt} (hne : burE b l S ≠ 0) (hn : n ≤ maxLen) (w : World) (h : PtRow w A n l) :
    Calls Try.prog 36 #[bmV b, buV A n c S] w fun e w' => e = .returned (.tuple #[.agg #[.int .i64 0, .int .i64 0], .int .i64 (burE b l S)]) ∧ Below w.heap.size w w' := by
  have CB := Lib.hid (fun wx (hx : Below w.heap.size w wx) => checkBurden_any (b := b) (c := c) (S := S) wx (h.below hx) hn)
  clear h hn
  obtain ⟨s, ww, t, en⟩ := b
  unfold bmV buV at *
  simp only at CB ⊢
  generalize burE ⟨s, ww, t, en⟩ l S = ee at *
  have e1' : (ee == 0) = false := by simpa using hne
  have e2' : (ee != 0) = true := by simpa using hne
  go_enter Try.func36, Try.ntmps36
  go_upto_region 1 with fail
  obtain ⟨w0, hw0⟩ : ∃ w0, (((w.alloc (.cells #[.int .i64 s, .int .i64 ww, .int .i64 t, .int .i64 en] 23)).alloc (.cells #[.slice A n c, .int .i64 S] 26)).alloc (.cells #[.int .i64 0, .int .i64 0] 30)) = w0 := ⟨_, rfl⟩
  have HB0 : Hid (Below w.heap.size w w0) := Lib.hid (by rw [← hw0]; exact ((((Below.refl _ _).alloc (Nat.le_refl _) _).alloc (by simp; try omega) _).alloc (by simp; try omega) _))
  have HC := Lib.hid (fun wx (hb : Below w0.heap.size w0 wx) => (show wx.cell? ⟨w.heap.size, 0, none⟩ = some (.int .i64 s) ∧ wx.cell? ⟨w.heap.size, 1, none⟩ = some (.int .i64 ww) ∧ wx.cell? ⟨w.heap.size, 2, none⟩ = some (.int .i64 t) ∧ wx.cell? ⟨w.heap.size, 3, none⟩ = some (.int .i64 en) ∧ wx.cell? ⟨w.heap.size + 1, 0, none⟩ = some (.slice A n c) ∧ wx.cell? ⟨w.heap.size + 1, 1, none⟩ = some (.int .i64 S) ∧ wx.cell? ⟨w.heap.size + 2, 0, none⟩ = some (.int .i64 0) ∧ wx.cell? ⟨w.heap.size + 2, 1, none⟩ = some (.int .i64 0) ∧ wx.frozen? ⟨w.heap.size + 2, 0, none⟩ = false ∧ wx.frozen? ⟨w.heap.size + 2, 1, none⟩ = false from by
    subst hw0
    obtain ⟨k, kf⟩ := bcell hb
    exact ⟨(k _ _ (by simp; try omega)).trans (by simp [go_sem]), (k _ _ (by simp; try omega)).trans (by simp [go_sem]), (k _ _ (by simp; try omega)).trans (by simp [go_sem]), (k _ _ (by simp; try omega)).trans (by simp [go_sem]), (k _ _ (by simp; try omega)).trans (by simp [go_sem]), (k _ _ (by simp; try omega)).trans (by simp [go_sem]), (k _ _ (by simp; try omega)).trans (by simp [go_sem]), (k _ _ (by simp; try omega)).trans (by simp [go_sem]), (kf _ _ (by simp; try omega)).trans (by simp [go_sem]), (kf _ _ (by simp; try omega)).trans (by simp [go_sem])⟩))
  rw [hw0]
  clear hw0
  have HZ0 := Lib.hid (Below.refl w0.heap.size w0)
  obtain ⟨c0, c1, c2, c3, c4, c5, c6, c7, z2_0, z2_1⟩ := HC.out w0 HZ0.out
  go_upto_region 2 with (first | (go_at_call 26; (with_reducible refine Calls.mono (CB.out _ HB0.out) ?_); rintro e w5 ⟨rfl, hb5⟩; have HB5 := Lib.hid hb5; clear hb5) | fail)
  clear c0 c1 c2 c3 c4 c5 c6 c7 z2_0 z2_1
  obtain ⟨c0, c1, c2, c3, c4, c5, c6, c7, z2_0, z2_1⟩ := HC.out w5 HB5.out
  go_wp2
  refine bodyPost_ret (v := .tuple #[.agg #[.int .i64 0, .int .i64 0], .int .i64 ee]) (by simp [results, Try.results36, go_sem, c6, c7]) rfl ⟨rfl, ?_⟩
  exact ((HB0.out.trans (HB5.out.mono HB0.out.size)).setCell (p := ⟨w.heap.size + 2, 0, none⟩) (by simp) _).setCell (p := ⟨w.heap.size + 2, 1, none⟩) (by simp) _
theorem sumL_three {α : Type} {f g h : α → Int} {k : Int} : ∀ {l : List α}, (∀ p ∈ l, f p + g p * k + h p = 0) → sumL f l + sumL g l * k + sumL h l = 0
  | [], _ => by show (0 : Int) + 0 * k + 0 = 0; omega
  | x :: r, hz => by
    have h1 := hz x (List.mem_cons_self ..)
    have h2 := sumL_three (f := f) (g := g) (h := h) (k := k) (l := r) fun p hp => hz p (List.mem_cons_of_mem _ hp)
    show f x + sumL f r + (g x + sumL g r) * k + (h x + sumL h r) = 0
    rw [Int.add_mul]
    omega
/-- At the end there is no moment. -/
theorem mom_end {b : Bm} {l : List Pt} {S : Int} (hl : WtOk b.s l S) : mom b l S b.s = 0 := by
  have h3 := sumL_three (f := ptM b) (g := ptR b) (h := cutM b b.s) (k := b.s) (l := l) (fun p hp => by
    have := (hl.pt p hp).a1
    unfold ptM ptR cutM
    rw [decide_eq_true this]
    cases b.e == 1
    · simp only [cond_true, cond_false]; grind
    · simp only [cond_true]; grind)
  have h4 : spM b S + spR b S * b.s + -S * b.s * b.s = 0 := by
    unfold spM spR
    cases b.e == 1
    · simp only [cond_false]; grind
    · simp only [cond_true]; grind
  unfold mom frM frR
  rw [Int.add_mul]
  omega
set_option maxHeartbeats 8000000 in
set_option maxRecDepth 20000 in
theorem great_many {s ww t en : Int} {A : Option Addr} {n c : Nat} {S : Int} (hn : 12 < n) (w : World) :
    Calls Try.prog 5 #[.agg #[.int .i64 s, .int .i64 ww, .int .i64 t, .int .i64 en], buV A n c S] w fun e w' => e = .returned (.bool true) ∧ Below w.heap.size w w' := by
  have AW := fun wx => Lib.hid (awake_any wx)
  have FE := Lib.hid (fun wx => few_any (A := A) (n := n) (c := c) (S := S) wx)
  have hd : decide (n ≤ 12) = false := decide_eq_false (by omega)
  rw [hd] at FE
  clear hd
  unfold buV at *
  go_enter Try.func5, Try.ntmps5
  go_upto_region 1 with fail
  obtain ⟨w0, hw0⟩ : ∃ w0, ((w.alloc (.cells #[.int .i64 s, .int .i64 ww, .int .i64 t, .int .i64 en] 23)).alloc (.cells #[.slice A n c, .int .i64 S] 26)) = w0 := ⟨_, rfl⟩
  have HB0 : Hid (Below w.heap.size w w0) := Lib.hid (by rw [← hw0]; exact (((Below.refl _ _).alloc (Nat.le_refl _) _).alloc (by simp; try omega) _))
  have HC := Lib.hid (fun wx (hb : Below w0.heap.size w0 wx) => (show wx.cell? ⟨w.heap.size + 1, 0, none⟩ = some (.slice A n c) ∧ wx.cell? ⟨w.heap.size + 1, 1, none⟩ = some (.int .i64 S) from by
    subst hw0
    obtain ⟨k, kf⟩ := bcell hb
    exact ⟨(k _ _ (by simp; try omega)).trans (by simp [go_sem]), (k _ _ (by simp; try omega)).trans (by simp [go_sem])⟩))
  rw [hw0]
  clear hw0
  go_upto_region 3 with (go_at_call 19; (refine Calls.mono (AW _).out ?_); rintro e w1 ⟨rfl, hb1⟩; have H1 := Lib.hid hb1; clear hb1)
  obtain ⟨d0, d1⟩ := HC.out w1 H1.out
  go_wp2_with (go_at_call 20; (refine Calls.mono (FE.out _) ?_); rintro e w2 ⟨rfl, hb2⟩; have H2 := Lib.hid (H1.out.trans (hb2.mono H1.out.size)); clear hb2)
  go_ret
  exact ⟨rfl, HB0.out.trans (H2.out.mono HB0.out.size)⟩
theorem great_walk (b : Bm) (A : Option Addr) (n c : Nat) (S : Int) (l : List Pt) (hn : n ≤ maxLen) (w : World) (h : PtRow w A n l) :
    Calls Try.prog 5 #[bmV b, buV A n c S] w fun e w' => e = .returned (.bool true) ∧ Below w.heap.size w w' := by
  by_cases h12 : 12 < n
  · obtain ⟨s, ww, t, en⟩ := b
    exact great_many h12 w
  have h12' : n ≤ 12 := by omega
  have GM : ∀ A c wx, PtRow wx A n l → Calls Try.prog 35 #[bmV b, buV A n c S] wx fun e w' => e = .returned (fr2 (burE b l S) (gM b l S).1 (gM b l S).2 (2 * b.s)) ∧ Below wx.heap.size wx w' := fun A c wx h => greatestMomentF_any wx h hn
  have CB : ∀ wx, Below w.heap.size w wx → Calls Try.prog 23 #[bmV b, buV A n c S] wx fun e w' => e = .returned (.int .i64 (burE b l S)) ∧ Below wx.heap.size wx w' := fun wx hx => rcheckBurden_any wx (h.below hx) hn
  by_cases hbu : burE b l S = 0
  · obtain ⟨hb, hl⟩ := burE_ok.1 hbu
    rw [hbu] at CB GM
    rw [fr2_ok] at GM
    have SR : ∀ A c wx, PtRow wx A n l → Calls Try.prog 36 #[bmV b, buV A n c S] wx fun e w' => e = .returned (.tuple #[frV (strN b l S) (strD b), .int .i64 0]) ∧ Below wx.heap.size wx w' := fun A c wx h => stressF_any hb hl wx h
    have MO : ∀ A c wx, PtRow wx A n l → Calls Try.prog 31 #[bmV b, buV A n c S, .int .i64 b.s] wx fun e w' => e = .returned (.tuple #[.agg #[.int .i64 0, .int .i64 (lowD 0 (2 * b.s))], .int .i64 0]) ∧ Below wx.heap.size wx w' := fun A c wx h => by
      have h1 := momentF_any (b := b) (c := c) (S := S) (x := b.s) wx h hn
      have hE : momE b l S b.s = 0 := momE_ok.2 ⟨⟨hb, hl⟩, by have := hb.s0; omega, Int.le_refl _⟩
      rw [hE, fr1_ok, mom_end hl] at h1
      have hz : lowN 0 (2 * b.s) = 0 := Int.zero_tdiv _
      unfold frV at h1
      rw [hz] at h1
      exact h1
    have RG := fun wx (hw : Below w.heap.size w wx) => rGreatestMoment_any (c := c) hb hl wx (h.below hw)
    have RS := fun wx (hw : Below w.heap.size w wx) => rStress_any (c := c) hb hl wx (h.below hw)
    obtain ⟨s, ww, t, en⟩ := b
    exact great_law h12' GM SR w CB (fun _ => MO) (fun _ => RG) (fun _ => RS) (.inr ⟨rfl, rfl⟩) h
  · rw [fr2_bad hbu] at GM
    have SR : ∀ A c wx, PtRow wx A n l → Calls Try.prog 36 #[bmV b, buV A n c S] wx fun e w' => e = .returned (.tuple #[.agg #[.int .i64 0, .int .i64 0], .int .i64 (burE b l S)]) ∧ Below wx.heap.size wx w' := fun A c wx h => stressB_any hbu hn wx h
    obtain ⟨s, ww, t, en⟩ := b
    exact great_law (zd := 0) h12' GM SR w CB (fun h => absurd h hbu) (fun h => absurd h hbu) (fun h => absurd h hbu) (.inl ⟨hbu, rfl, rfl, rfl, rfl, rfl, rfl⟩) h
end Go.Proofs.Ytageiimcmnebmaa
