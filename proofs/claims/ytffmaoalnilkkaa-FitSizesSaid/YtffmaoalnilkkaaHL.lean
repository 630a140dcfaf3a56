/- Walks over the fits: the size of a piece over a season, with its errors. -/
import Derived.Test.YtffmaoalnilkkaaHK
namespace Go.Proofs.Ytffmaoalnilkkaa
open Go.RowKit Go.Maps

def sizeOverCode (p : Md) (s : Sn) : Int := bif madeB p then snCode s else 2
def sizeOverV (p : Md) (s : Sn) : Value := bif decide (sizeOverCode p s = 0) then outV (lowM p s.lo) (hiM p s.hi) else .agg #[.int .i64 0, .int .i64 0]
set_option maxHeartbeats 4000000 in
theorem sizeOver_any {p : Md} {s : Sn} {c : Int} (hc : sizeOverCode p s = c) (hsz : s.nm.size ≤ maxLen) (w : World) :
    Calls Try.prog 21 #[mdV p, snV s] w fun e w' => e = .returned (.tuple #[sizeOverV p s, .int .i64 c]) ∧ Below w.heap.size w w' := by
  by_cases h0 : c = 0
  · subst h0
    have h1 : MdOk p ∧ snCode s = 0 := by
      unfold sizeOverCode at hc
      cases hp : madeB p
      · rw [hp] at hc; exact absurd hc (by simp)
      · rw [hp] at hc; exact ⟨madeB_iff.1 hp, hc⟩
    refine (sizeOver_ok h1.1 h1.2 hsz w).mono fun e w' ⟨he, hw⟩ => ⟨?_, hw⟩
    rw [he]; unfold sizeOverV; rw [hc]; rfl
  · have HN : Hid (sizeOverV p s = .agg #[.int .i64 0, .int .i64 0]) := Lib.hid (by unfold sizeOverV; rw [hc, decide_eq_false h0]; rfl)
    have hcb : (c == 0) = false := beq_eq_false_iff_ne.2 h0
    have hcb' : (c != 0) = true := bne_iff_ne.2 h0
    unfold sizeOverCode at hc
    rw [HN.out]
    clear HN
    cases hp : madeB p
    · rw [hp] at hc
      simp only [cond_false] at hc
      subst hc
      have CM := fun wx => Lib.hid (made_any (x := p) (c := 2) (w := wx) (by unfold madeCode; rw [hp]; rfl))
      clear hp
      obtain ⟨ps, pr, pm, pg, plo, phi⟩ := p
      obtain ⟨nm, lo, hi⟩ := s
      unfold mdV snV at *
      simp only at CM ⊢
      have hB0 : Below w.heap.size w (((w.alloc (.cells #[.int .i64 ps, .int .i64 pr, .int .i64 pm, .int .i64 pg, .int .i64 plo, .int .i64 phi] 44)).alloc (.cells #[.string nm, .int .i64 lo, .int .i64 hi] 46)).alloc (.cells #[.int .i64 0, .int .i64 0] 48)) := (((Below.refl _ _).alloc (Nat.le_refl _) _).alloc (by simp) _).alloc (by simp; omega) _
      have hs0 : (((w.alloc (.cells #[.int .i64 ps, .int .i64 pr, .int .i64 pm, .int .i64 pg, .int .i64 plo, .int .i64 phi] 44)).alloc (.cells #[.string nm, .int .i64 lo, .int .i64 hi] 46)).alloc (.cells #[.int .i64 0, .int .i64 0] 48)).heap.size = w.heap.size + 3 := by simp
      have hq : ∀ j (hj : j < 6), (((w.alloc (.cells #[.int .i64 ps, .int .i64 pr, .int .i64 pm, .int .i64 pg, .int .i64 plo, .int .i64 phi] 44)).alloc (.cells #[.string nm, .int .i64 lo, .int .i64 hi] 46)).alloc (.cells #[.int .i64 0, .int .i64 0] 48)).cell? ⟨w.heap.size, j, none⟩ = #[Value.int .i64 ps, .int .i64 pr, .int .i64 pm, .int .i64 pg, .int .i64 plo, .int .i64 phi][j]? := by
        intro j hj; simp [go_sem]
      have hqs : ∀ j (hj : j < 3), (((w.alloc (.cells #[.int .i64 ps, .int .i64 pr, .int .i64 pm, .int .i64 pg, .int .i64 plo, .int .i64 phi] 44)).alloc (.cells #[.string nm, .int .i64 lo, .int .i64 hi] 46)).alloc (.cells #[.int .i64 0, .int .i64 0] 48)).cell? ⟨w.heap.size + 1, j, none⟩ = #[Value.string nm, .int .i64 lo, .int .i64 hi][j]? := by
        intro j hj; simp [go_sem]
      have hqr : ∀ j (hj : j < 2), (((w.alloc (.cells #[.int .i64 ps, .int .i64 pr, .int .i64 pm, .int .i64 pg, .int .i64 plo, .int .i64 phi] 44)).alloc (.cells #[.string nm, .int .i64 lo, .int .i64 hi] 46)).alloc (.cells #[.int .i64 0, .int .i64 0] 48)).cell? ⟨w.heap.size + 1 + 1, j, none⟩ = #[Value.int .i64 0, .int .i64 0][j]? := by
        intro j hj; simp [go_sem]
      have hf2 : ∀ j (hj : j < 2), (((w.alloc (.cells #[.int .i64 ps, .int .i64 pr, .int .i64 pm, .int .i64 pg, .int .i64 plo, .int .i64 phi] 44)).alloc (.cells #[.string nm, .int .i64 lo, .int .i64 hi] 46)).alloc (.cells #[.int .i64 0, .int .i64 0] 48)).frozen? ⟨w.heap.size + 1 + 1, j, none⟩ = false := by
        intro j hj; simp [go_sem]
      go_enter Try.func21, Try.ntmps21
      go_upto_region 1 with fail
      generalize (((w.alloc (.cells #[.int .i64 ps, .int .i64 pr, .int .i64 pm, .int .i64 pg, .int .i64 plo, .int .i64 phi] 44)).alloc (.cells #[.string nm, .int .i64 lo, .int .i64 hi] 46)).alloc (.cells #[.int .i64 0, .int .i64 0] 48)) = W0 at hB0 hs0 hq hqs hqr hf2 ⊢
      have HB0 := Lib.hid hB0
      have LW := Lib.hid (fun wx (hb : Below W0.heap.size W0 wx) => (show Below w.heap.size w wx from HB0.out.trans (hb.mono HB0.out.size)))
      have KS := Lib.hid (fun wx (hb : Below W0.heap.size W0 wx) => (show (wx.cell? ⟨w.heap.size, 0, none⟩ = some (.int .i64 ps) ∧ wx.cell? ⟨w.heap.size, 0 + 1, none⟩ = some (.int .i64 pr) ∧ wx.cell? ⟨w.heap.size, 0 + 2, none⟩ = some (.int .i64 pm) ∧ wx.cell? ⟨w.heap.size, 0 + 3, none⟩ = some (.int .i64 pg) ∧ wx.cell? ⟨w.heap.size, 0 + 4, none⟩ = some (.int .i64 plo) ∧ wx.cell? ⟨w.heap.size, 0 + 5, none⟩ = some (.int .i64 phi)) ∧ wx.cell? ⟨w.heap.size + 1, 0, none⟩ = some (.string nm) ∧ wx.cell? ⟨w.heap.size + 1, 0 + 1, none⟩ = some (.int .i64 lo) ∧ wx.cell? ⟨w.heap.size + 1, 0 + 2, none⟩ = some (.int .i64 hi) from by
        have k := (bcell hb).1
        exact ⟨⟨(k _ _ (by omega)).trans (hq 0 (by omega)), (k _ _ (by omega)).trans (hq 1 (by omega)), (k _ _ (by omega)).trans (hq 2 (by omega)), (k _ _ (by omega)).trans (hq 3 (by omega)), (k _ _ (by omega)).trans (hq 4 (by omega)), (k _ _ (by omega)).trans (hq 5 (by omega))⟩, (k _ _ (by omega)).trans (hqs 0 (by omega)), (k _ _ (by omega)).trans (hqs 1 (by omega)), (k _ _ (by omega)).trans (hqs 2 (by omega))⟩))
      have KR := Lib.hid (fun wx (hb : Below W0.heap.size W0 wx) => (show wx.cell? ⟨w.heap.size + 1 + 1, 0, none⟩ = some (.int .i64 0) ∧ wx.cell? ⟨w.heap.size + 1 + 1, 1, none⟩ = some (.int .i64 0) ∧ wx.frozen? ⟨w.heap.size + 1 + 1, 0, none⟩ = false ∧ wx.frozen? ⟨w.heap.size + 1 + 1, 1, none⟩ = false from by
        obtain ⟨k, kf⟩ := bcell hb
        exact ⟨(k _ _ (by omega)).trans (hqr 0 (by omega)), (k _ _ (by omega)).trans (hqr 1 (by omega)), (kf _ _ (by omega)).trans (hf2 0 (by omega)), (kf _ _ (by omega)).trans (hf2 1 (by omega))⟩))
      obtain ⟨⟨e0, e1, e2, e3, e4, e5⟩, e6, e7, e8⟩ := KS.out W0 (Below.refl _ _)
      have hlow : w.heap.size ≤ w.heap.size + 1 + 1 := by omega
      clear hq hqs hqr hf2 hs0 hB0
      go_wp2_with (go_at_call 23; refine Calls.mono (CM _).out ?_; rintro e w1 ⟨rfl, hb1⟩; obtain ⟨z0, z1, y0, y1⟩ := KR.out w1 hb1)
      all_goals
        refine bodyPost_ret (v := .tuple #[.agg #[.int .i64 0, .int .i64 0], .int .i64 2]) (by simp [results, Try.results21, go_sem, z0, z1]) rfl ⟨rfl, ?_⟩
        repeat (refine Below.setCell ?_ (by first | (simp; done) | (simp; omega)) _)
        exact LW.out _ hb1
    · rw [hp] at hc
      simp only [cond_true] at hc
      have CM := fun wx => Lib.hid (made_any (x := p) (c := 0) (w := wx) (by unfold madeCode; rw [hp]; rfl))
      have CS := fun wx => Lib.hid (checkSeason_any (w := wx) hc hsz)
      clear hp hc hsz
      obtain ⟨ps, pr, pm, pg, plo, phi⟩ := p
      obtain ⟨nm, lo, hi⟩ := s
      unfold mdV snV at *
      simp only at CM CS ⊢
      have hB0 : Below w.heap.size w (((w.alloc (.cells #[.int .i64 ps, .int .i64 pr, .int .i64 pm, .int .i64 pg, .int .i64 plo, .int .i64 phi] 44)).alloc (.cells #[.string nm, .int .i64 lo, .int .i64 hi] 46)).alloc (.cells #[.int .i64 0, .int .i64 0] 48)) := (((Below.refl _ _).alloc (Nat.le_refl _) _).alloc (by simp) _).alloc (by simp; omega) _
      have hs0 : (((w.alloc (.cells #[.int .i64 ps, .int .i64 pr, .int .i64 pm, .int .i64 pg, .int .i64 plo, .int .i64 phi] 44)).alloc (.cells #[.string nm, .int .i64 lo, .int .i64 hi] 46)).alloc (.cells #[.int .i64 0, .int .i64 0] 48)).heap.size = w.heap.size + 3 := by simp
      have hq : ∀ j (hj : j < 6), (((w.alloc (.cells #[.int .i64 ps, .int .i64 pr, .int .i64 pm, .int .i64 pg, .int .i64 plo, .int .i64 phi] 44)).alloc (.cells #[.string nm, .int .i64 lo, .int .i64 hi] 46)).alloc (.cells #[.int .i64 0, .int .i64 0] 48)).cell? ⟨w.heap.size, j, none⟩ = #[Value.int .i64 ps, .int .i64 pr, .int .i64 pm, .int .i64 pg, .int .i64 plo, .int .i64 phi][j]? := by
        intro j hj; simp [go_sem]
      have hqs : ∀ j (hj : j < 3), (((w.alloc (.cells #[.int .i64 ps, .int .i64 pr, .int .i64 pm, .int .i64 pg, .int .i64 plo, .int .i64 phi] 44)).alloc (.cells #[.string nm, .int .i64 lo, .int .i64 hi] 46)).alloc (.cells #[.int .i64 0, .int .i64 0] 48)).cell? ⟨w.heap.size + 1, j, none⟩ = #[Value.string nm, .int .i64 lo, .int .i64 hi][j]? := by
        intro j hj; simp [go_sem]
      have hqr : ∀ j (hj : j < 2), (((w.alloc (.cells #[.int .i64 ps, .int .i64 pr, .int .i64 pm, .int .i64 pg, .int .i64 plo, .int .i64 phi] 44)).alloc (.cells #[.string nm, .int .i64 lo, .int .i64 hi] 46)).alloc (.cells #[.int .i64 0, .int .i64 0] 48)).cell? ⟨w.heap.size + 1 + 1, j, none⟩ = #[Value.int .i64 0, .int .i64 0][j]? := by
        intro j hj; simp [go_sem]
      have hf2 : ∀ j (hj : j < 2), (((w.alloc (.cells #[.int .i64 ps, .int .i64 pr, .int .i64 pm, .int .i64 pg, .int .i64 plo, .int .i64 phi] 44)).alloc (.cells #[.string nm, .int .i64 lo, .int .i64 hi] 46)).alloc (.cells #[.int .i64 0, .int .i64 0] 48)).frozen? ⟨w.heap.size + 1 + 1, j, none⟩ = false := by
        intro j hj; simp [go_sem]
      go_enter Try.func21, Try.ntmps21
      go_upto_region 1 with fail
      generalize (((w.alloc (.cells #[.int .i64 ps, .int .i64 pr, .int .i64 pm, .int .i64 pg, .int .i64 plo, .int .i64 phi] 44)).alloc (.cells #[.string nm, .int .i64 lo, .int .i64 hi] 46)).alloc (.cells #[.int .i64 0, .int .i64 0] 48)) = W0 at hB0 hs0 hq hqs hqr hf2 ⊢
      have HB0 := Lib.hid hB0
      have LW := Lib.hid (fun wx (hb : Below W0.heap.size W0 wx) => (show Below w.heap.size w wx from HB0.out.trans (hb.mono HB0.out.size)))
      have KS := Lib.hid (fun wx (hb : Below W0.heap.size W0 wx) => (show (wx.cell? ⟨w.heap.size, 0, none⟩ = some (.int .i64 ps) ∧ wx.cell? ⟨w.heap.size, 0 + 1, none⟩ = some (.int .i64 pr) ∧ wx.cell? ⟨w.heap.size, 0 + 2, none⟩ = some (.int .i64 pm) ∧ wx.cell? ⟨w.heap.size, 0 + 3, none⟩ = some (.int .i64 pg) ∧ wx.cell? ⟨w.heap.size, 0 + 4, none⟩ = some (.int .i64 plo) ∧ wx.cell? ⟨w.heap.size, 0 + 5, none⟩ = some (.int .i64 phi)) ∧ wx.cell? ⟨w.heap.size + 1, 0, none⟩ = some (.string nm) ∧ wx.cell? ⟨w.heap.size + 1, 0 + 1, none⟩ = some (.int .i64 lo) ∧ wx.cell? ⟨w.heap.size + 1, 0 + 2, none⟩ = some (.int .i64 hi) from by
        have k := (bcell hb).1
        exact ⟨⟨(k _ _ (by omega)).trans (hq 0 (by omega)), (k _ _ (by omega)).trans (hq 1 (by omega)), (k _ _ (by omega)).trans (hq 2 (by omega)), (k _ _ (by omega)).trans (hq 3 (by omega)), (k _ _ (by omega)).trans (hq 4 (by omega)), (k _ _ (by omega)).trans (hq 5 (by omega))⟩, (k _ _ (by omega)).trans (hqs 0 (by omega)), (k _ _ (by omega)).trans (hqs 1 (by omega)), (k _ _ (by omega)).trans (hqs 2 (by omega))⟩))
      have KR := Lib.hid (fun wx (hb : Below W0.heap.size W0 wx) => (show wx.cell? ⟨w.heap.size + 1 + 1, 0, none⟩ = some (.int .i64 0) ∧ wx.cell? ⟨w.heap.size + 1 + 1, 1, none⟩ = some (.int .i64 0) ∧ wx.frozen? ⟨w.heap.size + 1 + 1, 0, none⟩ = false ∧ wx.frozen? ⟨w.heap.size + 1 + 1, 1, none⟩ = false from by
        obtain ⟨k, kf⟩ := bcell hb
        exact ⟨(k _ _ (by omega)).trans (hqr 0 (by omega)), (k _ _ (by omega)).trans (hqr 1 (by omega)), (kf _ _ (by omega)).trans (hf2 0 (by omega)), (kf _ _ (by omega)).trans (hf2 1 (by omega))⟩))
      obtain ⟨⟨e0, e1, e2, e3, e4, e5⟩, e6, e7, e8⟩ := KS.out W0 (Below.refl _ _)
      have hlow : w.heap.size ≤ w.heap.size + 1 + 1 := by omega
      clear hq hqs hqr hf2 hs0 hB0
      go_wp2_with (first | (go_at_call 23; refine Calls.mono (CM _).out ?_; rintro e w1 ⟨rfl, hb1⟩; obtain ⟨⟨f0, f1, f2, f3, f4, f5⟩, f6, f7, f8⟩ := KS.out w1 hb1) | (go_at_call 48; refine Calls.mono (CS _).out ?_; rintro e w2 ⟨rfl, hb2⟩; have hB2 := hb1.trans (hb2.mono hb1.size); obtain ⟨z0, z1, y0, y1⟩ := KR.out w2 hB2))
      all_goals
        refine bodyPost_ret (v := .tuple #[.agg #[.int .i64 0, .int .i64 0], .int .i64 c]) (by simp [results, Try.results21, go_sem, z0, z1]) rfl ⟨rfl, ?_⟩
        repeat (refine Below.setCell ?_ (by first | (simp; done) | (simp; omega)) _)
        exact LW.out _ hB2
end Go.Proofs.Ytffmaoalnilkkaa
