/- Walks over the fits: the size of a piece at a moisture, with its errors. -/
import Derived.Test.YtffmaoalnilkkaaHP
namespace Go.Proofs.Ytffmaoalnilkkaa
open Go.RowKit Go.Maps

def sizeAtCode (p : Md) (m : Int) : Int := bif madeB p then (bif allIn 0 400 [m] then 0 else 2) else 2
def sizeAtV (p : Md) (m : Int) : Value := bif decide (sizeAtCode p m = 0) then outV (lowM p m) (hiM p m) else .agg #[.int .i64 0, .int .i64 0]
set_option maxHeartbeats 4000000 in
theorem sizeAt_bad {p : Md} {m : Int} (hp : madeB p = true) (hv : allIn 0 400 [m] = false) (w : World) :
    Calls Try.prog 20 #[mdV p, .int .i64 m] w fun e w' => e = .returned (.tuple #[.agg #[.int .i64 0, .int .i64 0], .int .i64 2]) ∧ Below w.heap.size w w' := by
  have X1 := Lib.hid hv
  have CM := fun wx => Lib.hid (made_any (x := p) (c := 0) (w := wx) (by unfold madeCode; rw [hp]; rfl))
  clear hp hv
  obtain ⟨ps, pr, pm, pg, plo, phi⟩ := p
  unfold mdV at *
  simp only at CM ⊢
  have hB0 : Below w.heap.size w ((w.alloc (.cells #[.int .i64 ps, .int .i64 pr, .int .i64 pm, .int .i64 pg, .int .i64 plo, .int .i64 phi] 44)).alloc (.cells #[.int .i64 0, .int .i64 0] 48)) := ((Below.refl _ _).alloc (Nat.le_refl _) _).alloc (by simp) _
  go_enter Try.func20, Try.ntmps20
  go_upto_region 1 with fail
  have hs0 : ((w.alloc (.cells #[.int .i64 ps, .int .i64 pr, .int .i64 pm, .int .i64 pg, .int .i64 plo, .int .i64 phi] 44)).alloc (.cells #[.int .i64 0, .int .i64 0] 48)).heap.size = w.heap.size + 2 := by simp
  have hq : ∀ j (hj : j < 6), ((w.alloc (.cells #[.int .i64 ps, .int .i64 pr, .int .i64 pm, .int .i64 pg, .int .i64 plo, .int .i64 phi] 44)).alloc (.cells #[.int .i64 0, .int .i64 0] 48)).cell? ⟨w.heap.size, j, none⟩ = #[Value.int .i64 ps, .int .i64 pr, .int .i64 pm, .int .i64 pg, .int .i64 plo, .int .i64 phi][j]? := by
    intro j hj; simp [go_sem]
  have hqr : ∀ j (hj : j < 2), ((w.alloc (.cells #[.int .i64 ps, .int .i64 pr, .int .i64 pm, .int .i64 pg, .int .i64 plo, .int .i64 phi] 44)).alloc (.cells #[.int .i64 0, .int .i64 0] 48)).cell? ⟨w.heap.size + 1, j, none⟩ = #[Value.int .i64 0, .int .i64 0][j]? := by
    intro j hj; simp [go_sem]
  have hqf : ∀ j (hj : j < 2), ((w.alloc (.cells #[.int .i64 ps, .int .i64 pr, .int .i64 pm, .int .i64 pg, .int .i64 plo, .int .i64 phi] 44)).alloc (.cells #[.int .i64 0, .int .i64 0] 48)).frozen? ⟨w.heap.size + 1, j, none⟩ = false := by
    intro j hj; simp [go_sem]
  generalize ((w.alloc (.cells #[.int .i64 ps, .int .i64 pr, .int .i64 pm, .int .i64 pg, .int .i64 plo, .int .i64 phi] 44)).alloc (.cells #[.int .i64 0, .int .i64 0] 48)) = W0 at hB0 hs0 hq hqr hqf ⊢
  have HB0 := Lib.hid hB0
  have LW := Lib.hid (fun wx (hb : Below W0.heap.size W0 wx) => (show Below w.heap.size w wx from HB0.out.trans (hb.mono HB0.out.size)))
  have KS := Lib.hid (fun wx (hb : Below W0.heap.size W0 wx) => (show wx.cell? ⟨w.heap.size, 0, none⟩ = some (.int .i64 ps) ∧ wx.cell? ⟨w.heap.size, 0 + 1, none⟩ = some (.int .i64 pr) ∧ wx.cell? ⟨w.heap.size, 0 + 2, none⟩ = some (.int .i64 pm) ∧ wx.cell? ⟨w.heap.size, 0 + 3, none⟩ = some (.int .i64 pg) ∧ wx.cell? ⟨w.heap.size, 0 + 4, none⟩ = some (.int .i64 plo) ∧ wx.cell? ⟨w.heap.size, 0 + 5, none⟩ = some (.int .i64 phi) ∧ wx.cell? ⟨w.heap.size, 3, none⟩ = some (.int .i64 pg) from by
    have k := (bcell hb).1
    exact ⟨(k _ _ (by omega)).trans (hq 0 (by omega)), (k _ _ (by omega)).trans (hq 1 (by omega)), (k _ _ (by omega)).trans (hq 2 (by omega)), (k _ _ (by omega)).trans (hq 3 (by omega)), (k _ _ (by omega)).trans (hq 4 (by omega)), (k _ _ (by omega)).trans (hq 5 (by omega)), (k _ _ (by omega)).trans (hq 3 (by omega))⟩))
  have KR := Lib.hid (fun wx (hb : Below W0.heap.size W0 wx) => (show wx.cell? ⟨w.heap.size + 1, 0, none⟩ = some (.int .i64 0) ∧ wx.cell? ⟨w.heap.size + 1, 1, none⟩ = some (.int .i64 0) ∧ wx.frozen? ⟨w.heap.size + 1, 0, none⟩ = false ∧ wx.frozen? ⟨w.heap.size + 1, 1, none⟩ = false from by
    obtain ⟨k, kf⟩ := bcell hb
    exact ⟨(k _ _ (by omega)).trans (hqr 0 (by omega)), (k _ _ (by omega)).trans (hqr 1 (by omega)), (kf _ _ (by omega)).trans (hqf 0 (by omega)), (kf _ _ (by omega)).trans (hqf 1 (by omega))⟩))
  have hlow : w.heap.size ≤ w.heap.size + 1 := by omega
  obtain ⟨e0, e1, e2, e3, e4, e5, e6⟩ := KS.out W0 (Below.refl _ _)
  clear hq hqr hqf hs0 hB0
  go_wp2_with (first | (go_at_call 23; refine Calls.mono (CM _).out ?_; rintro e w1 ⟨rfl, hb1⟩) | (go_at_call 54; (with_reducible refine (withinOne_fit X1.out _ _ (by simp)).mono ?_); rintro e w2 ⟨rfl, hb2⟩; have hB2 := hb1.trans (hb2.mono hb1.size); obtain ⟨z0, z1, y0, y1⟩ := KR.out w2 hB2))
  all_goals
    refine bodyPost_ret (v := .tuple #[.agg #[.int .i64 0, .int .i64 0], .int .i64 2]) (by simp [results, Try.results20, go_sem, z0, z1]) rfl ⟨rfl, ?_⟩
    repeat (refine Below.setCell ?_ (by first | (simp; done) | (simp; omega)) _)
    exact LW.out _ hB2
set_option maxHeartbeats 4000000 in
theorem sizeAt_bad1 {p : Md} {m : Int} (hp : madeB p = false) (w : World) :
    Calls Try.prog 20 #[mdV p, .int .i64 m] w fun e w' => e = .returned (.tuple #[.agg #[.int .i64 0, .int .i64 0], .int .i64 2]) ∧ Below w.heap.size w w' := by
  have CM := fun wx => Lib.hid (made_any (x := p) (c := 2) (w := wx) (by unfold madeCode; rw [hp]; rfl))
  clear hp
  obtain ⟨ps, pr, pm, pg, plo, phi⟩ := p
  unfold mdV at *
  simp only at CM ⊢
  have hB0 : Below w.heap.size w ((w.alloc (.cells #[.int .i64 ps, .int .i64 pr, .int .i64 pm, .int .i64 pg, .int .i64 plo, .int .i64 phi] 44)).alloc (.cells #[.int .i64 0, .int .i64 0] 48)) := ((Below.refl _ _).alloc (Nat.le_refl _) _).alloc (by simp) _
  go_enter Try.func20, Try.ntmps20
  go_upto_region 1 with fail
  have hs0 : ((w.alloc (.cells #[.int .i64 ps, .int .i64 pr, .int .i64 pm, .int .i64 pg, .int .i64 plo, .int .i64 phi] 44)).alloc (.cells #[.int .i64 0, .int .i64 0] 48)).heap.size = w.heap.size + 2 := by simp
  have hq : ∀ j (hj : j < 6), ((w.alloc (.cells #[.int .i64 ps, .int .i64 pr, .int .i64 pm, .int .i64 pg, .int .i64 plo, .int .i64 phi] 44)).alloc (.cells #[.int .i64 0, .int .i64 0] 48)).cell? ⟨w.heap.size, j, none⟩ = #[Value.int .i64 ps, .int .i64 pr, .int .i64 pm, .int .i64 pg, .int .i64 plo, .int .i64 phi][j]? := by
    intro j hj; simp [go_sem]
  have hqr : ∀ j (hj : j < 2), ((w.alloc (.cells #[.int .i64 ps, .int .i64 pr, .int .i64 pm, .int .i64 pg, .int .i64 plo, .int .i64 phi] 44)).alloc (.cells #[.int .i64 0, .int .i64 0] 48)).cell? ⟨w.heap.size + 1, j, none⟩ = #[Value.int .i64 0, .int .i64 0][j]? := by
    intro j hj; simp [go_sem]
  have hqf : ∀ j (hj : j < 2), ((w.alloc (.cells #[.int .i64 ps, .int .i64 pr, .int .i64 pm, .int .i64 pg, .int .i64 plo, .int .i64 phi] 44)).alloc (.cells #[.int .i64 0, .int .i64 0] 48)).frozen? ⟨w.heap.size + 1, j, none⟩ = false := by
    intro j hj; simp [go_sem]
  generalize ((w.alloc (.cells #[.int .i64 ps, .int .i64 pr, .int .i64 pm, .int .i64 pg, .int .i64 plo, .int .i64 phi] 44)).alloc (.cells #[.int .i64 0, .int .i64 0] 48)) = W0 at hB0 hs0 hq hqr hqf ⊢
  have HB0 := Lib.hid hB0
  have LW := Lib.hid (fun wx (hb : Below W0.heap.size W0 wx) => (show Below w.heap.size w wx from HB0.out.trans (hb.mono HB0.out.size)))
  have KS := Lib.hid (fun wx (hb : Below W0.heap.size W0 wx) => (show wx.cell? ⟨w.heap.size, 0, none⟩ = some (.int .i64 ps) ∧ wx.cell? ⟨w.heap.size, 0 + 1, none⟩ = some (.int .i64 pr) ∧ wx.cell? ⟨w.heap.size, 0 + 2, none⟩ = some (.int .i64 pm) ∧ wx.cell? ⟨w.heap.size, 0 + 3, none⟩ = some (.int .i64 pg) ∧ wx.cell? ⟨w.heap.size, 0 + 4, none⟩ = some (.int .i64 plo) ∧ wx.cell? ⟨w.heap.size, 0 + 5, none⟩ = some (.int .i64 phi) ∧ wx.cell? ⟨w.heap.size, 3, none⟩ = some (.int .i64 pg) from by
    have k := (bcell hb).1
    exact ⟨(k _ _ (by omega)).trans (hq 0 (by omega)), (k _ _ (by omega)).trans (hq 1 (by omega)), (k _ _ (by omega)).trans (hq 2 (by omega)), (k _ _ (by omega)).trans (hq 3 (by omega)), (k _ _ (by omega)).trans (hq 4 (by omega)), (k _ _ (by omega)).trans (hq 5 (by omega)), (k _ _ (by omega)).trans (hq 3 (by omega))⟩))
  have KR := Lib.hid (fun wx (hb : Below W0.heap.size W0 wx) => (show wx.cell? ⟨w.heap.size + 1, 0, none⟩ = some (.int .i64 0) ∧ wx.cell? ⟨w.heap.size + 1, 1, none⟩ = some (.int .i64 0) ∧ wx.frozen? ⟨w.heap.size + 1, 0, none⟩ = false ∧ wx.frozen? ⟨w.heap.size + 1, 1, none⟩ = false from by
    obtain ⟨k, kf⟩ := bcell hb
    exact ⟨(k _ _ (by omega)).trans (hqr 0 (by omega)), (k _ _ (by omega)).trans (hqr 1 (by omega)), (kf _ _ (by omega)).trans (hqf 0 (by omega)), (kf _ _ (by omega)).trans (hqf 1 (by omega))⟩))
  have hlow : w.heap.size ≤ w.heap.size + 1 := by omega
  obtain ⟨e0, e1, e2, e3, e4, e5, e6⟩ := KS.out W0 (Below.refl _ _)
  clear hq hqr hqf hs0 hB0
  go_wp2_with (go_at_call 23; refine Calls.mono (CM _).out ?_; rintro e w1 ⟨rfl, hb1⟩; obtain ⟨z0, z1, y0, y1⟩ := KR.out w1 hb1)
  all_goals
    refine bodyPost_ret (v := .tuple #[.agg #[.int .i64 0, .int .i64 0], .int .i64 2]) (by simp [results, Try.results20, go_sem, z0, z1]) rfl ⟨rfl, ?_⟩
    repeat (refine Below.setCell ?_ (by first | (simp; done) | (simp; omega)) _)
    exact LW.out _ hb1
theorem sizeAt_any {p : Md} {m c : Int} (hc : sizeAtCode p m = c) (w : World) :
    Calls Try.prog 20 #[mdV p, .int .i64 m] w fun e w' => e = .returned (.tuple #[sizeAtV p m, .int .i64 c]) ∧ Below w.heap.size w w' := by
  subst hc
  unfold sizeAtV sizeAtCode
  cases hp : madeB p
  · exact sizeAt_bad1 hp w
  · cases hv : allIn 0 400 [m]
    · exact sizeAt_bad hp hv w
    · exact sizeAt_ok (madeB_iff.1 hp) (by simp [allIn, outB] at hv; omega) (by simp [allIn, outB] at hv; omega) w
end Go.Proofs.Ytffmaoalnilkkaa
