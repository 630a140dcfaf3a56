/- Walks over the fits: the size of a piece over a season. -/
import Derived.Test.YtffmaoalnilkkaaHJ
namespace Go.Proofs.Ytffmaoalnilkkaa
open Go.RowKit Go.Maps

set_option maxHeartbeats 4000000 in
set_option maxRecDepth 20000 in
theorem sizeOver_ok {p : Md} {s : Sn} (hp : MdOk p) (hs : snCode s = 0) (hsz : s.nm.size ≤ maxLen) (w : World) :
    Calls Try.prog 21 #[mdV p, snV s] w fun e w' => e = .returned (.tuple #[outV (lowM p s.lo) (hiM p s.hi), .int .i64 0]) ∧ Below w.heap.size w w' := by
  obtain ⟨⟨l0, l1, h1⟩, -⟩ := snCode_ok hs
  have CM := fun wx => Lib.hid (made_any (w := wx) (madeCode_ok hp))
  have CS := fun wx => Lib.hid (checkSeason_any (w := wx) hs hsz)
  have AL := fun wx => Lib.hid (alone_any p wx)
  have CO := Lib.hid (fun wx A (hA : MdRow wx A 1 [p]) => clearanceOver_any (nm := ⟨#[]⟩) (sn := s.nm) (A := A) (A' := none) (n := 1) (c := 1) (n' := 0) (c' := 0) (le := 0) (mo := 0) (o := [p]) (i0 := []) (fun x hx => by simp at hx; rw [hx]; exact hp) (fun x hx => by cases hx) (by omega) (by omega) (by omega) l0 (Int.le_trans l1 h1) (Int.le_trans l0 l1) h1 wx hA (mdRow0 wx))
  obtain ⟨x1, x2⟩ := leastS_one hp l1
  rw [x1, x2, Int.neg_neg] at CO
  clear x1 x2 hp hs hsz l0 l1 h1
  obtain ⟨nm, lo, hi⟩ := s
  simp only at CO CS ⊢
  unfold outV at CO ⊢
  obtain ⟨x, hx⟩ : ∃ x, lowM p lo / 1000000 = x := ⟨_, rfl⟩
  obtain ⟨y, hy⟩ : ∃ y, upM (hiM p hi) = y := ⟨_, rfl⟩
  simp only [hx, hy] at CO ⊢
  clear hx hy
  have HROW : Hid (∀ (wx w' : World) A, MdRow wx A 1 [p] → Below wx.heap.size wx w' → MdRow w' A 1 [p]) := Lib.hid (fun wx w' A h hb => h.below hb)
  obtain ⟨R, hR⟩ : ∃ R : World → Option Addr → Prop, R = fun wx A => MdRow wx A 1 [p] := ⟨_, rfl⟩
  have HRE : Hid (∀ wx A, MdRow wx A 1 [p] = R wx A) := Lib.hid (fun wx A => by rw [hR])
  simp only [HRE.out] at CO AL HROW
  clear hR HRE
  obtain ⟨ps, pr, pm, pg, plo, phi⟩ := p
  unfold mdV snV ftV at *
  simp only at CM CS AL CO ⊢
  have hB0 : Below w.heap.size w (((w.alloc (.cells #[.int .i64 ps, .int .i64 pr, .int .i64 pm, .int .i64 pg, .int .i64 plo, .int .i64 phi] 44)).alloc (.cells #[.string nm, .int .i64 lo, .int .i64 hi] 46)).alloc (.cells #[.int .i64 0, .int .i64 0] 48)) := (((Below.refl _ _).alloc (Nat.le_refl _) _).alloc (by simp) _).alloc (by simp; omega) _
  have hs0 : (((w.alloc (.cells #[.int .i64 ps, .int .i64 pr, .int .i64 pm, .int .i64 pg, .int .i64 plo, .int .i64 phi] 44)).alloc (.cells #[.string nm, .int .i64 lo, .int .i64 hi] 46)).alloc (.cells #[.int .i64 0, .int .i64 0] 48)).heap.size = w.heap.size + 3 := by simp
  have hq : ∀ j (hj : j < 6), (((w.alloc (.cells #[.int .i64 ps, .int .i64 pr, .int .i64 pm, .int .i64 pg, .int .i64 plo, .int .i64 phi] 44)).alloc (.cells #[.string nm, .int .i64 lo, .int .i64 hi] 46)).alloc (.cells #[.int .i64 0, .int .i64 0] 48)).cell? ⟨w.heap.size, j, none⟩ = #[Value.int .i64 ps, .int .i64 pr, .int .i64 pm, .int .i64 pg, .int .i64 plo, .int .i64 phi][j]? := by
    intro j hj; simp [go_sem]
  have hqs : ∀ j (hj : j < 3), (((w.alloc (.cells #[.int .i64 ps, .int .i64 pr, .int .i64 pm, .int .i64 pg, .int .i64 plo, .int .i64 phi] 44)).alloc (.cells #[.string nm, .int .i64 lo, .int .i64 hi] 46)).alloc (.cells #[.int .i64 0, .int .i64 0] 48)).cell? ⟨w.heap.size + 1, j, none⟩ = #[Value.string nm, .int .i64 lo, .int .i64 hi][j]? := by
    intro j hj; simp [go_sem]
  have hqr : ∀ j (hj : j < 2), (((w.alloc (.cells #[.int .i64 ps, .int .i64 pr, .int .i64 pm, .int .i64 pg, .int .i64 plo, .int .i64 phi] 44)).alloc (.cells #[.string nm, .int .i64 lo, .int .i64 hi] 46)).alloc (.cells #[.int .i64 0, .int .i64 0] 48)).cell? ⟨w.heap.size + 1 + 1, j, none⟩ = #[Value.int .i64 0, .int .i64 0][j]? := by
    intro j hj; simp [go_sem]
  have hf2 : ∀ j (hj : j < 2), (((w.alloc (.cells #[.int .i64 ps, .int .i64 pr, .int .i64 pm, .int .i64 pg, .int .i64 plo, .int .i64 phi] 44)).alloc (.cells #[.string nm, .int .i64 lo, .int .i64 hi] 46)).alloc (.cells #[.int .i64 0, .int .i64 0] 48)).frozen? ⟨w.heap.size + 1 + 1, j, none⟩ = false := by
    intro j hj; simp [go_sem]
  go_enter Try.func21, Try.ntmps21
  go_upto_region 1 with fail
  generalize (((w.alloc (.cells #[.int .i64 ps, .int .i64 pr, .int .i64 pm, .int .i64 pg, .int .i64 plo, .int .i64 phi] 44)).alloc (.cells #[.string nm, .int .i64 lo, .int .i64 hi] 46)).alloc (.cells #[.int .i64 0, .int .i64 0] 48)) = W0 at hB0 hs0 hq hqs hqr hf2 ⊢
  have HB0 := Lib.hid hB0
  have LW := Lib.hid (fun wx (hb : Below W0.heap.size W0 wx) => (show Below w.heap.size w wx from HB0.out.trans (hb.mono HB0.out.size)))
  have KS := Lib.hid (fun wx (hb : Below W0.heap.size W0 wx) => (show (wx.cell? ⟨w.heap.size, 0, none⟩ = some (.int .i64 ps) ∧ wx.cell? ⟨w.heap.size, 0 + 1, none⟩ = some (.int .i64 pr) ∧ wx.cell? ⟨w.heap.size, 0 + 2, none⟩ = some (.int .i64 pm) ∧ wx.cell? ⟨w.heap.size, 0 + 3, none⟩ = some (.int .i64 pg) ∧ wx.cell? ⟨w.heap.size, 0 + 4, none⟩ = some (.int .i64 plo) ∧ wx.cell? ⟨w.heap.size, 0 + 5, none⟩ = some (.int .i64 phi)) ∧ wx.cell? ⟨w.heap.size + 1, 0, none⟩ = some (.string nm) ∧ wx.cell? ⟨w.heap.size + 1, 0 + 1, none⟩ = some (.int .i64 lo) ∧ wx.cell? ⟨w.heap.size + 1, 0 + 2, none⟩ = some (.int .i64 hi) from by
    have k := (bcell hb).1
    exact ⟨⟨(k _ _ (by omega)).trans (hq 0 (by omega)), (k _ _ (by omega)).trans (hq 1 (by omega)), (k _ _ (by omega)).trans (hq 2 (by omega)), (k _ _ (by omega)).trans (hq 3 (by omega)), (k _ _ (by omega)).trans (hq 4 (by omega)), (k _ _ (by omega)).trans (hq 5 (by omega))⟩, (k _ _ (by omega)).trans (hqs 0 (by omega)), (k _ _ (by omega)).trans (hqs 1 (by omega)), (k _ _ (by omega)).trans (hqs 2 (by omega))⟩))
  have KR := Lib.hid (fun wx (hb : Below W0.heap.size W0 wx) => (show wx.cell? ⟨w.heap.size + 1 + 1, 0, none⟩ = some (.int .i64 0) ∧ wx.cell? ⟨w.heap.size + 1 + 1, 1, none⟩ = some (.int .i64 0) ∧ wx.frozen? ⟨w.heap.size + 1 + 1, 0, none⟩ = false ∧ wx.frozen? ⟨w.heap.size + 1 + 1, 1, none⟩ = false from by
    obtain ⟨k, kf⟩ := bcell hb
    exact ⟨(k _ _ (by omega)).trans (hqr 0 (by omega)), (k _ _ (by omega)).trans (hqr 1 (by omega)), (kf _ _ (by omega)).trans (hf2 0 (by omega)), (kf _ _ (by omega)).trans (hf2 1 (by omega))⟩))
  obtain ⟨⟨e0, e1, e2, e3, e4, e5⟩, e6, e7, e8⟩ := KS.out W0 (Below.refl _ _)
  have hlow : w.heap.size ≤ w.heap.size + 1 + 1 := by omega
  clear hq hqs hqr hf2 hs0 hB0
  go_upto_region 7 with (first | (go_at_call 23; refine Calls.mono (CM _).out ?_; rintro e w1 ⟨rfl, hb1⟩; obtain ⟨⟨f0, f1, f2, f3, f4, f5⟩, f6, f7, f8⟩ := KS.out w1 hb1) | (go_at_call 48; refine Calls.mono (CS _).out ?_; rintro e w2 ⟨rfl, hb2⟩; have hB2 := hb1.trans (hb2.mono hb1.size)))
  have HB2 := Lib.hid hB2
  obtain ⟨⟨g0, g1, g2, g3, g4, g5⟩, g6, g7, g8⟩ := KS.out w2 hB2
  have HD2 := Lib.hid (hB2.drew)
  clear e0 e1 e2 e3 e4 e5 e6 e7 e8 hb1 hb2 hB2
  try clear f0 f1 f2 f3 f4 f5 f6 f7 f8
  go_region_with (first | (go_at_call 56; refine Calls.mono (AL _).out ?_; rintro e w3 ⟨blk, rfl, hrow, hb3⟩; have hB3 := HD2.out.trans (hb3.mono HD2.out.size); obtain ⟨⟨h0, h1, h2, h3, h4, h5⟩, h6, h7, h8⟩ := KS.out w3 hB3) | (go_at_call 57; refine Calls.mono (CO.out _ _ hrow) ?_; rintro e w4 ⟨rfl, hb4⟩; have hB4 := hB3.trans (hb4.mono hB3.size); obtain ⟨z0, z1, y0, y1⟩ := KR.out w4 hB4))
  all_goals
    rename_i K hK
    refine hK _ _ ?_
    go_wp2
    refine bodyPost_ret (v := .tuple #[.agg #[.int .i64 x, .int .i64 y], .int .i64 0]) (by simp [results, Try.results21, go_sem, z0, z1]) rfl ⟨rfl, ?_⟩
    repeat (refine Below.setCell ?_ (by first | (simp; done) | (simp; omega)) _)
    exact LW.out _ hB4
end Go.Proofs.Ytffmaoalnilkkaa
