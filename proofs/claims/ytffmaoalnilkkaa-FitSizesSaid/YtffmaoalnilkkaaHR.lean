/- Walks over the fits: the law of sizes. -/
import Derived.Test.YtffmaoalnilkkaaHL
import Derived.Test.YtffmaoalnilkkaaHQ
import Derived.Test.YtffmaoalnilkkaaFV
import Derived.Test.YtffmaoalnilkkaaFW
namespace Go.Proofs.Ytffmaoalnilkkaa
open Go.RowKit Go.Maps

set_option maxHeartbeats 4000000 in
set_option maxRecDepth 20000 in
theorem fitSizes_long {p : Md} {m : Int} {s : Sn} (hsz : s.nm.size ≤ maxLen) (hlong : 30 < s.nm.size) (w : World) :
    Calls Try.prog 4 #[mdV p, .int .i64 m, snV s] w fun e w' => e = .returned (.bool true) ∧ Below w.heap.size w w' := by
  obtain ⟨nm, lo, hi⟩ := s
  obtain ⟨ps, pr, pm, pg, plo, phi⟩ := p
  unfold mdV snV
  simp only at hsz hlong ⊢
  have hn : decide (30 < (nm.size : Int)) = true := decide_eq_true (by omega)
  have hm' : nm.size ≤ 9223372036854775807 := Nat.le_trans hsz (by decide)
  have hB0 : Below w.heap.size w ((w.alloc (.cells #[.int .i64 ps, .int .i64 pr, .int .i64 pm, .int .i64 pg, .int .i64 plo, .int .i64 phi] 44)).alloc (.cells #[.string nm, .int .i64 lo, .int .i64 hi] 46)) := ((Below.refl _ _).alloc (Nat.le_refl _) _).alloc (by simp) _
  go_enter Try.func4, Try.ntmps4
  go_upto_region 1 with fail
  have hs0 : ((w.alloc (.cells #[.int .i64 ps, .int .i64 pr, .int .i64 pm, .int .i64 pg, .int .i64 plo, .int .i64 phi] 44)).alloc (.cells #[.string nm, .int .i64 lo, .int .i64 hi] 46)).heap.size = w.heap.size + 2 := by simp
  have hq : ∀ j (hj : j < 6), ((w.alloc (.cells #[.int .i64 ps, .int .i64 pr, .int .i64 pm, .int .i64 pg, .int .i64 plo, .int .i64 phi] 44)).alloc (.cells #[.string nm, .int .i64 lo, .int .i64 hi] 46)).cell? ⟨w.heap.size, j, none⟩ = #[Value.int .i64 ps, .int .i64 pr, .int .i64 pm, .int .i64 pg, .int .i64 plo, .int .i64 phi][j]? := by
    intro j hj; simp [go_sem]
  have hqs : ∀ j (hj : j < 3), ((w.alloc (.cells #[.int .i64 ps, .int .i64 pr, .int .i64 pm, .int .i64 pg, .int .i64 plo, .int .i64 phi] 44)).alloc (.cells #[.string nm, .int .i64 lo, .int .i64 hi] 46)).cell? ⟨w.heap.size + 1, j, none⟩ = #[Value.string nm, .int .i64 lo, .int .i64 hi][j]? := by
    intro j hj; simp [go_sem]
  generalize ((w.alloc (.cells #[.int .i64 ps, .int .i64 pr, .int .i64 pm, .int .i64 pg, .int .i64 plo, .int .i64 phi] 44)).alloc (.cells #[.string nm, .int .i64 lo, .int .i64 hi] 46)) = W0 at hB0 hs0 hq hqs ⊢
  have HB0 := Lib.hid hB0
  have LW := Lib.hid (fun wx (hb : Below W0.heap.size W0 wx) => (show Below w.heap.size w wx from HB0.out.trans (hb.mono HB0.out.size)))
  have KS := Lib.hid (fun wx (hb : Below W0.heap.size W0 wx) => (show (wx.cell? ⟨w.heap.size, 0, none⟩ = some (.int .i64 ps) ∧ wx.cell? ⟨w.heap.size, 0 + 1, none⟩ = some (.int .i64 pr) ∧ wx.cell? ⟨w.heap.size, 0 + 2, none⟩ = some (.int .i64 pm) ∧ wx.cell? ⟨w.heap.size, 0 + 3, none⟩ = some (.int .i64 pg) ∧ wx.cell? ⟨w.heap.size, 0 + 4, none⟩ = some (.int .i64 plo) ∧ wx.cell? ⟨w.heap.size, 0 + 5, none⟩ = some (.int .i64 phi)) ∧ wx.cell? ⟨w.heap.size + 1, 0, none⟩ = some (.string nm) ∧ wx.cell? ⟨w.heap.size + 1, 0 + 1, none⟩ = some (.int .i64 lo) ∧ wx.cell? ⟨w.heap.size + 1, 0 + 2, none⟩ = some (.int .i64 hi) ∧ wx.cell? ⟨w.heap.size + 1, 1, none⟩ = some (.int .i64 lo) ∧ wx.cell? ⟨w.heap.size + 1, 2, none⟩ = some (.int .i64 hi) from by
    have k := (bcell hb).1
    exact ⟨⟨(k _ _ (by omega)).trans (hq 0 (by omega)), (k _ _ (by omega)).trans (hq 1 (by omega)), (k _ _ (by omega)).trans (hq 2 (by omega)), (k _ _ (by omega)).trans (hq 3 (by omega)), (k _ _ (by omega)).trans (hq 4 (by omega)), (k _ _ (by omega)).trans (hq 5 (by omega))⟩, (k _ _ (by omega)).trans (hqs 0 (by omega)), (k _ _ (by omega)).trans (hqs 1 (by omega)), (k _ _ (by omega)).trans (hqs 2 (by omega)), (k _ _ (by omega)).trans (hqs 1 (by omega)), (k _ _ (by omega)).trans (hqs 2 (by omega))⟩))
  obtain ⟨⟨e0, e1, e2, e3, e4, e5⟩, e6, e7, e8, e9, e10⟩ := KS.out W0 (Below.refl _ _)
  clear hq hqs hs0 hB0
  go_wp2_with (go_at_call 8; refine Calls.mono (awake_any _) ?_; rintro e w1 ⟨rfl, hb1⟩; obtain ⟨⟨f0, f1, f2, f3, f4, f5⟩, f6, f7, f8, f9, f10⟩ := KS.out w1 hb1)
  go_ret
  exact ⟨rfl, LW.out _ hb1⟩
set_option maxHeartbeats 4000000 in
set_option maxRecDepth 20000 in
theorem fitSizes_bad {p : Md} {m : Int} {s : Sn} (hp : madeB p = false) (hsz : s.nm.size ≤ maxLen) (hshort : s.nm.size ≤ 30) (w : World) :
    Calls Try.prog 4 #[mdV p, .int .i64 m, snV s] w fun e w' => e = .returned (.bool true) ∧ Below w.heap.size w w' := by
  have SA := fun wx => Lib.hid (sizeAt_any (p := p) (m := m) (c := 2) (by unfold sizeAtCode; rw [hp]; rfl) wx)
  have SO := fun wx => Lib.hid (sizeOver_any (p := p) (s := s) (c := 2) (by unfold sizeOverCode; rw [hp]; rfl) hsz wx)
  have CM := fun wx => Lib.hid (made_any (x := p) (c := 2) (w := wx) (by unfold madeCode; rw [hp]; rfl))
  have RM := fun wx => Lib.hid (rmade_any (x := p) (c := 2) (w := wx) (by unfold madeCode; rw [hp]; rfl))
  have v1 : sizeAtV p m = .agg #[.int .i64 0, .int .i64 0] := by unfold sizeAtV sizeAtCode; rw [hp]; rfl
  have v2 : sizeOverV p s = .agg #[.int .i64 0, .int .i64 0] := by unfold sizeOverV sizeOverCode; rw [hp]; rfl
  rw [v1] at SA
  rw [v2] at SO
  clear v1 v2 hp
  obtain ⟨nm, lo, hi⟩ := s
  obtain ⟨ps, pr, pm, pg, plo, phi⟩ := p
  unfold mdV snV at *
  simp only at hsz hshort SA SO CM RM ⊢
  have hn : decide (30 < (nm.size : Int)) = false := decide_eq_false (by omega)
  have hm' : nm.size ≤ 9223372036854775807 := Nat.le_trans hsz (by decide)
  have hB0 : Below w.heap.size w ((w.alloc (.cells #[.int .i64 ps, .int .i64 pr, .int .i64 pm, .int .i64 pg, .int .i64 plo, .int .i64 phi] 44)).alloc (.cells #[.string nm, .int .i64 lo, .int .i64 hi] 46)) := ((Below.refl _ _).alloc (Nat.le_refl _) _).alloc (by simp) _
  go_enter Try.func4, Try.ntmps4
  go_upto_region 1 with fail
  have hs0 : ((w.alloc (.cells #[.int .i64 ps, .int .i64 pr, .int .i64 pm, .int .i64 pg, .int .i64 plo, .int .i64 phi] 44)).alloc (.cells #[.string nm, .int .i64 lo, .int .i64 hi] 46)).heap.size = w.heap.size + 2 := by simp
  have hq : ∀ j (hj : j < 6), ((w.alloc (.cells #[.int .i64 ps, .int .i64 pr, .int .i64 pm, .int .i64 pg, .int .i64 plo, .int .i64 phi] 44)).alloc (.cells #[.string nm, .int .i64 lo, .int .i64 hi] 46)).cell? ⟨w.heap.size, j, none⟩ = #[Value.int .i64 ps, .int .i64 pr, .int .i64 pm, .int .i64 pg, .int .i64 plo, .int .i64 phi][j]? := by
    intro j hj; simp [go_sem]
  have hqs : ∀ j (hj : j < 3), ((w.alloc (.cells #[.int .i64 ps, .int .i64 pr, .int .i64 pm, .int .i64 pg, .int .i64 plo, .int .i64 phi] 44)).alloc (.cells #[.string nm, .int .i64 lo, .int .i64 hi] 46)).cell? ⟨w.heap.size + 1, j, none⟩ = #[Value.string nm, .int .i64 lo, .int .i64 hi][j]? := by
    intro j hj; simp [go_sem]
  generalize ((w.alloc (.cells #[.int .i64 ps, .int .i64 pr, .int .i64 pm, .int .i64 pg, .int .i64 plo, .int .i64 phi] 44)).alloc (.cells #[.string nm, .int .i64 lo, .int .i64 hi] 46)) = W0 at hB0 hs0 hq hqs ⊢
  have HB0 := Lib.hid hB0
  have LW := Lib.hid (fun wx (hb : Below W0.heap.size W0 wx) => (show Below w.heap.size w wx from HB0.out.trans (hb.mono HB0.out.size)))
  have KS := Lib.hid (fun wx (hb : Below W0.heap.size W0 wx) => (show (wx.cell? ⟨w.heap.size, 0, none⟩ = some (.int .i64 ps) ∧ wx.cell? ⟨w.heap.size, 0 + 1, none⟩ = some (.int .i64 pr) ∧ wx.cell? ⟨w.heap.size, 0 + 2, none⟩ = some (.int .i64 pm) ∧ wx.cell? ⟨w.heap.size, 0 + 3, none⟩ = some (.int .i64 pg) ∧ wx.cell? ⟨w.heap.size, 0 + 4, none⟩ = some (.int .i64 plo) ∧ wx.cell? ⟨w.heap.size, 0 + 5, none⟩ = some (.int .i64 phi)) ∧ wx.cell? ⟨w.heap.size + 1, 0, none⟩ = some (.string nm) ∧ wx.cell? ⟨w.heap.size + 1, 0 + 1, none⟩ = some (.int .i64 lo) ∧ wx.cell? ⟨w.heap.size + 1, 0 + 2, none⟩ = some (.int .i64 hi) ∧ wx.cell? ⟨w.heap.size + 1, 1, none⟩ = some (.int .i64 lo) ∧ wx.cell? ⟨w.heap.size + 1, 2, none⟩ = some (.int .i64 hi) from by
    have k := (bcell hb).1
    exact ⟨⟨(k _ _ (by omega)).trans (hq 0 (by omega)), (k _ _ (by omega)).trans (hq 1 (by omega)), (k _ _ (by omega)).trans (hq 2 (by omega)), (k _ _ (by omega)).trans (hq 3 (by omega)), (k _ _ (by omega)).trans (hq 4 (by omega)), (k _ _ (by omega)).trans (hq 5 (by omega))⟩, (k _ _ (by omega)).trans (hqs 0 (by omega)), (k _ _ (by omega)).trans (hqs 1 (by omega)), (k _ _ (by omega)).trans (hqs 2 (by omega)), (k _ _ (by omega)).trans (hqs 1 (by omega)), (k _ _ (by omega)).trans (hqs 2 (by omega))⟩))
  obtain ⟨⟨e0, e1, e2, e3, e4, e5⟩, e6, e7, e8, e9, e10⟩ := KS.out W0 (Below.refl _ _)
  clear hq hqs hs0 hB0
  go_upto_region 6 with (first | (go_at_call 8; refine Calls.mono (awake_any _) ?_; rintro e w1 ⟨rfl, hb1⟩; obtain ⟨⟨f0, f1, f2, f3, f4, f5⟩, f6, f7, f8, f9, f10⟩ := KS.out w1 hb1) | (go_at_call 20; refine Calls.mono (SA _).out ?_; rintro e w2 ⟨rfl, hb2⟩; have hB2 := hb1.trans (hb2.mono hb1.size)))
  have hbW2 : Below W0.heap.size W0 (w2.alloc (.cells #[.int .i64 0, .int .i64 0] 48)) := hB2.alloc hB2.size _
  have u20 : (w2.alloc (.cells #[.int .i64 0, .int .i64 0] 48)).cell? ⟨w2.heap.size, 0, none⟩ = some (.int .i64 0) := by simp [go_sem]
  have u21 : (w2.alloc (.cells #[.int .i64 0, .int .i64 0] 48)).cell? ⟨w2.heap.size, 0 + 1, none⟩ = some (.int .i64 0) := by simp [go_sem]
  have hlt2 : w2.heap.size < (w2.alloc (.cells #[.int .i64 0, .int .i64 0] 48)).heap.size := by simp
  generalize (w2.alloc (.cells #[.int .i64 0, .int .i64 0] 48)) = W2 at hbW2 u20 u21 hlt2 ⊢
  have KU2 := Lib.hid (fun wx (hb : Below W2.heap.size W2 wx) => (show wx.cell? ⟨w2.heap.size, 0, none⟩ = some (.int .i64 0) ∧ wx.cell? ⟨w2.heap.size, 0 + 1, none⟩ = some (.int .i64 0) from by
    have k := (bcell hb).1
    exact ⟨(k _ _ hlt2).trans u20, (k _ _ hlt2).trans u21⟩))
  clear f0 f1 f2 f3 f4 f5 f6 f7 f8 f9 f10 e0 e1 e2 e3 e4 e5 e6 e7 e8 e9 e10
  obtain ⟨⟨f0, f1, f2, f3, f4, f5⟩, f6, f7, f8, f9, f10⟩ := KS.out W2 hbW2
  go_upto_region 7 with (go_at_call 21; refine Calls.mono (SO _).out ?_; rintro e w3 ⟨rfl, hb3⟩; have hB3 := hbW2.trans (hb3.mono hbW2.size); have hs3 := hb3.size)
  have hbW3 : Below W0.heap.size W0 (w3.alloc (.cells #[.int .i64 0, .int .i64 0] 48)) := hB3.alloc hB3.size _
  have u30 : (w3.alloc (.cells #[.int .i64 0, .int .i64 0] 48)).cell? ⟨w3.heap.size, 0, none⟩ = some (.int .i64 0) := by simp [go_sem]
  have u31 : (w3.alloc (.cells #[.int .i64 0, .int .i64 0] 48)).cell? ⟨w3.heap.size, 0 + 1, none⟩ = some (.int .i64 0) := by simp [go_sem]
  have hlt3 : w3.heap.size < (w3.alloc (.cells #[.int .i64 0, .int .i64 0] 48)).heap.size := by simp
  have HX3 : Below W2.heap.size W2 (w3.alloc (.cells #[.int .i64 0, .int .i64 0] 48)) := hb3.alloc hb3.size _
  generalize (w3.alloc (.cells #[.int .i64 0, .int .i64 0] 48)) = W3 at HX3 hbW3 u30 u31 hlt3 ⊢
  have KU3 := Lib.hid (fun wx (hb : Below W3.heap.size W3 wx) => (show wx.cell? ⟨w3.heap.size, 0, none⟩ = some (.int .i64 0) ∧ wx.cell? ⟨w3.heap.size, 0 + 1, none⟩ = some (.int .i64 0) from by
    have k := (bcell hb).1
    exact ⟨(k _ _ hlt3).trans u30, (k _ _ hlt3).trans u31⟩))
  have hbW23 : Below W2.heap.size W2 W3 := HX3
  clear f0 f1 f2 f3 f4 f5 f6 f7 f8 f9 f10
  obtain ⟨u20', u21'⟩ := KU2.out W3 hbW23
  obtain ⟨⟨f0, f1, f2, f3, f4, f5⟩, f6, f7, f8, f9, f10⟩ := KS.out W3 hbW3
  go_wp2_with (first | (go_at_call 22; refine Calls.mono (RM _).out ?_; rintro e w4 ⟨rfl, hb4⟩; have hB4 := hbW3.trans (hb4.mono hbW3.size); have h24 := hbW23.trans (hb4.mono hbW23.size); obtain ⟨u30', u31'⟩ := KU3.out w4 hb4; obtain ⟨u20'', u21''⟩ := KU2.out w4 h24; obtain ⟨⟨g0, g1, g2, g3, g4, g5⟩, g6, g7, g8, g9, g10⟩ := KS.out w4 hB4) | (go_at_call 23; refine Calls.mono (CM _).out ?_; rintro e w5 ⟨rfl, hb5⟩; have hB5 := hB4.trans (hb5.mono hB4.size); obtain ⟨v30, v31⟩ := KU3.out w5 (hb4.trans (hb5.mono hb4.size)); obtain ⟨v20, v21⟩ := KU2.out w5 (h24.trans (hb5.mono h24.size))))
  all_goals
    go_ret
    exact ⟨rfl, LW.out _ hB5⟩
end Go.Proofs.Ytffmaoalnilkkaa
