/- Walks over the fits: the law of sizes, good pieces. -/
import Derived.Test.YtffmaoalnilkkaaHR
import Derived.Test.YtffmaoalnilkkaaHA
namespace Go.Proofs.Ytffmaoalnilkkaa
open Go.RowKit Go.Maps

set_option maxHeartbeats 4000000 in
set_option maxRecDepth 20000 in
theorem fitSizes_gg {p : Md} {m : Int} {s : Sn} (hp : MdOk p) (hv : allIn 0 400 [m] = true) (hs : snCode s = 0) (hsz : s.nm.size ≤ maxLen) (hshort : s.nm.size ≤ 30) (w : World) :
    Calls Try.prog 4 #[mdV p, .int .i64 m, snV s] w fun e w' => e = .returned (.bool true) ∧ Below w.heap.size w w' := by
  have hb := madeB_iff.2 hp
  have SA := fun wx => Lib.hid (sizeAt_any (p := p) (m := m) (c := 0) (by unfold sizeAtCode; rw [hb, hv]; rfl) wx)
  have SO := fun wx => Lib.hid (sizeOver_any (p := p) (s := s) (c := 0) (by unfold sizeOverCode; rw [hb, hs]; rfl) hsz wx)
  have CM := fun wx => Lib.hid (made_any (w := wx) (madeCode_ok hp))
  have RM := fun wx => Lib.hid (rmade_any (w := wx) (madeCode_ok hp))
  have RS := fun wx => Lib.hid (rseason_any (w := wx) hs hsz)
  have MO := fun wx => Lib.hid (rmoist_any hv wx)
  have bd : ∀ t, 0 ≤ t → t ≤ 400 → (-1000000000000000 ≤ lowM p t ∧ lowM p t ≤ 1000000000000000) ∧ (-1000000000000000 ≤ hiM p t ∧ hiM p t ≤ 1000000000000000) := fun t t0 t1 => by
    have a := millis_bd (mov_low hp t0 t1)
    have b := millis_bd (mov_hi hp t0 t1)
    unfold lowM hiM
    omega
  have hm : 0 ≤ m ∧ m ≤ 400 := by simp [allIn, outB] at hv; omega
  have RL1 := fun wx => Lib.hid (rlow_any hp hm.1 hm.2 wx)
  have RH1 := fun wx => Lib.hid (rhigh_any hp hm.1 hm.2 wx)
  have RO1 := fun wx => Lib.hid (rround_any (bd m hm.1 hm.2).1 (bd m hm.1 hm.2).2 wx)
  have v1 : sizeAtV p m = outV (lowM p m) (hiM p m) := by unfold sizeAtV sizeAtCode; rw [hb, hv]; rfl
  rw [v1] at SA
  clear v1 hm
  obtain ⟨⟨l0, l1, h1⟩, -⟩ := snCode_ok hs
  have RL2 := fun wx => Lib.hid (rlow_any hp l0 (Int.le_trans l1 h1) wx)
  have RH2 := fun wx => Lib.hid (rhigh_any hp (Int.le_trans l0 l1) h1 wx)
  have RO2 := fun wx => Lib.hid (rround_any (bd s.lo l0 (Int.le_trans l1 h1)).1 (bd s.hi (Int.le_trans l0 l1) h1).2 wx)
  have v2 : sizeOverV p s = outV (lowM p s.lo) (hiM p s.hi) := by unfold sizeOverV sizeOverCode; rw [hb, hs]; rfl
  rw [v2] at SO
  clear v2 l0 l1 h1
  clear hp hb hv hs bd
  obtain ⟨nm, lo, hi⟩ := s
  simp only at SO RL2 RH2 RO2 hsz hshort RS ⊢
  unfold outV at SA RO1
  obtain ⟨x1, hx⟩ : ∃ x, lowM p m / 1000000 = x := ⟨_, rfl⟩
  obtain ⟨y1, hy⟩ : ∃ y, upM (hiM p m) = y := ⟨_, rfl⟩
  simp only [hx, hy] at SA RO1
  clear hx hy
  obtain ⟨p1, hp1⟩ : ∃ x, lowM p m = x := ⟨_, rfl⟩
  obtain ⟨q1, hq1⟩ : ∃ x, hiM p m = x := ⟨_, rfl⟩
  simp only [hp1] at RL1 RO1
  simp only [hq1] at RH1 RO1
  clear hp1 hq1
  unfold outV at SO RO2
  obtain ⟨x2, hx⟩ : ∃ x, lowM p lo / 1000000 = x := ⟨_, rfl⟩
  obtain ⟨y2, hy⟩ : ∃ y, upM (hiM p hi) = y := ⟨_, rfl⟩
  simp only [hx, hy] at SO RO2
  clear hx hy
  obtain ⟨p2, hp2⟩ : ∃ x, lowM p lo = x := ⟨_, rfl⟩
  obtain ⟨q2, hq2⟩ : ∃ x, hiM p hi = x := ⟨_, rfl⟩
  simp only [hp2] at RL2 RO2
  simp only [hq2] at RH2 RO2
  clear hp2 hq2
  obtain ⟨ps, pr, pm, pg, plo, phi⟩ := p
  unfold mdV snV at *
  simp only at SA SO CM RM RS RL1 RH1 RL2 RH2 ⊢
  have hn : decide (30 < (nm.size : Int)) = false := decide_eq_false (by omega)
  have hm' : nm.size ≤ 9223372036854775807 := Nat.le_trans hsz (by decide)
  have hB0 : Below w.heap.size w ((w.alloc (.cells #[.int .i64 ps, .int .i64 pr, .int .i64 pm, .int .i64 pg, .int .i64 plo, .int .i64 phi] 44)).alloc (.cells #[.string nm, .int .i64 lo, .int .i64 hi] 46)) := ((Below.refl _ _).alloc (Nat.le_refl _) _).alloc (by simp) _
  go_enter Try.func4, Try.ntmps4
  go_upto_region 1 with fail
  have hs0 : ((w.alloc (.cells #[.int .i64 ps, .int .i64 pr, .int .i64 pm, .int .i64 pg, .int .i64 plo, .int .i64 phi] 44)).alloc (.cells #[.string nm, .int .i64 lo, .int .i64 hi] 46)).heap.size = w.heap.size + 2 := by simp
  have hq : ∀ j (hj : j < 6), ((w.alloc (.cells #[.int .i64 ps, .int .i64 pr, .int .i64 pm, .int .i64 pg, .int .i64 plo, .int .i64 phi] 44)).alloc (.cells #[.string nm, .int .i64 lo, .int .i64 hi] 46)).cell? ⟨w.heap.size, j, none⟩ = #[Value.int .i64 ps, .int .i64 pr, .int .i64 pm, .int .i64 pg, .int .i64 plo, .int .i64 phi][j]? := by
    intro j hj; simp [go_sem]
  have hqs : ∀ j (hj : j < 3), ((w.alloc (.cells #[.int .i64 ps, .int .i64 pr, .int .i64 pm, .int .i64 pg, .int .i64 plo, .int .i64 phi] 44)).alloc (.cells #[.string nm, .int .i64 lo, .int .i64 hi] 46)).cell? ⟨w.heap.size + 1, j, none⟩ = #[Value.string nm, .int .i64 lo, .int .i64 hi][j]? := by
    intro j hj; simp [go_sem]
  generalize ((w.alloc (.cells #[.int .i64 ps, .int .i64 pr, .int .i64 pm, .int .i64 pg, .int .i64 plo, .int .i64 phi] 44)).alloc (.cells #[.string nm, .int .i64 lo, .int .i64 hi] 46)) = W0 at hB0 hs0 hq hqs ⊢
  have HB0 := Lib.hid hB0
  have LW := Lib.hid (fun wx (hb : Below W0.heap.size W0 wx) => (show Below w.heap.size w wx from HB0.out.trans (hb.mono HB0.out.size)))
  have KS := Lib.hid (fun wx (hb : Below W0.heap.size W0 wx) => (show (wx.cell? ⟨w.heap.size, 0, none⟩ = some (.int .i64 ps) ∧ wx.cell? ⟨w.heap.size, 0 + 1, none⟩ = some (.int .i64 pr) ∧ wx.cell? ⟨w.heap.size, 0 + 2, none⟩ = some (.int .i64 pm) ∧ wx.cell? ⟨w.heap.size, 0 + 3, none⟩ = some (.int .i64 pg) ∧ wx.cell? ⟨w.heap.size, 0 + 4, none⟩ = some (.int .i64 plo) ∧ wx.cell? ⟨w.heap.size, 0 + 5, none⟩ = some (.int .i64 phi)) ∧ wx.cell? ⟨w.heap.size + 1, 0, none⟩ = some (.string nm) ∧ wx.cell? ⟨w.heap.size + 1, 0 + 1, none⟩ = some (.int .i64 lo) ∧ wx.cell? ⟨w.heap.size + 1, 0 + 2, none⟩ = some (.int .i64 hi) ∧ wx.cell? ⟨w.heap.size + 1, 1, none⟩ = some (.int .i64 lo) ∧ wx.cell? ⟨w.heap.size + 1, 2, none⟩ = some (.int .i64 hi) from by
    have k := (bcell hb).1
    exact ⟨⟨(k _ _ (by omega)).trans (hq 0 (by omega)), (k _ _ (by omega)).trans (hq 1 (by omega)), (k _ _ (by omega)).trans (hq 2 (by omega)), (k _ _ (by omega)).trans (hq 3 (by omega)), (k _ _ (by omega)).trans (hq 4 (by omega)), (k _ _ (by omega)).trans (hq 5 (by omega))⟩, (k _ _ (by omega)).trans (hqs 0 (by omega)), (k _ _ (by omega)).trans (hqs 1 (by omega)), (k _ _ (by omega)).trans (hqs 2 (by omega)), (k _ _ (by omega)).trans (hqs 1 (by omega)), (k _ _ (by omega)).trans (hqs 2 (by omega))⟩))
  obtain ⟨⟨e0, e1, e2, e3, e4, e5⟩, e6, e7, e8, e9, e10⟩ := KS.out W0 (Below.refl _ _)
  clear hq hqs hs0 hB0
  go_upto_region 6 with (first | (go_at_call 8; refine Calls.mono (awake_any _) ?_; rintro e w1 ⟨rfl, hb1⟩; obtain ⟨⟨f0, f1, f2, f3, f4, f5⟩, f6, f7, f8, f9, f10⟩ := KS.out w1 hb1) | (go_at_call 20; refine Calls.mono (SA _).out ?_; rintro e w2 ⟨rfl, hb2⟩; have hB2 := hb1.trans (hb2.mono hb1.size)))
  have hbW2 : Below W0.heap.size W0 (w2.alloc (.cells #[.int .i64 x1, .int .i64 y1] 48)) := hB2.alloc hB2.size _
  have u20 : (w2.alloc (.cells #[.int .i64 x1, .int .i64 y1] 48)).cell? ⟨w2.heap.size, 0, none⟩ = some (.int .i64 x1) := by simp [go_sem]
  have u21 : (w2.alloc (.cells #[.int .i64 x1, .int .i64 y1] 48)).cell? ⟨w2.heap.size, 0 + 1, none⟩ = some (.int .i64 y1) := by simp [go_sem]
  have hlt2 : w2.heap.size < (w2.alloc (.cells #[.int .i64 x1, .int .i64 y1] 48)).heap.size := by simp
  generalize (w2.alloc (.cells #[.int .i64 x1, .int .i64 y1] 48)) = W2 at hbW2 u20 u21 hlt2 ⊢
  have KU2 := Lib.hid (fun wx (hb : Below W2.heap.size W2 wx) => (show wx.cell? ⟨w2.heap.size, 0, none⟩ = some (.int .i64 x1) ∧ wx.cell? ⟨w2.heap.size, 0 + 1, none⟩ = some (.int .i64 y1) from by
    have k := (bcell hb).1
    exact ⟨(k _ _ hlt2).trans u20, (k _ _ hlt2).trans u21⟩))
  clear f0 f1 f2 f3 f4 f5 f6 f7 f8 f9 f10 e0 e1 e2 e3 e4 e5 e6 e7 e8 e9 e10
  obtain ⟨⟨f0, f1, f2, f3, f4, f5⟩, f6, f7, f8, f9, f10⟩ := KS.out W2 hbW2
  go_upto_region 7 with (go_at_call 21; refine Calls.mono (SO _).out ?_; rintro e w3 ⟨rfl, hb3⟩; have hB3 := hbW2.trans (hb3.mono hbW2.size); have hs3 := hb3.size)
  have hbW3 : Below W0.heap.size W0 (w3.alloc (.cells #[.int .i64 x2, .int .i64 y2] 48)) := hB3.alloc hB3.size _
  have u30 : (w3.alloc (.cells #[.int .i64 x2, .int .i64 y2] 48)).cell? ⟨w3.heap.size, 0, none⟩ = some (.int .i64 x2) := by simp [go_sem]
  have u31 : (w3.alloc (.cells #[.int .i64 x2, .int .i64 y2] 48)).cell? ⟨w3.heap.size, 0 + 1, none⟩ = some (.int .i64 y2) := by simp [go_sem]
  have hlt3 : w3.heap.size < (w3.alloc (.cells #[.int .i64 x2, .int .i64 y2] 48)).heap.size := by simp
  have HX3 : Below W2.heap.size W2 (w3.alloc (.cells #[.int .i64 x2, .int .i64 y2] 48)) := hb3.alloc hb3.size _
  generalize (w3.alloc (.cells #[.int .i64 x2, .int .i64 y2] 48)) = W3 at HX3 hbW3 u30 u31 hlt3 ⊢
  have KU3 := Lib.hid (fun wx (hb : Below W3.heap.size W3 wx) => (show wx.cell? ⟨w3.heap.size, 0, none⟩ = some (.int .i64 x2) ∧ wx.cell? ⟨w3.heap.size, 0 + 1, none⟩ = some (.int .i64 y2) from by
    have k := (bcell hb).1
    exact ⟨(k _ _ hlt3).trans u30, (k _ _ hlt3).trans u31⟩))
  have hbW23 : Below W2.heap.size W2 W3 := HX3
  clear f0 f1 f2 f3 f4 f5 f6 f7 f8 f9 f10
  obtain ⟨u20', u21'⟩ := KU2.out W3 hbW23
  obtain ⟨⟨f0, f1, f2, f3, f4, f5⟩, f6, f7, f8, f9, f10⟩ := KS.out W3 hbW3
  go_upto_region 15 with (first | (go_at_call 22; refine Calls.mono (RM _).out ?_; rintro e w4 ⟨rfl, hb4⟩; obtain ⟨⟨g0, g1, g2, g3, g4, g5⟩, g6, g7, g8, g9, g10⟩ := KS.out w4 (hbW3.trans (hb4.mono hbW3.size))) | (go_at_call 23; refine Calls.mono (CM _).out ?_; rintro e w5 ⟨rfl, hb5⟩; have hB5 := hb4.trans (hb5.mono hb4.size); obtain ⟨u20b, u21b⟩ := KU2.out w5 (hbW23.trans (hB5.mono hbW23.size))) | (go_at_call 24; (with_reducible refine (MO _).out.mono ?_); rintro e wm ⟨rfl, rfl⟩))
  clear f0 f1 f2 f3 f4 f5 f6 f7 f8 f9 f10 g0 g1 g2 g3 g4 g5 g6 g7 g8 g9 g10 u20' u21' u30 u31 u20 u21 u20b u21b
  have KXa := Lib.hid (fun wx (hb : Below W3.heap.size W3 wx) => (show Below W3.heap.size W3 wx ∧ wx.cell? ⟨w.heap.size, 0, none⟩ = some (.int .i64 ps) ∧ wx.cell? ⟨w.heap.size, 0 + 1, none⟩ = some (.int .i64 pr) ∧ wx.cell? ⟨w.heap.size, 0 + 2, none⟩ = some (.int .i64 pm) ∧ wx.cell? ⟨w.heap.size, 0 + 3, none⟩ = some (.int .i64 pg) ∧ wx.cell? ⟨w.heap.size, 0 + 4, none⟩ = some (.int .i64 plo) ∧ wx.cell? ⟨w.heap.size, 0 + 5, none⟩ = some (.int .i64 phi) ∧ wx.cell? ⟨w.heap.size + 1, 0, none⟩ = some (.string nm) ∧ wx.cell? ⟨w.heap.size + 1, 0 + 1, none⟩ = some (.int .i64 lo) ∧ wx.cell? ⟨w.heap.size + 1, 0 + 2, none⟩ = some (.int .i64 hi) ∧ wx.cell? ⟨w.heap.size + 1, 1, none⟩ = some (.int .i64 lo) ∧ wx.cell? ⟨w.heap.size + 1, 2, none⟩ = some (.int .i64 hi) ∧ wx.cell? ⟨w2.heap.size, 0, none⟩ = some (.int .i64 x1) ∧ wx.cell? ⟨w2.heap.size, 0 + 1, none⟩ = some (.int .i64 y1) ∧ wx.cell? ⟨w3.heap.size, 0, none⟩ = some (.int .i64 x2) ∧ wx.cell? ⟨w3.heap.size, 0 + 1, none⟩ = some (.int .i64 y2) from by
    obtain ⟨⟨a0, a1, a2, a3, a4, a5⟩, a6, a7, a8, a9, a10⟩ := KS.out wx (hbW3.trans (hb.mono hbW3.size))
    obtain ⟨b0, b1⟩ := KU2.out wx (hbW23.trans (hb.mono hbW23.size))
    obtain ⟨c0, c1⟩ := KU3.out wx hb
    exact ⟨hb, a0, a1, a2, a3, a4, a5, a6, a7, a8, a9, a10, b0, b1, c0, c1⟩))
  have Da := Lib.hid (hB5.drew)
  go_region_held3 (fun wx => Below W3.heap.size W3 wx ∧ wx.cell? ⟨w.heap.size, 0, none⟩ = some (.int .i64 ps) ∧ wx.cell? ⟨w.heap.size, 0 + 1, none⟩ = some (.int .i64 pr) ∧ wx.cell? ⟨w.heap.size, 0 + 2, none⟩ = some (.int .i64 pm) ∧ wx.cell? ⟨w.heap.size, 0 + 3, none⟩ = some (.int .i64 pg) ∧ wx.cell? ⟨w.heap.size, 0 + 4, none⟩ = some (.int .i64 plo) ∧ wx.cell? ⟨w.heap.size, 0 + 5, none⟩ = some (.int .i64 phi) ∧ wx.cell? ⟨w.heap.size + 1, 0, none⟩ = some (.string nm) ∧ wx.cell? ⟨w.heap.size + 1, 0 + 1, none⟩ = some (.int .i64 lo) ∧ wx.cell? ⟨w.heap.size + 1, 0 + 2, none⟩ = some (.int .i64 hi) ∧ wx.cell? ⟨w.heap.size + 1, 1, none⟩ = some (.int .i64 lo) ∧ wx.cell? ⟨w.heap.size + 1, 2, none⟩ = some (.int .i64 hi) ∧ wx.cell? ⟨w2.heap.size, 0, none⟩ = some (.int .i64 x1) ∧ wx.cell? ⟨w2.heap.size, 0 + 1, none⟩ = some (.int .i64 y1) ∧ wx.cell? ⟨w3.heap.size, 0, none⟩ = some (.int .i64 x2) ∧ wx.cell? ⟨w3.heap.size, 0 + 1, none⟩ = some (.int .i64 y2)) (first | assumption | (exact KXa.out _ Da.out) | (exact KXa.out _ (Below.trans (And.left (by assumption)) (Below.mono hbx (Below.size (And.left (by assumption))))))) (first | (go_at_call 26; refine Calls.mono (RL1 _).out ?_; rintro e wa ⟨rfl, hbx⟩) | (go_at_call 27; refine Calls.mono (RH1 _).out ?_; rintro e wb ⟨rfl, hbx⟩) | (go_at_call 25; refine Calls.mono (RO1 _).out ?_; rintro e wc ⟨rfl, hbx⟩))
  have HBX : Below W3.heap.size W3 wc := And.left (by assumption)
  obtain ⟨-, n0, n1, n2, n3, n4, n5, n6, n7, n8, n9, n10, n11, n12, n13, n14⟩ := KXa.out wc HBX
  go_upto_region 20 with (go_at_call 28; refine Calls.mono (RS _).out ?_; rintro e w6 ⟨rfl, hb6⟩; have hB6 := HBX.trans (hb6.mono HBX.size))
  clear n0 n1 n2 n3 n4 n5 n6 n7 n8 n9 n10 n11 n12 n13 n14
  have KXb := Lib.hid (fun wx (hb : Below W3.heap.size W3 wx) => (show Below W3.heap.size W3 wx ∧ wx.cell? ⟨w.heap.size, 0, none⟩ = some (.int .i64 ps) ∧ wx.cell? ⟨w.heap.size, 0 + 1, none⟩ = some (.int .i64 pr) ∧ wx.cell? ⟨w.heap.size, 0 + 2, none⟩ = some (.int .i64 pm) ∧ wx.cell? ⟨w.heap.size, 0 + 3, none⟩ = some (.int .i64 pg) ∧ wx.cell? ⟨w.heap.size, 0 + 4, none⟩ = some (.int .i64 plo) ∧ wx.cell? ⟨w.heap.size, 0 + 5, none⟩ = some (.int .i64 phi) ∧ wx.cell? ⟨w.heap.size + 1, 0, none⟩ = some (.string nm) ∧ wx.cell? ⟨w.heap.size + 1, 0 + 1, none⟩ = some (.int .i64 lo) ∧ wx.cell? ⟨w.heap.size + 1, 0 + 2, none⟩ = some (.int .i64 hi) ∧ wx.cell? ⟨w.heap.size + 1, 1, none⟩ = some (.int .i64 lo) ∧ wx.cell? ⟨w.heap.size + 1, 2, none⟩ = some (.int .i64 hi) ∧ wx.cell? ⟨w2.heap.size, 0, none⟩ = some (.int .i64 x1) ∧ wx.cell? ⟨w2.heap.size, 0 + 1, none⟩ = some (.int .i64 y1) ∧ wx.cell? ⟨w3.heap.size, 0, none⟩ = some (.int .i64 x2) ∧ wx.cell? ⟨w3.heap.size, 0 + 1, none⟩ = some (.int .i64 y2) from by
    obtain ⟨⟨a0, a1, a2, a3, a4, a5⟩, a6, a7, a8, a9, a10⟩ := KS.out wx (hbW3.trans (hb.mono hbW3.size))
    obtain ⟨b0, b1⟩ := KU2.out wx (hbW23.trans (hb.mono hbW23.size))
    obtain ⟨c0, c1⟩ := KU3.out wx hb
    exact ⟨hb, a0, a1, a2, a3, a4, a5, a6, a7, a8, a9, a10, b0, b1, c0, c1⟩))
  have Db := Lib.hid (hB6.drew)
  go_region_held3 (fun wx => Below W3.heap.size W3 wx ∧ wx.cell? ⟨w.heap.size, 0, none⟩ = some (.int .i64 ps) ∧ wx.cell? ⟨w.heap.size, 0 + 1, none⟩ = some (.int .i64 pr) ∧ wx.cell? ⟨w.heap.size, 0 + 2, none⟩ = some (.int .i64 pm) ∧ wx.cell? ⟨w.heap.size, 0 + 3, none⟩ = some (.int .i64 pg) ∧ wx.cell? ⟨w.heap.size, 0 + 4, none⟩ = some (.int .i64 plo) ∧ wx.cell? ⟨w.heap.size, 0 + 5, none⟩ = some (.int .i64 phi) ∧ wx.cell? ⟨w.heap.size + 1, 0, none⟩ = some (.string nm) ∧ wx.cell? ⟨w.heap.size + 1, 0 + 1, none⟩ = some (.int .i64 lo) ∧ wx.cell? ⟨w.heap.size + 1, 0 + 2, none⟩ = some (.int .i64 hi) ∧ wx.cell? ⟨w.heap.size + 1, 1, none⟩ = some (.int .i64 lo) ∧ wx.cell? ⟨w.heap.size + 1, 2, none⟩ = some (.int .i64 hi) ∧ wx.cell? ⟨w2.heap.size, 0, none⟩ = some (.int .i64 x1) ∧ wx.cell? ⟨w2.heap.size, 0 + 1, none⟩ = some (.int .i64 y1) ∧ wx.cell? ⟨w3.heap.size, 0, none⟩ = some (.int .i64 x2) ∧ wx.cell? ⟨w3.heap.size, 0 + 1, none⟩ = some (.int .i64 y2)) (first | assumption | (exact KXb.out _ Db.out) | (exact KXb.out _ (Below.trans (And.left (by assumption)) (Below.mono hbx (Below.size (And.left (by assumption))))))) (first | (go_at_call 26; refine Calls.mono (RL2 _).out ?_; rintro e wd ⟨rfl, hbx⟩) | (go_at_call 27; refine Calls.mono (RH2 _).out ?_; rintro e we ⟨rfl, hbx⟩) | (go_at_call 25; refine Calls.mono (RO2 _).out ?_; rintro e wf ⟨rfl, hbx⟩))
  have HBY : Below W3.heap.size W3 wf := And.left (by assumption)
  go_wp2
  go_ret
  exact ⟨rfl, LW.out _ (hbW3.trans (HBY.mono hbW3.size))⟩
set_option maxHeartbeats 4000000 in
set_option maxRecDepth 20000 in
theorem fitSizes_fg {p : Md} {m : Int} {s : Sn} (hp : MdOk p) (hv : allIn 0 400 [m] = false) (hs : snCode s = 0) (hsz : s.nm.size ≤ maxLen) (hshort : s.nm.size ≤ 30) (w : World) :
    Calls Try.prog 4 #[mdV p, .int .i64 m, snV s] w fun e w' => e = .returned (.bool true) ∧ Below w.heap.size w w' := by
  have hb := madeB_iff.2 hp
  have SA := fun wx => Lib.hid (sizeAt_any (p := p) (m := m) (c := 2) (by unfold sizeAtCode; rw [hb, hv]; rfl) wx)
  have SO := fun wx => Lib.hid (sizeOver_any (p := p) (s := s) (c := 0) (by unfold sizeOverCode; rw [hb, hs]; rfl) hsz wx)
  have CM := fun wx => Lib.hid (made_any (w := wx) (madeCode_ok hp))
  have RM := fun wx => Lib.hid (rmade_any (w := wx) (madeCode_ok hp))
  have RS := fun wx => Lib.hid (rseason_any (w := wx) hs hsz)
  have MO := fun wx => Lib.hid (rmoist_any hv wx)
  have bd : ∀ t, 0 ≤ t → t ≤ 400 → (-1000000000000000 ≤ lowM p t ∧ lowM p t ≤ 1000000000000000) ∧ (-1000000000000000 ≤ hiM p t ∧ hiM p t ≤ 1000000000000000) := fun t t0 t1 => by
    have a := millis_bd (mov_low hp t0 t1)
    have b := millis_bd (mov_hi hp t0 t1)
    unfold lowM hiM
    omega
  have v1 : sizeAtV p m = .agg #[.int .i64 0, .int .i64 0] := by unfold sizeAtV sizeAtCode; rw [hb, hv]; rfl
  rw [v1] at SA
  clear v1
  obtain ⟨⟨l0, l1, h1⟩, -⟩ := snCode_ok hs
  have RL2 := fun wx => Lib.hid (rlow_any hp l0 (Int.le_trans l1 h1) wx)
  have RH2 := fun wx => Lib.hid (rhigh_any hp (Int.le_trans l0 l1) h1 wx)
  have RO2 := fun wx => Lib.hid (rround_any (bd s.lo l0 (Int.le_trans l1 h1)).1 (bd s.hi (Int.le_trans l0 l1) h1).2 wx)
  have v2 : sizeOverV p s = outV (lowM p s.lo) (hiM p s.hi) := by unfold sizeOverV sizeOverCode; rw [hb, hs]; rfl
  rw [v2] at SO
  clear v2 l0 l1 h1
  clear hp hb hv hs bd
  obtain ⟨nm, lo, hi⟩ := s
  simp only at SO RL2 RH2 RO2 hsz hshort RS ⊢
  unfold outV at SO RO2
  obtain ⟨x2, hx⟩ : ∃ x, lowM p lo / 1000000 = x := ⟨_, rfl⟩
  obtain ⟨y2, hy⟩ : ∃ y, upM (hiM p hi) = y := ⟨_, rfl⟩
  simp only [hx, hy] at SO RO2
  clear hx hy
  obtain ⟨p2, hp2⟩ : ∃ x, lowM p lo = x := ⟨_, rfl⟩
  obtain ⟨q2, hq2⟩ : ∃ x, hiM p hi = x := ⟨_, rfl⟩
  simp only [hp2] at RL2 RO2
  simp only [hq2] at RH2 RO2
  clear hp2 hq2
  obtain ⟨ps, pr, pm, pg, plo, phi⟩ := p
  unfold mdV snV at *
  simp only at SA SO CM RM RS RL2 RH2 ⊢
  have hn : decide (30 < (nm.size : Int)) = false := decide_eq_false (by omega)
  have hm' : nm.size ≤ 9223372036854775807 := Nat.le_trans hsz (by decide)
  have hB0 : Below w.heap.size w ((w.alloc (.cells #[.int .i64 ps, .int .i64 pr, .int .i64 pm, .int .i64 pg, .int .i64 plo, .int .i64 phi] 44)).alloc (.cells #[.string nm, .int .i64 lo, .int .i64 hi] 46)) := ((Below.refl _ _).alloc (Nat.le_refl _) _).alloc (by simp) _
  go_enter Try.func4, Try.ntmps4
  go_upto_region 1 with fail
  have hs0 : ((w.alloc (.cells #[.int .i64 ps, .int .i64 pr, .int .i64 pm, .int .i64 pg, .int .i64 plo, .int .i64 phi] 44)).alloc (.cells #[.string nm, .int .i64 lo, .int .i64 hi] 46)).heap.size = w.heap.size + 2 := by simp
  have hq : ∀ j (hj : j < 6), ((w.alloc (.cells #[.int .i64 ps, .int .i64 pr, .int .i64 pm, .int .i64 pg, .int .i64 plo, .int .i64 phi] 44)).alloc (.cells #[.string nm, .int .i64 lo, .int .i64 hi] 46)).cell? ⟨w.heap.size, j, none⟩ = #[Value.int .i64 ps, .int .i64 pr, .int .i64 pm, .int .i64 pg, .int .i64 plo, .int .i64 phi][j]? := by
    intro j hj; simp [go_sem]
  have hqs : ∀ j (hj : j < 3), ((w.alloc (.cells #[.int .i64 ps, .int .i64 pr, .int .i64 pm, .int .i64 pg, .int .i64 plo, .int .i64 phi] 44)).alloc (.cells #[.string nm, .int .i64 lo, .int .i64 hi] 46)).cell? ⟨w.heap.size + 1, j, none⟩ = #[Value.string nm, .int .i64 lo, .int .i64 hi][j]? := by
    intro j hj; simp [go_sem]
  generalize ((w.alloc (.cells #[.int .i64 ps, .int .i64 pr, .int .i64 pm, .int .i64 pg, .int .i64 plo, .int .i64 phi] 44)).alloc (.cells #[.string nm, .int .i64 lo, .int .i64 hi] 46)) = W0 at hB0 hs0 hq hqs ⊢
  have HB0 := Lib.hid hB0
  have LW := Lib.hid (fun wx (hb : Below W0.heap.size W0 wx) => (show Below w.heap.size w wx from HB0.out.trans (hb.mono HB0.out.size)))
  have KS := Lib.hid (fun wx (hb : Below W0.heap.size W0 wx) => (show (wx.cell? ⟨w.heap.size, 0, none⟩ = some (.int .i64 ps) ∧ wx.cell? ⟨w.heap.size, 0 + 1, none⟩ = some (.int .i64 pr) ∧ wx.cell? ⟨w.heap.size, 0 + 2, none⟩ = some (.int .i64 pm) ∧ wx.cell? ⟨w.heap.size, 0 + 3, none⟩ = some (.int .i64 pg) ∧ wx.cell? ⟨w.heap.size, 0 + 4, none⟩ = some (.int .i64 plo) ∧ wx.cell? ⟨w.heap.size, 0 + 5, none⟩ = some (.int .i64 phi)) ∧ wx.cell? ⟨w.heap.size + 1, 0, none⟩ = some (.string nm) ∧ wx.cell? ⟨w.heap.size + 1, 0 + 1, none⟩ = some (.int .i64 lo) ∧ wx.cell? ⟨w.heap.size + 1, 0 + 2, none⟩ = some (.int .i64 hi) ∧ wx.cell? ⟨w.heap.size + 1, 1, none⟩ = some (.int .i64 lo) ∧ wx.cell? ⟨w.heap.size + 1, 2, none⟩ = some (.int .i64 hi) from by
    have k := (bcell hb).1
    exact ⟨⟨(k _ _ (by omega)).trans (hq 0 (by omega)), (k _ _ (by omega)).trans (hq 1 (by omega)), (k _ _ (by omega)).trans (hq 2 (by omega)), (k _ _ (by omega)).trans (hq 3 (by omega)), (k _ _ (by omega)).trans (hq 4 (by omega)), (k _ _ (by omega)).trans (hq 5 (by omega))⟩, (k _ _ (by omega)).trans (hqs 0 (by omega)), (k _ _ (by omega)).trans (hqs 1 (by omega)), (k _ _ (by omega)).trans (hqs 2 (by omega)), (k _ _ (by omega)).trans (hqs 1 (by omega)), (k _ _ (by omega)).trans (hqs 2 (by omega))⟩))
  obtain ⟨⟨e0, e1, e2, e3, e4, e5⟩, e6, e7, e8, e9, e10⟩ := KS.out W0 (Below.refl _ _)
  clear hq hqs hs0 hB0
  go_upto_region 6 with (first | (go_at_call 8; refine Calls.mono (awake_any _) ?_; rintro e w1 ⟨rfl, hb1⟩; obtain ⟨⟨f0, f1, f2, f3, f4, f5⟩, f6, f7, f8, f9, f10⟩ := KS.out w1 hb1) | (go_at_call 20; refine Calls.mono (SA _).out ?_; rintro e w2 ⟨rfl, hb2⟩; have hB2 := hb1.trans (hb2.mono hb1.size)))
  have hbW2 : Below W0.heap.size W0 (w2.alloc (.cells #[.int .i64 0, .int .i64 0] 48)) := hB2.alloc hB2.size _
  have u20 : (w2.alloc (.cells #[.int .i64 0, .int .i64 0] 48)).cell? ⟨w2.heap.size, 0, none⟩ = some (.int .i64 0) := by simp [go_sem]
  have u21 : (w2.alloc (.cells #[.int .i64 0, .int .i64 0] 48)).cell? ⟨w2.heap.size, 0 + 1, none⟩ = some (.int .i64 0) := by simp [go_sem]
  have hlt2 : w2.heap.size < (w2.alloc (.cells #[.int .i64 0, .int .i64 0] 48)).heap.size := by simp
  generalize (w2.alloc (.cells #[.int .i64 0, .int .i64 0] 48)) = W2 at hbW2 u20 u21 hlt2 ⊢
  have KU2 := Lib.hid (fun wx (hb : Below W2.heap.size W2 wx) => (show wx.cell? ⟨w2.heap.size, 0, none⟩ = some (.int .i64 0) ∧ wx.cell? ⟨w2.heap.size, 0 + 1, none⟩ = some (.int .i64 0) from by
    have k := (bcell hb).1
    exact ⟨(k _ _ hlt2).trans u20, (k _ _ hlt2).trans u21⟩))
  clear f0 f1 f2 f3 f4 f5 f6 f7 f8 f9 f10 e0 e1 e2 e3 e4 e5 e6 e7 e8 e9 e10
  obtain ⟨⟨f0, f1, f2, f3, f4, f5⟩, f6, f7, f8, f9, f10⟩ := KS.out W2 hbW2
  go_upto_region 7 with (go_at_call 21; refine Calls.mono (SO _).out ?_; rintro e w3 ⟨rfl, hb3⟩; have hB3 := hbW2.trans (hb3.mono hbW2.size); have hs3 := hb3.size)
  have hbW3 : Below W0.heap.size W0 (w3.alloc (.cells #[.int .i64 x2, .int .i64 y2] 48)) := hB3.alloc hB3.size _
  have u30 : (w3.alloc (.cells #[.int .i64 x2, .int .i64 y2] 48)).cell? ⟨w3.heap.size, 0, none⟩ = some (.int .i64 x2) := by simp [go_sem]
  have u31 : (w3.alloc (.cells #[.int .i64 x2, .int .i64 y2] 48)).cell? ⟨w3.heap.size, 0 + 1, none⟩ = some (.int .i64 y2) := by simp [go_sem]
  have hlt3 : w3.heap.size < (w3.alloc (.cells #[.int .i64 x2, .int .i64 y2] 48)).heap.size := by simp
  have HX3 : Below W2.heap.size W2 (w3.alloc (.cells #[.int .i64 x2, .int .i64 y2] 48)) := hb3.alloc hb3.size _
  generalize (w3.alloc (.cells #[.int .i64 x2, .int .i64 y2] 48)) = W3 at HX3 hbW3 u30 u31 hlt3 ⊢
  have KU3 := Lib.hid (fun wx (hb : Below W3.heap.size W3 wx) => (show wx.cell? ⟨w3.heap.size, 0, none⟩ = some (.int .i64 x2) ∧ wx.cell? ⟨w3.heap.size, 0 + 1, none⟩ = some (.int .i64 y2) from by
    have k := (bcell hb).1
    exact ⟨(k _ _ hlt3).trans u30, (k _ _ hlt3).trans u31⟩))
  have hbW23 : Below W2.heap.size W2 W3 := HX3
  clear f0 f1 f2 f3 f4 f5 f6 f7 f8 f9 f10
  obtain ⟨u20', u21'⟩ := KU2.out W3 hbW23
  obtain ⟨⟨f0, f1, f2, f3, f4, f5⟩, f6, f7, f8, f9, f10⟩ := KS.out W3 hbW3
  go_upto_region 17 with (first | (go_at_call 22; refine Calls.mono (RM _).out ?_; rintro e w4 ⟨rfl, hb4⟩; obtain ⟨⟨g0, g1, g2, g3, g4, g5⟩, g6, g7, g8, g9, g10⟩ := KS.out w4 (hbW3.trans (hb4.mono hbW3.size))) | (go_at_call 23; refine Calls.mono (CM _).out ?_; rintro e w5 ⟨rfl, hb5⟩; have hB5 := hb4.trans (hb5.mono hb4.size); obtain ⟨u20b, u21b⟩ := KU2.out w5 (hbW23.trans (hB5.mono hbW23.size))) | (go_at_call 24; (with_reducible refine (MO _).out.mono ?_); rintro e wm ⟨rfl, rfl⟩))
  clear f0 f1 f2 f3 f4 f5 f6 f7 f8 f9 f10 g0 g1 g2 g3 g4 g5 g6 g7 g8 g9 g10 u20' u21' u30 u31 u20 u21 u20b u21b
  have KXa := Lib.hid (fun wx (hb : Below W3.heap.size W3 wx) => (show Below W3.heap.size W3 wx ∧ wx.cell? ⟨w.heap.size, 0, none⟩ = some (.int .i64 ps) ∧ wx.cell? ⟨w.heap.size, 0 + 1, none⟩ = some (.int .i64 pr) ∧ wx.cell? ⟨w.heap.size, 0 + 2, none⟩ = some (.int .i64 pm) ∧ wx.cell? ⟨w.heap.size, 0 + 3, none⟩ = some (.int .i64 pg) ∧ wx.cell? ⟨w.heap.size, 0 + 4, none⟩ = some (.int .i64 plo) ∧ wx.cell? ⟨w.heap.size, 0 + 5, none⟩ = some (.int .i64 phi) ∧ wx.cell? ⟨w.heap.size + 1, 0, none⟩ = some (.string nm) ∧ wx.cell? ⟨w.heap.size + 1, 0 + 1, none⟩ = some (.int .i64 lo) ∧ wx.cell? ⟨w.heap.size + 1, 0 + 2, none⟩ = some (.int .i64 hi) ∧ wx.cell? ⟨w.heap.size + 1, 1, none⟩ = some (.int .i64 lo) ∧ wx.cell? ⟨w.heap.size + 1, 2, none⟩ = some (.int .i64 hi) ∧ wx.cell? ⟨w2.heap.size, 0, none⟩ = some (.int .i64 0) ∧ wx.cell? ⟨w2.heap.size, 0 + 1, none⟩ = some (.int .i64 0) ∧ wx.cell? ⟨w3.heap.size, 0, none⟩ = some (.int .i64 x2) ∧ wx.cell? ⟨w3.heap.size, 0 + 1, none⟩ = some (.int .i64 y2) from by
    obtain ⟨⟨a0, a1, a2, a3, a4, a5⟩, a6, a7, a8, a9, a10⟩ := KS.out wx (hbW3.trans (hb.mono hbW3.size))
    obtain ⟨b0, b1⟩ := KU2.out wx (hbW23.trans (hb.mono hbW23.size))
    obtain ⟨c0, c1⟩ := KU3.out wx hb
    exact ⟨hb, a0, a1, a2, a3, a4, a5, a6, a7, a8, a9, a10, b0, b1, c0, c1⟩))
  have HBX := hB5
  obtain ⟨-, n0, n1, n2, n3, n4, n5, n6, n7, n8, n9, n10, n11, n12, n13, n14⟩ := KXa.out w5 HBX
  go_upto_region 20 with (go_at_call 28; refine Calls.mono (RS _).out ?_; rintro e w6 ⟨rfl, hb6⟩; have hB6 := HBX.trans (hb6.mono HBX.size))
  clear n0 n1 n2 n3 n4 n5 n6 n7 n8 n9 n10 n11 n12 n13 n14
  have KXb := Lib.hid (fun wx (hb : Below W3.heap.size W3 wx) => (show Below W3.heap.size W3 wx ∧ wx.cell? ⟨w.heap.size, 0, none⟩ = some (.int .i64 ps) ∧ wx.cell? ⟨w.heap.size, 0 + 1, none⟩ = some (.int .i64 pr) ∧ wx.cell? ⟨w.heap.size, 0 + 2, none⟩ = some (.int .i64 pm) ∧ wx.cell? ⟨w.heap.size, 0 + 3, none⟩ = some (.int .i64 pg) ∧ wx.cell? ⟨w.heap.size, 0 + 4, none⟩ = some (.int .i64 plo) ∧ wx.cell? ⟨w.heap.size, 0 + 5, none⟩ = some (.int .i64 phi) ∧ wx.cell? ⟨w.heap.size + 1, 0, none⟩ = some (.string nm) ∧ wx.cell? ⟨w.heap.size + 1, 0 + 1, none⟩ = some (.int .i64 lo) ∧ wx.cell? ⟨w.heap.size + 1, 0 + 2, none⟩ = some (.int .i64 hi) ∧ wx.cell? ⟨w.heap.size + 1, 1, none⟩ = some (.int .i64 lo) ∧ wx.cell? ⟨w.heap.size + 1, 2, none⟩ = some (.int .i64 hi) ∧ wx.cell? ⟨w2.heap.size, 0, none⟩ = some (.int .i64 0) ∧ wx.cell? ⟨w2.heap.size, 0 + 1, none⟩ = some (.int .i64 0) ∧ wx.cell? ⟨w3.heap.size, 0, none⟩ = some (.int .i64 x2) ∧ wx.cell? ⟨w3.heap.size, 0 + 1, none⟩ = some (.int .i64 y2) from by
    obtain ⟨⟨a0, a1, a2, a3, a4, a5⟩, a6, a7, a8, a9, a10⟩ := KS.out wx (hbW3.trans (hb.mono hbW3.size))
    obtain ⟨b0, b1⟩ := KU2.out wx (hbW23.trans (hb.mono hbW23.size))
    obtain ⟨c0, c1⟩ := KU3.out wx hb
    exact ⟨hb, a0, a1, a2, a3, a4, a5, a6, a7, a8, a9, a10, b0, b1, c0, c1⟩))
  have Db := Lib.hid (hB6.drew)
  go_region_held3 (fun wx => Below W3.heap.size W3 wx ∧ wx.cell? ⟨w.heap.size, 0, none⟩ = some (.int .i64 ps) ∧ wx.cell? ⟨w.heap.size, 0 + 1, none⟩ = some (.int .i64 pr) ∧ wx.cell? ⟨w.heap.size, 0 + 2, none⟩ = some (.int .i64 pm) ∧ wx.cell? ⟨w.heap.size, 0 + 3, none⟩ = some (.int .i64 pg) ∧ wx.cell? ⟨w.heap.size, 0 + 4, none⟩ = some (.int .i64 plo) ∧ wx.cell? ⟨w.heap.size, 0 + 5, none⟩ = some (.int .i64 phi) ∧ wx.cell? ⟨w.heap.size + 1, 0, none⟩ = some (.string nm) ∧ wx.cell? ⟨w.heap.size + 1, 0 + 1, none⟩ = some (.int .i64 lo) ∧ wx.cell? ⟨w.heap.size + 1, 0 + 2, none⟩ = some (.int .i64 hi) ∧ wx.cell? ⟨w.heap.size + 1, 1, none⟩ = some (.int .i64 lo) ∧ wx.cell? ⟨w.heap.size + 1, 2, none⟩ = some (.int .i64 hi) ∧ wx.cell? ⟨w2.heap.size, 0, none⟩ = some (.int .i64 0) ∧ wx.cell? ⟨w2.heap.size, 0 + 1, none⟩ = some (.int .i64 0) ∧ wx.cell? ⟨w3.heap.size, 0, none⟩ = some (.int .i64 x2) ∧ wx.cell? ⟨w3.heap.size, 0 + 1, none⟩ = some (.int .i64 y2)) (first | assumption | (exact KXb.out _ Db.out) | (exact KXb.out _ (Below.trans (And.left (by assumption)) (Below.mono hbx (Below.size (And.left (by assumption))))))) (first | (go_at_call 26; refine Calls.mono (RL2 _).out ?_; rintro e wd ⟨rfl, hbx⟩) | (go_at_call 27; refine Calls.mono (RH2 _).out ?_; rintro e we ⟨rfl, hbx⟩) | (go_at_call 25; refine Calls.mono (RO2 _).out ?_; rintro e wf ⟨rfl, hbx⟩))
  have HBY : Below W3.heap.size W3 wf := And.left (by assumption)
  go_wp2
  go_ret
  exact ⟨rfl, LW.out _ (hbW3.trans (HBY.mono hbW3.size))⟩
set_option maxHeartbeats 4000000 in
set_option maxRecDepth 20000 in
theorem fitSizes_gf {p : Md} {m c : Int} {s : Sn} (hp : MdOk p) (hv : allIn 0 400 [m] = true) (hs : snCode s = c) (hc0 : c ≠ 0) (hsz : s.nm.size ≤ maxLen) (hshort : s.nm.size ≤ 30) (w : World) :
    Calls Try.prog 4 #[mdV p, .int .i64 m, snV s] w fun e w' => e = .returned (.bool true) ∧ Below w.heap.size w w' := by
  have hb := madeB_iff.2 hp
  have SA := fun wx => Lib.hid (sizeAt_any (p := p) (m := m) (c := 0) (by unfold sizeAtCode; rw [hb, hv]; rfl) wx)
  have SO := fun wx => Lib.hid (sizeOver_any (p := p) (s := s) (c := c) (by unfold sizeOverCode; rw [hb, hs]; rfl) hsz wx)
  have CM := fun wx => Lib.hid (made_any (w := wx) (madeCode_ok hp))
  have RM := fun wx => Lib.hid (rmade_any (w := wx) (madeCode_ok hp))
  have RS := fun wx => Lib.hid (rseason_any (w := wx) hs hsz)
  have MO := fun wx => Lib.hid (rmoist_any hv wx)
  have bd : ∀ t, 0 ≤ t → t ≤ 400 → (-1000000000000000 ≤ lowM p t ∧ lowM p t ≤ 1000000000000000) ∧ (-1000000000000000 ≤ hiM p t ∧ hiM p t ≤ 1000000000000000) := fun t t0 t1 => by
    have a := millis_bd (mov_low hp t0 t1)
    have b := millis_bd (mov_hi hp t0 t1)
    unfold lowM hiM
    omega
  have hm : 0 ≤ m ∧ m ≤ 400 := by simp [allIn, outB] at hv; omega
  have RL1 := fun wx => Lib.hid (rlow_any hp hm.1 hm.2 wx)
  have RH1 := fun wx => Lib.hid (rhigh_any hp hm.1 hm.2 wx)
  have RO1 := fun wx => Lib.hid (rround_any (bd m hm.1 hm.2).1 (bd m hm.1 hm.2).2 wx)
  have v1 : sizeAtV p m = outV (lowM p m) (hiM p m) := by unfold sizeAtV sizeAtCode; rw [hb, hv]; rfl
  rw [v1] at SA
  clear v1 hm
  have v2 : sizeOverV p s = .agg #[.int .i64 0, .int .i64 0] := by unfold sizeOverV sizeOverCode; rw [hb, hs]; simp [hc0]
  rw [v2] at SO
  have hcb : (c == 0) = false := beq_eq_false_iff_ne.2 hc0
  have hcb' : (c != 0) = true := bne_iff_ne.2 hc0
  clear v2 hc0
  clear hp hb hv hs bd
  obtain ⟨nm, lo, hi⟩ := s
  simp only at SO hsz hshort RS ⊢
  unfold outV at SA RO1
  obtain ⟨x1, hx⟩ : ∃ x, lowM p m / 1000000 = x := ⟨_, rfl⟩
  obtain ⟨y1, hy⟩ : ∃ y, upM (hiM p m) = y := ⟨_, rfl⟩
  simp only [hx, hy] at SA RO1
  clear hx hy
  obtain ⟨p1, hp1⟩ : ∃ x, lowM p m = x := ⟨_, rfl⟩
  obtain ⟨q1, hq1⟩ : ∃ x, hiM p m = x := ⟨_, rfl⟩
  simp only [hp1] at RL1 RO1
  simp only [hq1] at RH1 RO1
  clear hp1 hq1
  obtain ⟨ps, pr, pm, pg, plo, phi⟩ := p
  unfold mdV snV at *
  simp only at SA SO CM RM RS RL1 RH1 ⊢
  have hn : decide (30 < (nm.size : Int)) = false := decide_eq_false (by omega)
  have hm' : nm.size ≤ 9223372036854775807 := Nat.le_trans hsz (by decide)
  have hB0 : Below w.heap.size w ((w.alloc (.cells #[.int .i64 ps, .int .i64 pr, .int .i64 pm, .int .i64 pg, .int .i64 plo, .int .i64 phi] 44)).alloc (.cells #[.string nm, .int .i64 lo, .int .i64 hi] 46)) := ((Below.refl _ _).alloc (Nat.le_refl _) _).alloc (by simp) _
  go_enter Try.func4, Try.ntmps4
  go_upto_region 1 with fail
  have hs0 : ((w.alloc (.cells #[.int .i64 ps, .int .i64 pr, .int .i64 pm, .int .i64 pg, .int .i64 plo, .int .i64 phi] 44)).alloc (.cells #[.string nm, .int .i64 lo, .int .i64 hi] 46)).heap.size = w.heap.size + 2 := by simp
  have hq : ∀ j (hj : j < 6), ((w.alloc (.cells #[.int .i64 ps, .int .i64 pr, .int .i64 pm, .int .i64 pg, .int .i64 plo, .int .i64 phi] 44)).alloc (.cells #[.string nm, .int .i64 lo, .int .i64 hi] 46)).cell? ⟨w.heap.size, j, none⟩ = #[Value.int .i64 ps, .int .i64 pr, .int .i64 pm, .int .i64 pg, .int .i64 plo, .int .i64 phi][j]? := by
    intro j hj; simp [go_sem]
  have hqs : ∀ j (hj : j < 3), ((w.alloc (.cells #[.int .i64 ps, .int .i64 pr, .int .i64 pm, .int .i64 pg, .int .i64 plo, .int .i64 phi] 44)).alloc (.cells #[.string nm, .int .i64 lo, .int .i64 hi] 46)).cell? ⟨w.heap.size + 1, j, none⟩ = #[Value.string nm, .int .i64 lo, .int .i64 hi][j]? := by
    intro j hj; simp [go_sem]
  generalize ((w.alloc (.cells #[.int .i64 ps, .int .i64 pr, .int .i64 pm, .int .i64 pg, .int .i64 plo, .int .i64 phi] 44)).alloc (.cells #[.string nm, .int .i64 lo, .int .i64 hi] 46)) = W0 at hB0 hs0 hq hqs ⊢
  have HB0 := Lib.hid hB0
  have LW := Lib.hid (fun wx (hb : Below W0.heap.size W0 wx) => (show Below w.heap.size w wx from HB0.out.trans (hb.mono HB0.out.size)))
  have KS := Lib.hid (fun wx (hb : Below W0.heap.size W0 wx) => (show (wx.cell? ⟨w.heap.size, 0, none⟩ = some (.int .i64 ps) ∧ wx.cell? ⟨w.heap.size, 0 + 1, none⟩ = some (.int .i64 pr) ∧ wx.cell? ⟨w.heap.size, 0 + 2, none⟩ = some (.int .i64 pm) ∧ wx.cell? ⟨w.heap.size, 0 + 3, none⟩ = some (.int .i64 pg) ∧ wx.cell? ⟨w.heap.size, 0 + 4, none⟩ = some (.int .i64 plo) ∧ wx.cell? ⟨w.heap.size, 0 + 5, none⟩ = some (.int .i64 phi)) ∧ wx.cell? ⟨w.heap.size + 1, 0, none⟩ = some (.string nm) ∧ wx.cell? ⟨w.heap.size + 1, 0 + 1, none⟩ = some (.int .i64 lo) ∧ wx.cell? ⟨w.heap.size + 1, 0 + 2, none⟩ = some (.int .i64 hi) ∧ wx.cell? ⟨w.heap.size + 1, 1, none⟩ = some (.int .i64 lo) ∧ wx.cell? ⟨w.heap.size + 1, 2, none⟩ = some (.int .i64 hi) from by
    have k := (bcell hb).1
    exact ⟨⟨(k _ _ (by omega)).trans (hq 0 (by omega)), (k _ _ (by omega)).trans (hq 1 (by omega)), (k _ _ (by omega)).trans (hq 2 (by omega)), (k _ _ (by omega)).trans (hq 3 (by omega)), (k _ _ (by omega)).trans (hq 4 (by omega)), (k _ _ (by omega)).trans (hq 5 (by omega))⟩, (k _ _ (by omega)).trans (hqs 0 (by omega)), (k _ _ (by omega)).trans (hqs 1 (by omega)), (k _ _ (by omega)).trans (hqs 2 (by omega)), (k _ _ (by omega)).trans (hqs 1 (by omega)), (k _ _ (by omega)).trans (hqs 2 (by omega))⟩))
  obtain ⟨⟨e0, e1, e2, e3, e4, e5⟩, e6, e7, e8, e9, e10⟩ := KS.out W0 (Below.refl _ _)
  clear hq hqs hs0 hB0
  go_upto_region 6 with (first | (go_at_call 8; refine Calls.mono (awake_any _) ?_; rintro e w1 ⟨rfl, hb1⟩; obtain ⟨⟨f0, f1, f2, f3, f4, f5⟩, f6, f7, f8, f9, f10⟩ := KS.out w1 hb1) | (go_at_call 20; refine Calls.mono (SA _).out ?_; rintro e w2 ⟨rfl, hb2⟩; have hB2 := hb1.trans (hb2.mono hb1.size)))
  have hbW2 : Below W0.heap.size W0 (w2.alloc (.cells #[.int .i64 x1, .int .i64 y1] 48)) := hB2.alloc hB2.size _
  have u20 : (w2.alloc (.cells #[.int .i64 x1, .int .i64 y1] 48)).cell? ⟨w2.heap.size, 0, none⟩ = some (.int .i64 x1) := by simp [go_sem]
  have u21 : (w2.alloc (.cells #[.int .i64 x1, .int .i64 y1] 48)).cell? ⟨w2.heap.size, 0 + 1, none⟩ = some (.int .i64 y1) := by simp [go_sem]
  have hlt2 : w2.heap.size < (w2.alloc (.cells #[.int .i64 x1, .int .i64 y1] 48)).heap.size := by simp
  generalize (w2.alloc (.cells #[.int .i64 x1, .int .i64 y1] 48)) = W2 at hbW2 u20 u21 hlt2 ⊢
  have KU2 := Lib.hid (fun wx (hb : Below W2.heap.size W2 wx) => (show wx.cell? ⟨w2.heap.size, 0, none⟩ = some (.int .i64 x1) ∧ wx.cell? ⟨w2.heap.size, 0 + 1, none⟩ = some (.int .i64 y1) from by
    have k := (bcell hb).1
    exact ⟨(k _ _ hlt2).trans u20, (k _ _ hlt2).trans u21⟩))
  clear f0 f1 f2 f3 f4 f5 f6 f7 f8 f9 f10 e0 e1 e2 e3 e4 e5 e6 e7 e8 e9 e10
  obtain ⟨⟨f0, f1, f2, f3, f4, f5⟩, f6, f7, f8, f9, f10⟩ := KS.out W2 hbW2
  go_upto_region 7 with (go_at_call 21; refine Calls.mono (SO _).out ?_; rintro e w3 ⟨rfl, hb3⟩; have hB3 := hbW2.trans (hb3.mono hbW2.size); have hs3 := hb3.size)
  have hbW3 : Below W0.heap.size W0 (w3.alloc (.cells #[.int .i64 0, .int .i64 0] 48)) := hB3.alloc hB3.size _
  have u30 : (w3.alloc (.cells #[.int .i64 0, .int .i64 0] 48)).cell? ⟨w3.heap.size, 0, none⟩ = some (.int .i64 0) := by simp [go_sem]
  have u31 : (w3.alloc (.cells #[.int .i64 0, .int .i64 0] 48)).cell? ⟨w3.heap.size, 0 + 1, none⟩ = some (.int .i64 0) := by simp [go_sem]
  have hlt3 : w3.heap.size < (w3.alloc (.cells #[.int .i64 0, .int .i64 0] 48)).heap.size := by simp
  have HX3 : Below W2.heap.size W2 (w3.alloc (.cells #[.int .i64 0, .int .i64 0] 48)) := hb3.alloc hb3.size _
  generalize (w3.alloc (.cells #[.int .i64 0, .int .i64 0] 48)) = W3 at HX3 hbW3 u30 u31 hlt3 ⊢
  have KU3 := Lib.hid (fun wx (hb : Below W3.heap.size W3 wx) => (show wx.cell? ⟨w3.heap.size, 0, none⟩ = some (.int .i64 0) ∧ wx.cell? ⟨w3.heap.size, 0 + 1, none⟩ = some (.int .i64 0) from by
    have k := (bcell hb).1
    exact ⟨(k _ _ hlt3).trans u30, (k _ _ hlt3).trans u31⟩))
  have hbW23 : Below W2.heap.size W2 W3 := HX3
  clear f0 f1 f2 f3 f4 f5 f6 f7 f8 f9 f10
  obtain ⟨u20', u21'⟩ := KU2.out W3 hbW23
  obtain ⟨⟨f0, f1, f2, f3, f4, f5⟩, f6, f7, f8, f9, f10⟩ := KS.out W3 hbW3
  go_upto_region 15 with (first | (go_at_call 22; refine Calls.mono (RM _).out ?_; rintro e w4 ⟨rfl, hb4⟩; obtain ⟨⟨g0, g1, g2, g3, g4, g5⟩, g6, g7, g8, g9, g10⟩ := KS.out w4 (hbW3.trans (hb4.mono hbW3.size))) | (go_at_call 23; refine Calls.mono (CM _).out ?_; rintro e w5 ⟨rfl, hb5⟩; have hB5 := hb4.trans (hb5.mono hb4.size); obtain ⟨u20b, u21b⟩ := KU2.out w5 (hbW23.trans (hB5.mono hbW23.size))) | (go_at_call 24; (with_reducible refine (MO _).out.mono ?_); rintro e wm ⟨rfl, rfl⟩))
  clear f0 f1 f2 f3 f4 f5 f6 f7 f8 f9 f10 g0 g1 g2 g3 g4 g5 g6 g7 g8 g9 g10 u20' u21' u30 u31 u20 u21 u20b u21b
  have KXa := Lib.hid (fun wx (hb : Below W3.heap.size W3 wx) => (show Below W3.heap.size W3 wx ∧ wx.cell? ⟨w.heap.size, 0, none⟩ = some (.int .i64 ps) ∧ wx.cell? ⟨w.heap.size, 0 + 1, none⟩ = some (.int .i64 pr) ∧ wx.cell? ⟨w.heap.size, 0 + 2, none⟩ = some (.int .i64 pm) ∧ wx.cell? ⟨w.heap.size, 0 + 3, none⟩ = some (.int .i64 pg) ∧ wx.cell? ⟨w.heap.size, 0 + 4, none⟩ = some (.int .i64 plo) ∧ wx.cell? ⟨w.heap.size, 0 + 5, none⟩ = some (.int .i64 phi) ∧ wx.cell? ⟨w.heap.size + 1, 0, none⟩ = some (.string nm) ∧ wx.cell? ⟨w.heap.size + 1, 0 + 1, none⟩ = some (.int .i64 lo) ∧ wx.cell? ⟨w.heap.size + 1, 0 + 2, none⟩ = some (.int .i64 hi) ∧ wx.cell? ⟨w.heap.size + 1, 1, none⟩ = some (.int .i64 lo) ∧ wx.cell? ⟨w.heap.size + 1, 2, none⟩ = some (.int .i64 hi) ∧ wx.cell? ⟨w2.heap.size, 0, none⟩ = some (.int .i64 x1) ∧ wx.cell? ⟨w2.heap.size, 0 + 1, none⟩ = some (.int .i64 y1) ∧ wx.cell? ⟨w3.heap.size, 0, none⟩ = some (.int .i64 0) ∧ wx.cell? ⟨w3.heap.size, 0 + 1, none⟩ = some (.int .i64 0) from by
    obtain ⟨⟨a0, a1, a2, a3, a4, a5⟩, a6, a7, a8, a9, a10⟩ := KS.out wx (hbW3.trans (hb.mono hbW3.size))
    obtain ⟨b0, b1⟩ := KU2.out wx (hbW23.trans (hb.mono hbW23.size))
    obtain ⟨c0, c1⟩ := KU3.out wx hb
    exact ⟨hb, a0, a1, a2, a3, a4, a5, a6, a7, a8, a9, a10, b0, b1, c0, c1⟩))
  have Da := Lib.hid (hB5.drew)
  go_region_held3 (fun wx => Below W3.heap.size W3 wx ∧ wx.cell? ⟨w.heap.size, 0, none⟩ = some (.int .i64 ps) ∧ wx.cell? ⟨w.heap.size, 0 + 1, none⟩ = some (.int .i64 pr) ∧ wx.cell? ⟨w.heap.size, 0 + 2, none⟩ = some (.int .i64 pm) ∧ wx.cell? ⟨w.heap.size, 0 + 3, none⟩ = some (.int .i64 pg) ∧ wx.cell? ⟨w.heap.size, 0 + 4, none⟩ = some (.int .i64 plo) ∧ wx.cell? ⟨w.heap.size, 0 + 5, none⟩ = some (.int .i64 phi) ∧ wx.cell? ⟨w.heap.size + 1, 0, none⟩ = some (.string nm) ∧ wx.cell? ⟨w.heap.size + 1, 0 + 1, none⟩ = some (.int .i64 lo) ∧ wx.cell? ⟨w.heap.size + 1, 0 + 2, none⟩ = some (.int .i64 hi) ∧ wx.cell? ⟨w.heap.size + 1, 1, none⟩ = some (.int .i64 lo) ∧ wx.cell? ⟨w.heap.size + 1, 2, none⟩ = some (.int .i64 hi) ∧ wx.cell? ⟨w2.heap.size, 0, none⟩ = some (.int .i64 x1) ∧ wx.cell? ⟨w2.heap.size, 0 + 1, none⟩ = some (.int .i64 y1) ∧ wx.cell? ⟨w3.heap.size, 0, none⟩ = some (.int .i64 0) ∧ wx.cell? ⟨w3.heap.size, 0 + 1, none⟩ = some (.int .i64 0)) (first | assumption | (exact KXa.out _ Da.out) | (exact KXa.out _ (Below.trans (And.left (by assumption)) (Below.mono hbx (Below.size (And.left (by assumption))))))) (first | (go_at_call 26; refine Calls.mono (RL1 _).out ?_; rintro e wa ⟨rfl, hbx⟩) | (go_at_call 27; refine Calls.mono (RH1 _).out ?_; rintro e wb ⟨rfl, hbx⟩) | (go_at_call 25; refine Calls.mono (RO1 _).out ?_; rintro e wc ⟨rfl, hbx⟩))
  have HBX : Below W3.heap.size W3 wc := And.left (by assumption)
  obtain ⟨-, n0, n1, n2, n3, n4, n5, n6, n7, n8, n9, n10, n11, n12, n13, n14⟩ := KXa.out wc HBX
  go_wp2_with (go_at_call 28; refine Calls.mono (RS _).out ?_; rintro e w6 ⟨rfl, hb6⟩; have hB6 := HBX.trans (hb6.mono HBX.size); obtain ⟨-, k0, k1, k2, k3, k4, k5, k6, k7, k8, k9, k10, k11, k12, k13, k14⟩ := KXa.out w6 hB6)
  go_ret
  exact ⟨rfl, LW.out _ (hbW3.trans (hB6.mono hbW3.size))⟩
set_option maxHeartbeats 4000000 in
set_option maxRecDepth 20000 in
theorem fitSizes_ff {p : Md} {m c : Int} {s : Sn} (hp : MdOk p) (hv : allIn 0 400 [m] = false) (hs : snCode s = c) (hc0 : c ≠ 0) (hsz : s.nm.size ≤ maxLen) (hshort : s.nm.size ≤ 30) (w : World) :
    Calls Try.prog 4 #[mdV p, .int .i64 m, snV s] w fun e w' => e = .returned (.bool true) ∧ Below w.heap.size w w' := by
  have hb := madeB_iff.2 hp
  have SA := fun wx => Lib.hid (sizeAt_any (p := p) (m := m) (c := 2) (by unfold sizeAtCode; rw [hb, hv]; rfl) wx)
  have SO := fun wx => Lib.hid (sizeOver_any (p := p) (s := s) (c := c) (by unfold sizeOverCode; rw [hb, hs]; rfl) hsz wx)
  have CM := fun wx => Lib.hid (made_any (w := wx) (madeCode_ok hp))
  have RM := fun wx => Lib.hid (rmade_any (w := wx) (madeCode_ok hp))
  have RS := fun wx => Lib.hid (rseason_any (w := wx) hs hsz)
  have MO := fun wx => Lib.hid (rmoist_any hv wx)
  have bd : ∀ t, 0 ≤ t → t ≤ 400 → (-1000000000000000 ≤ lowM p t ∧ lowM p t ≤ 1000000000000000) ∧ (-1000000000000000 ≤ hiM p t ∧ hiM p t ≤ 1000000000000000) := fun t t0 t1 => by
    have a := millis_bd (mov_low hp t0 t1)
    have b := millis_bd (mov_hi hp t0 t1)
    unfold lowM hiM
    omega
  have v1 : sizeAtV p m = .agg #[.int .i64 0, .int .i64 0] := by unfold sizeAtV sizeAtCode; rw [hb, hv]; rfl
  rw [v1] at SA
  clear v1
  have v2 : sizeOverV p s = .agg #[.int .i64 0, .int .i64 0] := by unfold sizeOverV sizeOverCode; rw [hb, hs]; simp [hc0]
  rw [v2] at SO
  have hcb : (c == 0) = false := beq_eq_false_iff_ne.2 hc0
  have hcb' : (c != 0) = true := bne_iff_ne.2 hc0
  clear v2 hc0
  clear hp hb hv hs bd
  obtain ⟨nm, lo, hi⟩ := s
  simp only at SO hsz hshort RS ⊢
  obtain ⟨ps, pr, pm, pg, plo, phi⟩ := p
  unfold mdV snV at *
  simp only at SA SO CM RM RS ⊢
  have hn : decide (30 < (nm.size : Int)) = false := decide_eq_false (by omega)
  have hm' : nm.size ≤ 9223372036854775807 := Nat.le_trans hsz (by decide)
  have hB0 : Below w.heap.size w ((w.alloc (.cells #[.int .i64 ps, .int .i64 pr, .int .i64 pm, .int .i64 pg, .int .i64 plo, .int .i64 phi] 44)).alloc (.cells #[.string nm, .int .i64 lo, .int .i64 hi] 46)) := ((Below.refl _ _).alloc (Nat.le_refl _) _).alloc (by simp) _
  go_enter Try.func4, Try.ntmps4
  go_upto_region 1 with fail
  have hs0 : ((w.alloc (.cells #[.int .i64 ps, .int .i64 pr, .int .i64 pm, .int .i64 pg, .int .i64 plo, .int .i64 phi] 44)).alloc (.cells #[.string nm, .int .i64 lo, .int .i64 hi] 46)).heap.size = w.heap.size + 2 := by simp
  have hq : ∀ j (hj : j < 6), ((w.alloc (.cells #[.int .i64 ps, .int .i64 pr, .int .i64 pm, .int .i64 pg, .int .i64 plo, .int .i64 phi] 44)).alloc (.cells #[.string nm, .int .i64 lo, .int .i64 hi] 46)).cell? ⟨w.heap.size, j, none⟩ = #[Value.int .i64 ps, .int .i64 pr, .int .i64 pm, .int .i64 pg, .int .i64 plo, .int .i64 phi][j]? := by
    intro j hj; simp [go_sem]
  have hqs : ∀ j (hj : j < 3), ((w.alloc (.cells #[.int .i64 ps, .int .i64 pr, .int .i64 pm, .int .i64 pg, .int .i64 plo, .int .i64 phi] 44)).alloc (.cells #[.string nm, .int .i64 lo, .int .i64 hi] 46)).cell? ⟨w.heap.size + 1, j, none⟩ = #[Value.string nm, .int .i64 lo, .int .i64 hi][j]? := by
    intro j hj; simp [go_sem]
  generalize ((w.alloc (.cells #[.int .i64 ps, .int .i64 pr, .int .i64 pm, .int .i64 pg, .int .i64 plo, .int .i64 phi] 44)).alloc (.cells #[.string nm, .int .i64 lo, .int .i64 hi] 46)) = W0 at hB0 hs0 hq hqs ⊢
  have HB0 := Lib.hid hB0
  have LW := Lib.hid (fun wx (hb : Below W0.heap.size W0 wx) => (show Below w.heap.size w wx from HB0.out.trans (hb.mono HB0.out.size)))
  have KS := Lib.hid (fun wx (hb : Below W0.heap.size W0 wx) => (show (wx.cell? ⟨w.heap.size, 0, none⟩ = some (.int .i64 ps) ∧ wx.cell? ⟨w.heap.size, 0 + 1, none⟩ = some (.int .i64 pr) ∧ wx.cell? ⟨w.heap.size, 0 + 2, none⟩ = some (.int .i64 pm) ∧ wx.cell? ⟨w.heap.size, 0 + 3, none⟩ = some (.int .i64 pg) ∧ wx.cell? ⟨w.heap.size, 0 + 4, none⟩ = some (.int .i64 plo) ∧ wx.cell? ⟨w.heap.size, 0 + 5, none⟩ = some (.int .i64 phi)) ∧ wx.cell? ⟨w.heap.size + 1, 0, none⟩ = some (.string nm) ∧ wx.cell? ⟨w.heap.size + 1, 0 + 1, none⟩ = some (.int .i64 lo) ∧ wx.cell? ⟨w.heap.size + 1, 0 + 2, none⟩ = some (.int .i64 hi) ∧ wx.cell? ⟨w.heap.size + 1, 1, none⟩ = some (.int .i64 lo) ∧ wx.cell? ⟨w.heap.size + 1, 2, none⟩ = some (.int .i64 hi) from by
    have k := (bcell hb).1
    exact ⟨⟨(k _ _ (by omega)).trans (hq 0 (by omega)), (k _ _ (by omega)).trans (hq 1 (by omega)), (k _ _ (by omega)).trans (hq 2 (by omega)), (k _ _ (by omega)).trans (hq 3 (by omega)), (k _ _ (by omega)).trans (hq 4 (by omega)), (k _ _ (by omega)).trans (hq 5 (by omega))⟩, (k _ _ (by omega)).trans (hqs 0 (by omega)), (k _ _ (by omega)).trans (hqs 1 (by omega)), (k _ _ (by omega)).trans (hqs 2 (by omega)), (k _ _ (by omega)).trans (hqs 1 (by omega)), (k _ _ (by omega)).trans (hqs 2 (by omega))⟩))
  obtain ⟨⟨e0, e1, e2, e3, e4, e5⟩, e6, e7, e8, e9, e10⟩ := KS.out W0 (Below.refl _ _)
  clear hq hqs hs0 hB0
  go_upto_region 6 with (first | (go_at_call 8; refine Calls.mono (awake_any _) ?_; rintro e w1 ⟨rfl, hb1⟩; obtain ⟨⟨f0, f1, f2, f3, f4, f5⟩, f6, f7, f8, f9, f10⟩ := KS.out w1 hb1) | (go_at_call 20; refine Calls.mono (SA _).out ?_; rintro e w2 ⟨rfl, hb2⟩; have hB2 := hb1.trans (hb2.mono hb1.size)))
  have hbW2 : Below W0.heap.size W0 (w2.alloc (.cells #[.int .i64 0, .int .i64 0] 48)) := hB2.alloc hB2.size _
  have u20 : (w2.alloc (.cells #[.int .i64 0, .int .i64 0] 48)).cell? ⟨w2.heap.size, 0, none⟩ = some (.int .i64 0) := by simp [go_sem]
  have u21 : (w2.alloc (.cells #[.int .i64 0, .int .i64 0] 48)).cell? ⟨w2.heap.size, 0 + 1, none⟩ = some (.int .i64 0) := by simp [go_sem]
  have hlt2 : w2.heap.size < (w2.alloc (.cells #[.int .i64 0, .int .i64 0] 48)).heap.size := by simp
  generalize (w2.alloc (.cells #[.int .i64 0, .int .i64 0] 48)) = W2 at hbW2 u20 u21 hlt2 ⊢
  have KU2 := Lib.hid (fun wx (hb : Below W2.heap.size W2 wx) => (show wx.cell? ⟨w2.heap.size, 0, none⟩ = some (.int .i64 0) ∧ wx.cell? ⟨w2.heap.size, 0 + 1, none⟩ = some (.int .i64 0) from by
    have k := (bcell hb).1
    exact ⟨(k _ _ hlt2).trans u20, (k _ _ hlt2).trans u21⟩))
  clear f0 f1 f2 f3 f4 f5 f6 f7 f8 f9 f10 e0 e1 e2 e3 e4 e5 e6 e7 e8 e9 e10
  obtain ⟨⟨f0, f1, f2, f3, f4, f5⟩, f6, f7, f8, f9, f10⟩ := KS.out W2 hbW2
  go_upto_region 7 with (go_at_call 21; refine Calls.mono (SO _).out ?_; rintro e w3 ⟨rfl, hb3⟩; have hB3 := hbW2.trans (hb3.mono hbW2.size); have hs3 := hb3.size)
  have hbW3 : Below W0.heap.size W0 (w3.alloc (.cells #[.int .i64 0, .int .i64 0] 48)) := hB3.alloc hB3.size _
  have u30 : (w3.alloc (.cells #[.int .i64 0, .int .i64 0] 48)).cell? ⟨w3.heap.size, 0, none⟩ = some (.int .i64 0) := by simp [go_sem]
  have u31 : (w3.alloc (.cells #[.int .i64 0, .int .i64 0] 48)).cell? ⟨w3.heap.size, 0 + 1, none⟩ = some (.int .i64 0) := by simp [go_sem]
  have hlt3 : w3.heap.size < (w3.alloc (.cells #[.int .i64 0, .int .i64 0] 48)).heap.size := by simp
  have HX3 : Below W2.heap.size W2 (w3.alloc (.cells #[.int .i64 0, .int .i64 0] 48)) := hb3.alloc hb3.size _
  generalize (w3.alloc (.cells #[.int .i64 0, .int .i64 0] 48)) = W3 at HX3 hbW3 u30 u31 hlt3 ⊢
  have KU3 := Lib.hid (fun wx (hb : Below W3.heap.size W3 wx) => (show wx.cell? ⟨w3.heap.size, 0, none⟩ = some (.int .i64 0) ∧ wx.cell? ⟨w3.heap.size, 0 + 1, none⟩ = some (.int .i64 0) from by
    have k := (bcell hb).1
    exact ⟨(k _ _ hlt3).trans u30, (k _ _ hlt3).trans u31⟩))
  have hbW23 : Below W2.heap.size W2 W3 := HX3
  clear f0 f1 f2 f3 f4 f5 f6 f7 f8 f9 f10
  obtain ⟨u20', u21'⟩ := KU2.out W3 hbW23
  obtain ⟨⟨f0, f1, f2, f3, f4, f5⟩, f6, f7, f8, f9, f10⟩ := KS.out W3 hbW3
  go_upto_region 17 with (first | (go_at_call 22; refine Calls.mono (RM _).out ?_; rintro e w4 ⟨rfl, hb4⟩; obtain ⟨⟨g0, g1, g2, g3, g4, g5⟩, g6, g7, g8, g9, g10⟩ := KS.out w4 (hbW3.trans (hb4.mono hbW3.size))) | (go_at_call 23; refine Calls.mono (CM _).out ?_; rintro e w5 ⟨rfl, hb5⟩; have hB5 := hb4.trans (hb5.mono hb4.size); obtain ⟨u20b, u21b⟩ := KU2.out w5 (hbW23.trans (hB5.mono hbW23.size))) | (go_at_call 24; (with_reducible refine (MO _).out.mono ?_); rintro e wm ⟨rfl, rfl⟩))
  clear f0 f1 f2 f3 f4 f5 f6 f7 f8 f9 f10 g0 g1 g2 g3 g4 g5 g6 g7 g8 g9 g10 u20' u21' u30 u31 u20 u21 u20b u21b
  have KXa := Lib.hid (fun wx (hb : Below W3.heap.size W3 wx) => (show Below W3.heap.size W3 wx ∧ wx.cell? ⟨w.heap.size, 0, none⟩ = some (.int .i64 ps) ∧ wx.cell? ⟨w.heap.size, 0 + 1, none⟩ = some (.int .i64 pr) ∧ wx.cell? ⟨w.heap.size, 0 + 2, none⟩ = some (.int .i64 pm) ∧ wx.cell? ⟨w.heap.size, 0 + 3, none⟩ = some (.int .i64 pg) ∧ wx.cell? ⟨w.heap.size, 0 + 4, none⟩ = some (.int .i64 plo) ∧ wx.cell? ⟨w.heap.size, 0 + 5, none⟩ = some (.int .i64 phi) ∧ wx.cell? ⟨w.heap.size + 1, 0, none⟩ = some (.string nm) ∧ wx.cell? ⟨w.heap.size + 1, 0 + 1, none⟩ = some (.int .i64 lo) ∧ wx.cell? ⟨w.heap.size + 1, 0 + 2, none⟩ = some (.int .i64 hi) ∧ wx.cell? ⟨w.heap.size + 1, 1, none⟩ = some (.int .i64 lo) ∧ wx.cell? ⟨w.heap.size + 1, 2, none⟩ = some (.int .i64 hi) ∧ wx.cell? ⟨w2.heap.size, 0, none⟩ = some (.int .i64 0) ∧ wx.cell? ⟨w2.heap.size, 0 + 1, none⟩ = some (.int .i64 0) ∧ wx.cell? ⟨w3.heap.size, 0, none⟩ = some (.int .i64 0) ∧ wx.cell? ⟨w3.heap.size, 0 + 1, none⟩ = some (.int .i64 0) from by
    obtain ⟨⟨a0, a1, a2, a3, a4, a5⟩, a6, a7, a8, a9, a10⟩ := KS.out wx (hbW3.trans (hb.mono hbW3.size))
    obtain ⟨b0, b1⟩ := KU2.out wx (hbW23.trans (hb.mono hbW23.size))
    obtain ⟨c0, c1⟩ := KU3.out wx hb
    exact ⟨hb, a0, a1, a2, a3, a4, a5, a6, a7, a8, a9, a10, b0, b1, c0, c1⟩))
  have HBX := hB5
  obtain ⟨-, n0, n1, n2, n3, n4, n5, n6, n7, n8, n9, n10, n11, n12, n13, n14⟩ := KXa.out w5 HBX
  go_wp2_with (go_at_call 28; refine Calls.mono (RS _).out ?_; rintro e w6 ⟨rfl, hb6⟩; have hB6 := HBX.trans (hb6.mono HBX.size); obtain ⟨-, k0, k1, k2, k3, k4, k5, k6, k7, k8, k9, k10, k11, k12, k13, k14⟩ := KXa.out w6 hB6)
  go_ret
  exact ⟨rfl, LW.out _ (hbW3.trans (hB6.mono hbW3.size))⟩
theorem fitSizes_law {p : Md} {m : Int} {s : Sn} (hsz : s.nm.size ≤ maxLen) (w : World) :
    Calls Try.prog 4 #[mdV p, .int .i64 m, snV s] w fun e w' => e = .returned (.bool true) ∧ Below w.heap.size w w' := by
  by_cases hl : 30 < s.nm.size
  · exact fitSizes_long hsz hl w
  · cases hp : madeB p
    · exact fitSizes_bad hp hsz (by omega) w
    · have hok := madeB_iff.1 hp
      cases hv : allIn 0 400 [m]
      · by_cases hc : snCode s = 0
        · exact fitSizes_fg hok hv hc hsz (by omega) w
        · exact fitSizes_ff hok hv rfl hc hsz (by omega) w
      · by_cases hc : snCode s = 0
        · exact fitSizes_gg hok hv hc hsz (by omega) w
        · exact fitSizes_gf hok hv rfl hc hsz (by omega) w
theorem fitSizes_walk (p : Md) (m : Int) (s : Sn) (hsz : s.nm.size ≤ maxLen) (w : World) :
    Calls Try.prog 4 #[mdV p, .int .i64 m, snV s] w fun e w' => e = .returned (.bool true) ∧ Below w.heap.size w w' := fitSizes_law hsz w
end Go.Proofs.Ytffmaoalnilkkaa
