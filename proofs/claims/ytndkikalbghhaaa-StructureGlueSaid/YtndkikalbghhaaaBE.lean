/- The law of glue, walked over its callees' contracts. -/
import Derived.Test.YtndkikalbghhaaaBD
namespace Go.Proofs.Ytndkikalbghhaaa
open Go.RowKit

theorem fr1_shape (e n d : Int) : ∃ nn de eh : Int, fr1 e n d = .tuple #[.agg #[.int .i64 nn, .int .i64 de], .int .i64 eh] := by
  unfold fr1 frV
  cases e == 0
  · exact ⟨0, 0, e, rfl⟩
  · exact ⟨_, _, 0, rfl⟩
set_option maxHeartbeats 8000000 in
set_option maxRecDepth 20000 in
theorem glue_bad (x y z ax sh pu g wd ap : Int) (h : carE x y z ax sh pu = 2) (w : World) :
    Calls Try.prog 16 #[arV x y z, .agg #[.int .i64 ax, .int .i64 sh, .int .i64 pu], arV g wd ap] w fun e w' => e = .returned (.bool true) ∧ Below w.heap.size w w' := by
  have AW := fun wx => Lib.hid (awake_any wx)
  have CA := fun wx => Lib.hid (carries_any x y z ax sh pu wx)
  have CC := fun wx => Lib.hid (rcheckCarries_any x y z ax sh pu wx)
  rw [h] at CA CC
  replace CA := fun wx => Lib.hid (show Calls Try.prog 83 #[arV x y z, .int .i64 ax, .int .i64 sh, .int .i64 pu] wx (fun e w' => e = .returned (.tuple #[.int .i64 0, .int .i64 2]) ∧ Below wx.heap.size wx w') from (CA wx).out)
  clear h
  obtain ⟨nn, de, eh, hq⟩ := fr1_shape (hinE g wd ap) (g * 981 * wd) (200000 * ap)
  have HI := fun wx => Lib.hid (hinge_any g wd ap wx)
  have RH := fun wx => Lib.hid (rhinge_any g wd ap wx)
  rw [hq] at HI RH
  clear hq
  unfold arV at *
  go_enter Try.func16, Try.ntmps16
  go_upto_region 1 with fail
  obtain ⟨w0, hw0⟩ : ∃ w0, (((w.alloc (.cells #[.int .i64 x, .int .i64 y, .int .i64 z] 136)).alloc (.cells #[.int .i64 ax, .int .i64 sh, .int .i64 pu] 138)).alloc (.cells #[.int .i64 g, .int .i64 wd, .int .i64 ap] 136)) = w0 := ⟨_, rfl⟩
  have HB1 : Hid (Below w.heap.size w w0) := Lib.hid (by rw [← hw0]; exact ((((Below.refl _ _).alloc (Nat.le_refl _) _).alloc (by simp; try omega) _).alloc (by simp; try omega) _))
  have HC := Lib.hid (fun wx (hb : Below w0.heap.size w0 wx) => (show wx.cell? ⟨w.heap.size, 0, none⟩ = some (.int .i64 x) ∧ wx.cell? ⟨w.heap.size, 1, none⟩ = some (.int .i64 y) ∧ wx.cell? ⟨w.heap.size, 2, none⟩ = some (.int .i64 z) ∧ wx.cell? ⟨w.heap.size + 1, 0, none⟩ = some (.int .i64 ax) ∧ wx.cell? ⟨w.heap.size + 1, 1, none⟩ = some (.int .i64 sh) ∧ wx.cell? ⟨w.heap.size + 1, 2, none⟩ = some (.int .i64 pu) ∧ wx.cell? ⟨w.heap.size + 2, 0, none⟩ = some (.int .i64 g) ∧ wx.cell? ⟨w.heap.size + 2, 1, none⟩ = some (.int .i64 wd) ∧ wx.cell? ⟨w.heap.size + 2, 2, none⟩ = some (.int .i64 ap) from by
    subst hw0
    obtain ⟨k, kf⟩ := bcell hb
    exact ⟨(k _ _ (by simp; try omega)).trans (by simp [go_sem]), (k _ _ (by simp; try omega)).trans (by simp [go_sem]), (k _ _ (by simp; try omega)).trans (by simp [go_sem]), (k _ _ (by simp; try omega)).trans (by simp [go_sem]), (k _ _ (by simp; try omega)).trans (by simp [go_sem]), (k _ _ (by simp; try omega)).trans (by simp [go_sem]), (k _ _ (by simp; try omega)).trans (by simp [go_sem]), (k _ _ (by simp; try omega)).trans (by simp [go_sem]), (k _ _ (by simp; try omega)).trans (by simp [go_sem])⟩))
  rw [hw0]
  clear hw0
  have HZ0 := Lib.hid (Below.refl w0.heap.size w0)
  obtain ⟨c0, c1, c2, c3, c4, c5, c6, c7, c8⟩ := HC.out w0 HZ0.out
  go_upto_region 5 with (first | (go_at_call 19; ((with_reducible refine Calls.mono (AW _).out ?_)); rintro e w1 ⟨rfl, hb1⟩; have H1 := Lib.hid ((HZ0).out.trans (hb1.mono (HZ0).out.size)); obtain ⟨d1_0, d1_1, d1_2, d1_3, d1_4, d1_5, d1_6, d1_7, d1_8⟩ := HC.out w1 H1.out; clear hb1) | (go_at_call 83; ((with_reducible refine Calls.mono (CA _).out ?_)); rintro e w2 ⟨rfl, hb2⟩; have H2 := Lib.hid ((H1).out.trans (hb2.mono (H1).out.size)); obtain ⟨d2_0, d2_1, d2_2, d2_3, d2_4, d2_5, d2_6, d2_7, d2_8⟩ := HC.out w2 H2.out; clear hb2) | (go_at_call 84; ((with_reducible refine Calls.mono (HI _).out ?_)); rintro e w3 ⟨rfl, hb3⟩; have H3 := Lib.hid ((H2).out.trans (hb3.mono (H2).out.size)); obtain ⟨d3_0, d3_1, d3_2, d3_3, d3_4, d3_5, d3_6, d3_7, d3_8⟩ := HC.out w3 H3.out; clear hb3) | fail)
  obtain ⟨v3, hv3⟩ : ∃ v, w3.alloc (.cells #[.int .i64 nn, .int .i64 de] 30) = v := ⟨_, rfl⟩
  have HV3 : Hid (Below w0.heap.size w0 v3) := Lib.hid (by rw [← hv3]; exact H3.out.alloc H3.out.size _)
  have K3 := Lib.hid (fun wx (hb : Below v3.heap.size v3 wx) => (show wx.cell? ⟨w3.heap.size, 0, none⟩ = some (.int .i64 nn) ∧ wx.cell? ⟨w3.heap.size, 1, none⟩ = some (.int .i64 de) from by
    subst hv3
    have k := (bcell hb).1
    exact ⟨(k _ _ (by simp)).trans (by simp [go_sem]), (k _ _ (by simp)).trans (by simp [go_sem])⟩))
  rw [hv3]
  have HS3 : Hid (Below v3.heap.size v3 v3) := Lib.hid (Below.refl _ _)
  clear hv3
  obtain ⟨f3_0, f3_1, f3_2, f3_3, f3_4, f3_5, f3_6, f3_7, f3_8⟩ := HC.out v3 HV3.out
  clear d3_0 d3_1 d3_2 d3_3 d3_4 d3_5 d3_6 d3_7 d3_8
  clear d2_0 d2_1 d2_2 d2_3 d2_4 d2_5 d2_6 d2_7 d2_8
  clear d1_0 d1_1 d1_2 d1_3 d1_4 d1_5 d1_6 d1_7 d1_8
  go_upto_region 6 with (first | (go_at_call 85; ((with_reducible refine Calls.mono (RH _).out ?_)); rintro e w4 ⟨rfl, hb4⟩; have hl4 := hb4; have H4 := Lib.hid ((HV3).out.trans (hb4.mono (HV3).out.size)); obtain ⟨d4_0, d4_1, d4_2, d4_3, d4_4, d4_5, d4_6, d4_7, d4_8⟩ := HC.out w4 H4.out; clear hb4) | fail)
  have L4 : Hid (Below v3.heap.size v3 w4) := Lib.hid hl4
  clear hl4
  obtain ⟨v4, hv4⟩ : ∃ v, w4.alloc (.cells #[.int .i64 nn, .int .i64 de] 30) = v := ⟨_, rfl⟩
  have HV4 : Hid (Below w0.heap.size w0 v4) := Lib.hid (by rw [← hv4]; exact H4.out.alloc H4.out.size _)
  have K4 := Lib.hid (fun wx (hb : Below v4.heap.size v4 wx) => (show wx.cell? ⟨w4.heap.size, 0, none⟩ = some (.int .i64 nn) ∧ wx.cell? ⟨w4.heap.size, 1, none⟩ = some (.int .i64 de) from by
    subst hv4
    have k := (bcell hb).1
    exact ⟨(k _ _ (by simp)).trans (by simp [go_sem]), (k _ _ (by simp)).trans (by simp [go_sem])⟩))
  have hl5 : Below v3.heap.size v3 v4 := by rw [← hv4]; exact L4.out.alloc L4.out.size _
  rw [hv4]
  have HS4 : Hid (Below v4.heap.size v4 v4) := Lib.hid (Below.refl _ _)
  clear hv4
  obtain ⟨f4_0, f4_1, f4_2, f4_3, f4_4, f4_5, f4_6, f4_7, f4_8⟩ := HC.out v4 HV4.out
  clear d4_0 d4_1 d4_2 d4_3 d4_4 d4_5 d4_6 d4_7 d4_8
  have L5 : Hid (Below v3.heap.size v3 v4) := Lib.hid hl5
  obtain ⟨g0, g1⟩ := K3.out v4 L5.out
  obtain ⟨g2, g3⟩ := K4.out v4 HS4.out
  clear hl5
  go_wp2_with (first | (go_at_call 86; ((with_reducible refine Calls.mono (CC _).out ?_)); rintro e w5 ⟨rfl, hb5⟩; have H5 := Lib.hid ((HV4).out.trans (hb5.mono (HV4).out.size)); obtain ⟨d5_0, d5_1, d5_2, d5_3, d5_4, d5_5, d5_6, d5_7, d5_8⟩ := HC.out w5 H5.out; clear hb5) | fail)
  go_ret
  exact ⟨rfl, HB1.out.trans (H5.out.mono HB1.out.size)⟩
set_option maxHeartbeats 8000000 in
set_option maxRecDepth 20000 in
theorem glue_ok (x y z ax sh pu g wd ap : Int) (h : carE x y z ax sh pu = 0) (w : World) :
    Calls Try.prog 16 #[arV x y z, .agg #[.int .i64 ax, .int .i64 sh, .int .i64 pu], arV g wd ap] w fun e w' => e = .returned (.bool true) ∧ Below w.heap.size w w' := by
  have AW := fun wx => Lib.hid (awake_any wx)
  have CA := fun wx => Lib.hid (carries_any x y z ax sh pu wx)
  have CC := fun wx => Lib.hid (rcheckCarries_any x y z ax sh pu wx)
  have RC := fun wx => Lib.hid (rcarries_any (carE_ok.1 h) wx)
  rw [h] at CA CC
  replace CA := fun wx => Lib.hid (show Calls Try.prog 83 #[arV x y z, .int .i64 ax, .int .i64 sh, .int .i64 pu] wx (fun e w' => e = .returned (.tuple #[.int .i64 (carSum x y z ax sh pu / 10000000), .int .i64 0]) ∧ Below wx.heap.size wx w') from (CA wx).out)
  generalize carSum x y z ax sh pu / 10000000 = cv at *
  clear h
  obtain ⟨nn, de, eh, hq⟩ := fr1_shape (hinE g wd ap) (g * 981 * wd) (200000 * ap)
  have HI := fun wx => Lib.hid (hinge_any g wd ap wx)
  have RH := fun wx => Lib.hid (rhinge_any g wd ap wx)
  rw [hq] at HI RH
  clear hq
  unfold arV at *
  go_enter Try.func16, Try.ntmps16
  go_upto_region 1 with fail
  obtain ⟨w0, hw0⟩ : ∃ w0, (((w.alloc (.cells #[.int .i64 x, .int .i64 y, .int .i64 z] 136)).alloc (.cells #[.int .i64 ax, .int .i64 sh, .int .i64 pu] 138)).alloc (.cells #[.int .i64 g, .int .i64 wd, .int .i64 ap] 136)) = w0 := ⟨_, rfl⟩
  have HB1 : Hid (Below w.heap.size w w0) := Lib.hid (by rw [← hw0]; exact ((((Below.refl _ _).alloc (Nat.le_refl _) _).alloc (by simp; try omega) _).alloc (by simp; try omega) _))
  have HC := Lib.hid (fun wx (hb : Below w0.heap.size w0 wx) => (show wx.cell? ⟨w.heap.size, 0, none⟩ = some (.int .i64 x) ∧ wx.cell? ⟨w.heap.size, 1, none⟩ = some (.int .i64 y) ∧ wx.cell? ⟨w.heap.size, 2, none⟩ = some (.int .i64 z) ∧ wx.cell? ⟨w.heap.size + 1, 0, none⟩ = some (.int .i64 ax) ∧ wx.cell? ⟨w.heap.size + 1, 1, none⟩ = some (.int .i64 sh) ∧ wx.cell? ⟨w.heap.size + 1, 2, none⟩ = some (.int .i64 pu) ∧ wx.cell? ⟨w.heap.size + 2, 0, none⟩ = some (.int .i64 g) ∧ wx.cell? ⟨w.heap.size + 2, 1, none⟩ = some (.int .i64 wd) ∧ wx.cell? ⟨w.heap.size + 2, 2, none⟩ = some (.int .i64 ap) from by
    subst hw0
    obtain ⟨k, kf⟩ := bcell hb
    exact ⟨(k _ _ (by simp; try omega)).trans (by simp [go_sem]), (k _ _ (by simp; try omega)).trans (by simp [go_sem]), (k _ _ (by simp; try omega)).trans (by simp [go_sem]), (k _ _ (by simp; try omega)).trans (by simp [go_sem]), (k _ _ (by simp; try omega)).trans (by simp [go_sem]), (k _ _ (by simp; try omega)).trans (by simp [go_sem]), (k _ _ (by simp; try omega)).trans (by simp [go_sem]), (k _ _ (by simp; try omega)).trans (by simp [go_sem]), (k _ _ (by simp; try omega)).trans (by simp [go_sem])⟩))
  rw [hw0]
  clear hw0
  have HZ0 := Lib.hid (Below.refl w0.heap.size w0)
  obtain ⟨c0, c1, c2, c3, c4, c5, c6, c7, c8⟩ := HC.out w0 HZ0.out
  go_upto_region 5 with (first | (go_at_call 19; ((with_reducible refine Calls.mono (AW _).out ?_)); rintro e w1 ⟨rfl, hb1⟩; have H1 := Lib.hid ((HZ0).out.trans (hb1.mono (HZ0).out.size)); obtain ⟨d1_0, d1_1, d1_2, d1_3, d1_4, d1_5, d1_6, d1_7, d1_8⟩ := HC.out w1 H1.out; clear hb1) | (go_at_call 83; ((with_reducible refine Calls.mono (CA _).out ?_)); rintro e w2 ⟨rfl, hb2⟩; have H2 := Lib.hid ((H1).out.trans (hb2.mono (H1).out.size)); obtain ⟨d2_0, d2_1, d2_2, d2_3, d2_4, d2_5, d2_6, d2_7, d2_8⟩ := HC.out w2 H2.out; clear hb2) | (go_at_call 84; ((with_reducible refine Calls.mono (HI _).out ?_)); rintro e w3 ⟨rfl, hb3⟩; have H3 := Lib.hid ((H2).out.trans (hb3.mono (H2).out.size)); obtain ⟨d3_0, d3_1, d3_2, d3_3, d3_4, d3_5, d3_6, d3_7, d3_8⟩ := HC.out w3 H3.out; clear hb3) | fail)
  obtain ⟨v3, hv3⟩ : ∃ v, w3.alloc (.cells #[.int .i64 nn, .int .i64 de] 30) = v := ⟨_, rfl⟩
  have HV3 : Hid (Below w0.heap.size w0 v3) := Lib.hid (by rw [← hv3]; exact H3.out.alloc H3.out.size _)
  have K3 := Lib.hid (fun wx (hb : Below v3.heap.size v3 wx) => (show wx.cell? ⟨w3.heap.size, 0, none⟩ = some (.int .i64 nn) ∧ wx.cell? ⟨w3.heap.size, 1, none⟩ = some (.int .i64 de) from by
    subst hv3
    have k := (bcell hb).1
    exact ⟨(k _ _ (by simp)).trans (by simp [go_sem]), (k _ _ (by simp)).trans (by simp [go_sem])⟩))
  rw [hv3]
  have HS3 : Hid (Below v3.heap.size v3 v3) := Lib.hid (Below.refl _ _)
  clear hv3
  obtain ⟨f3_0, f3_1, f3_2, f3_3, f3_4, f3_5, f3_6, f3_7, f3_8⟩ := HC.out v3 HV3.out
  clear d3_0 d3_1 d3_2 d3_3 d3_4 d3_5 d3_6 d3_7 d3_8
  clear d2_0 d2_1 d2_2 d2_3 d2_4 d2_5 d2_6 d2_7 d2_8
  clear d1_0 d1_1 d1_2 d1_3 d1_4 d1_5 d1_6 d1_7 d1_8
  go_upto_region 6 with (first | (go_at_call 85; ((with_reducible refine Calls.mono (RH _).out ?_)); rintro e w4 ⟨rfl, hb4⟩; have hl4 := hb4; have H4 := Lib.hid ((HV3).out.trans (hb4.mono (HV3).out.size)); obtain ⟨d4_0, d4_1, d4_2, d4_3, d4_4, d4_5, d4_6, d4_7, d4_8⟩ := HC.out w4 H4.out; clear hb4) | fail)
  have L4 : Hid (Below v3.heap.size v3 w4) := Lib.hid hl4
  clear hl4
  obtain ⟨v4, hv4⟩ : ∃ v, w4.alloc (.cells #[.int .i64 nn, .int .i64 de] 30) = v := ⟨_, rfl⟩
  have HV4 : Hid (Below w0.heap.size w0 v4) := Lib.hid (by rw [← hv4]; exact H4.out.alloc H4.out.size _)
  have K4 := Lib.hid (fun wx (hb : Below v4.heap.size v4 wx) => (show wx.cell? ⟨w4.heap.size, 0, none⟩ = some (.int .i64 nn) ∧ wx.cell? ⟨w4.heap.size, 1, none⟩ = some (.int .i64 de) from by
    subst hv4
    have k := (bcell hb).1
    exact ⟨(k _ _ (by simp)).trans (by simp [go_sem]), (k _ _ (by simp)).trans (by simp [go_sem])⟩))
  have hl5 : Below v3.heap.size v3 v4 := by rw [← hv4]; exact L4.out.alloc L4.out.size _
  rw [hv4]
  have HS4 : Hid (Below v4.heap.size v4 v4) := Lib.hid (Below.refl _ _)
  clear hv4
  obtain ⟨f4_0, f4_1, f4_2, f4_3, f4_4, f4_5, f4_6, f4_7, f4_8⟩ := HC.out v4 HV4.out
  clear d4_0 d4_1 d4_2 d4_3 d4_4 d4_5 d4_6 d4_7 d4_8
  have L5 : Hid (Below v3.heap.size v3 v4) := Lib.hid hl5
  obtain ⟨g0, g1⟩ := K3.out v4 L5.out
  obtain ⟨g2, g3⟩ := K4.out v4 HS4.out
  clear hl5
  go_wp2_with (first | (go_at_call 86; ((with_reducible refine Calls.mono (CC _).out ?_)); rintro e w5 ⟨rfl, hb5⟩; have H5 := Lib.hid ((HV4).out.trans (hb5.mono (HV4).out.size)); obtain ⟨d5_0, d5_1, d5_2, d5_3, d5_4, d5_5, d5_6, d5_7, d5_8⟩ := HC.out w5 H5.out; clear hb5) | (go_at_call 87; ((with_reducible refine Calls.mono (RC _).out ?_)); rintro e w6 ⟨rfl, hb6⟩; have H6 := Lib.hid ((H5).out.trans (hb6.mono (H5).out.size)); obtain ⟨d6_0, d6_1, d6_2, d6_3, d6_4, d6_5, d6_6, d6_7, d6_8⟩ := HC.out w6 H6.out; clear hb6) | fail)
  go_ret
  exact ⟨rfl, HB1.out.trans (H6.out.mono HB1.out.size)⟩
theorem glue_walk (x y z ax sh pu g wd ap : Int) (w : World) :
    Calls Try.prog 16 #[arV x y z, .agg #[.int .i64 ax, .int .i64 sh, .int .i64 pu], arV g wd ap] w fun e w' => e = .returned (.bool true) ∧ Below w.heap.size w w' := by
  rcases carE_two x y z ax sh pu with h | h
  · exact glue_ok x y z ax sh pu g wd ap h w
  · exact glue_bad x y z ax sh pu g wd ap h w
end Go.Proofs.Ytndkikalbghhaaa
