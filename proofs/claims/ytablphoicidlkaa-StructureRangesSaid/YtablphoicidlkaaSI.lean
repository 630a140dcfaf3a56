/- Walks over beams: the terms of a moment. -/
import Derived.Test.YtablphoicidlkaaSH
namespace Go.Proofs.Ytablphoicidlkaa
open Go.RowKit

set_option maxHeartbeats 8000000 in
set_option maxRecDepth 20000 in
theorem momentTerms_any {b : Bm} {A : Option Addr} {n c : Nat} {S x : Int} {l : List Pt} (hb : BmOk b) (hl : WtOk b.s l S) (x0 : 0 ≤ x) (x1 : x ≤ b.s) (w : World) (h : PtRow w A n l) :
    Calls Try.prog 145 #[bmV b, buV A n c S, .int .i64 x] w (MtOut b l S x w) := by
  have HR := Lib.hid h
  have hle : l.length ≤ n := by have := h.1; omega
  have hge : n ≤ l.length := by have := h.1; omega
  have hn8 : n ≤ 8 := by have := hl.len; omega
  have HWT := Lib.hid hl
  have hs0 := hb.s0; have hs1 := hb.s1; have hS0 := hl.S0; have hS1 := hl.S1
  have RE := Lib.hid (fun wx (hx : Below w.heap.size w wx) => reactions_any (c := c) hb hl wx (HR.out.below hx))
  obtain ⟨m1, m2, m3⟩ := mom_bds hb hl x0 x1
  obtain ⟨h1, h2, h3⟩ := fr_take_bd hb hl l.length
  rw [List.take_length] at h1 h2 h3
  have HT : Hid (∀ zs : List Int, sumL id zs = frM b l S + frR b l S * x + -S * x * x + sumL (cutM b x) (l.take n) → sumL id zs = mom b l S x) := Lib.hid (fun zs hz => by rw [hz, List.take_of_length_le hle]; rfl)
  have E1 : Ev b.s b.s 2000 := .of (by omega)
  have E2 : Ev x x 2000 := .of (by omega)
  have E3 : Ev S S 20000 := .of (by omega)
  have E4 : Ev (frR b l S) (frR b l S) 1000000000000 := .of h1
  have e1 : wrap64 (frR b l S * x) = frR b l S * x := by (apply Ev.e; repeat' (first | with_reducible assumption | with_reducible apply Ev.wrap | with_reducible apply Ev.mul | with_reducible apply Ev.add | with_reducible apply Ev.sub | with_reducible apply Ev.neg | exact Ev.lit _ | (decide +kernel)))
  have e2 : wrap64 (-S * x) = -S * x := by (apply Ev.e; repeat' (first | with_reducible assumption | with_reducible apply Ev.wrap | with_reducible apply Ev.mul | with_reducible apply Ev.add | with_reducible apply Ev.sub | with_reducible apply Ev.neg | exact Ev.lit _ | (decide +kernel)))
  have e3 : wrap64 (-S * x * x) = -S * x * x := by (apply Ev.e; repeat' (first | with_reducible assumption | with_reducible apply Ev.wrap | with_reducible apply Ev.mul | with_reducible apply Ev.add | with_reducible apply Ev.sub | with_reducible apply Ev.neg | exact Ev.lit _ | (decide +kernel)))
  clear h hb hl m1 m2 m3 h1 h2 h3 E3 E4
  have hbv : bmV b = .agg #[.int .i64 b.s, .int .i64 b.w, .int .i64 b.t, .int .i64 b.e] := rfl
  unfold buV frV3 at *
  rw [hbv] at RE ⊢
  clear hbv
  generalize frR b l S = rr at *
  generalize frQ b l S = qq at *
  generalize frM b l S = mm at *
  generalize hbw : b.w = ww at *
  generalize hbt : b.t = tt at *
  generalize hbe : b.e = en at *
  clear hbw hbt hbe
  have hB1 : Hid (Below w.heap.size w ((w.alloc (.cells #[.int .i64 b.s, .int .i64 ww, .int .i64 tt, .int .i64 en] 23)).alloc (.cells #[.slice A n c, .int .i64 S] 26))) := Lib.hid (((Below.refl _ _).alloc (Nat.le_refl _) _).alloc (by simp) _)
  go_enter Try.func145, Try.ntmps145
  go_upto_region 2 with (go_at_call 91; (refine Calls.mono (RE.out _ hB1.out) ?_); rintro e w1 ⟨rfl, hb1⟩)
  have hz1 := hb1.size
  simp at hz1
  obtain ⟨w2, he2⟩ : ∃ w2, w1.alloc (.cells #[.int .i64 rr, .int .i64 qq, .int .i64 mm] 151) = w2 := ⟨_, rfl⟩
  have hz2 : w2.heap.size = w1.heap.size + 1 := by rw [← he2]; simp
  have hB12 : Hid (Below w1.heap.size w1 w2) := Lib.hid (by rw [← he2]; exact (Below.refl _ _).alloc (Nat.le_refl _) _)
  have hB2 : Hid (Below w.heap.size w w2) := Lib.hid ((hB1.out.trans (hb1.mono (by simp; try omega))).trans (hB12.out.mono (by omega)))
  have HC := Lib.hid (fun wx (hbx : Below w2.heap.size w2 wx) => (show wx.cell? ⟨w.heap.size, 0, none⟩ = some (.int .i64 b.s) ∧ wx.cell? ⟨w.heap.size + 1, 0, none⟩ = some (.slice A n c) ∧ wx.cell? ⟨w.heap.size + 1, 1, none⟩ = some (.int .i64 S) ∧ wx.cell? ⟨w1.heap.size, 0, none⟩ = some (.int .i64 rr) ∧ wx.cell? ⟨w1.heap.size, 2, none⟩ = some (.int .i64 mm) from by
    have k := (bcell hbx).1
    have k2 := (bcell hB12.out).1
    have k1 := (bcell hb1).1
    refine ⟨(k _ _ (by omega)).trans ((k2 _ _ (by omega)).trans ((k1 _ _ (by simp; try omega)).trans (by simp [go_sem]))), (k _ _ (by omega)).trans ((k2 _ _ (by omega)).trans ((k1 _ _ (by simp; try omega)).trans (by simp [go_sem]))), (k _ _ (by omega)).trans ((k2 _ _ (by omega)).trans ((k1 _ _ (by simp; try omega)).trans (by simp [go_sem]))), (k _ _ (by omega)).trans (by rw [← he2]; simp [go_sem]), (k _ _ (by omega)).trans (by rw [← he2]; simp [go_sem])⟩))
  obtain ⟨c0, c1, c2, c3, c4⟩ := HC.out w2 (Below.refl _ _)
  rw [he2]
  clear he2 hb1
  have HZ2 := Lib.hid hz2
  have hl0 : w.heap.size < w2.heap.size := by omega
  have hl1 : w.heap.size + 1 < w2.heap.size := by omega
  have hl2 : w1.heap.size < w2.heap.size := by omega
  clear hz2
  generalize hB : w2.heap.size = B at *
  go_wp2
  go_loopw [8, 31] (fun t i wr => ∃ (k m : Nat) (zs : List Int), k ≤ n ∧ i = .int .i64 k ∧ m ≤ 3 + k ∧ wr.ownsRow B 3 1 t m (zs.map (Value.int .i64)) ∧ sumL id zs = mm + rr * x + -S * x * x + sumL (cutM b x) (l.take k) ∧ Below B w2 wr) (fun _ i _ => n - (intOf i).toNat)
  case atStart =>
    refine ⟨0, 3, [mm, rr * x, -S * x * x], Nat.zero_le _, rfl, by omega, ?_, by simp [sumL]; omega, (Below.refl _ _).alloc (by omega) _⟩
    rw [← hB]
    exact World.ownsRow_lit _ _ _ (Nat.le_refl _) (by decide) rfl
  case round =>
    obtain ⟨k, m, zs, hk, rfl, hm, hown, hsum, hbw⟩ := hrel
    have HB := Lib.hid hbw
    have HO := Lib.hid hown
    have HSU := Lib.hid hsum
    obtain ⟨d0, d1, d2, d3, d4⟩ := HC.out wr hbw
    have hwsz := hbw.size
    have hl3 : w.heap.size < wr.heap.size := by omega
    have hl4 : w.heap.size + 1 < wr.heap.size := by omega
    have hBw : B ≤ wr.heap.size := by omega
    have HBW := Lib.hid (hB2.out.trans (hbw.mono (by omega)))
    clear hbw hown hsum c0 c1 c2 c3 c4 e1 e2 e3
    by_cases hlt : k < n
    · have hkl : k < l.length := by omega
      obtain ⟨blk, off, rfl, hblk, hx⟩ := HR.out.2 (by omega)
      obtain ⟨hp0, hp1⟩ := (hx k hkl).below HBW.out hblk
      have hpo := HWT.out.pt l[k] (List.getElem_mem hkl)
      have HS := Lib.hid (sumL_take_succ (cutM b x) l hkl)
      obtain ⟨p, hpe⟩ : ∃ x, l[k] = x := ⟨_, rfl⟩
      rw [hpe] at hp0 hp1 hpo HS
      clear hx hpe
      obtain ⟨a, v⟩ := p
      obtain ⟨a0, a1, n0, n1⟩ := hpo
      simp only at hp0 hp1 a0 a1 n0 n1
      have hl5 : blk < wr.heap.size := by omega
      by_cases hax : a ≤ x
      · have hd : decide (a ≤ x) = true := decide_eq_true hax
        have HCUT : Hid (cutM b x ⟨a, v⟩ = -2 * b.s * v * (x - a)) := Lib.hid (by unfold cutM; simp only [hd, cond_true])
        have E5 : Ev v v 2000 := .of (by omega)
        have E6 : Ev a a 2000 := .of (by omega)
        have e1 : wrap64 (-2 * b.s * v) = -2 * b.s * v := by (apply Ev.e; repeat' (first | with_reducible assumption | with_reducible apply Ev.wrap | with_reducible apply Ev.mul | with_reducible apply Ev.add | with_reducible apply Ev.sub | with_reducible apply Ev.neg | exact Ev.lit _ | (decide +kernel)))
        have e2 : wrap64 (-2 * b.s * v * (x - a)) = -2 * b.s * v * (x - a) := by (apply Ev.e; repeat' (first | with_reducible assumption | with_reducible apply Ev.wrap | with_reducible apply Ev.mul | with_reducible apply Ev.add | with_reducible apply Ev.sub | with_reducible apply Ev.neg | exact Ev.lit _ | (decide +kernel)))
        clear E5 E6 E1 E2
        have HOW : Hid (((wr.alloc (.cells #[.int .i64 a, .int .i64 v] 90)).alloc (.cells #[.int .i64 (-2 * b.s * v * (x - a))] 3)).ownsRow B 3 1 u8 m (zs.map (Value.int .i64))) := Lib.hid ((HO.out.alloc _).alloc _)
        have HRW : Hid (IntRow ((wr.alloc (.cells #[.int .i64 a, .int .i64 v] 90)).alloc (.cells #[.int .i64 (-2 * b.s * v * (x - a))] 3)) (some ⟨wr.heap.size + 1, 0, none⟩) 1 [-2 * b.s * v * (x - a)]) := Lib.hid (by
          have := intRow_new (wr.alloc (.cells #[.int .i64 a, .int .i64 v] 90)) [-2 * b.s * v * (x - a)] 3 _ rfl (n := 1) rfl
          simpa using this)
        go_wp2_with (at_builtin; refine wpList_append_ints rfl _ _ rfl rfl rfl HOW.out HRW.out (by omega) (by simp; omega) ?_; intro v4 w4 hown4 hgrow4 hloc4)
        refine ⟨⟨k + 1, m + 1, zs ++ [-2 * b.s * v * (x - a)], by omega, by go_num, by omega, by rw [List.map_append]; exact hown4, ?_, below_own ((HB.out.alloc hBw _).alloc (by simp; omega) _) (by simp; omega) HOW.out hgrow4⟩, by simp [intOf]; omega⟩
        rw [sumL_append, sumL_one, HSU.out, HS.out, HCUT.out]
        show _ + -2 * b.s * v * (x - a) = _
        omega
      · have hd : decide (a ≤ x) = false := decide_eq_false hax
        have HCUT : Hid (cutM b x ⟨a, v⟩ = 0) := Lib.hid (by unfold cutM; simp only [hd, cond_false])
        clear E1 E2
        go_wp2
        go_roundw
        case rel => exact ⟨k + 1, m, zs, by omega, by go_num, by omega, HO.out.alloc _, by rw [HSU.out, HS.out, HCUT.out]; omega, HB.out.alloc hBw _⟩
        case measure => simp [intOf]; omega
    · obtain rfl : k = n := by omega
      obtain ⟨A', c', rfl, hrow⟩ := own_ints HO.out
      have HRR := Lib.hid hrow
      clear hrow
      go_wp2
      go_ret
      exact ⟨A', m, c', zs, rfl, HRR.out, by omega, HT.out zs HSU.out, HBW.out⟩
end Go.Proofs.Ytablphoicidlkaa
