/- Walks over the timber seat: the widest sound rectangle, the reference's. -/
import Derived.Test.YtnjbhidncicfiaaG1
import Derived.Test.YtnjbhidncicfiaaF5
import Derived.BigRegion
namespace Go.Proofs.Ytnjbhidncicfiaa
open Go.Shelf Go.RowKit Go.Lib Go.Sort

theorem kept16 {W wx w' : World} {b a p c k j : Nat} {v0 v1 v2 v3 v4 v5 v6 v7 x0 x1 x2 x3 y0 y1 z0 z1 : Value} (hb : Below wx.heap.size wx w') (h : Below W.heap.size W wx ∧ wx.cell? ⟨b, 0, none⟩ = some v0 ∧ wx.cell? ⟨b, 1, none⟩ = some v1 ∧ wx.cell? ⟨b, 2, none⟩ = some v2 ∧ wx.cell? ⟨b, 3, none⟩ = some v3 ∧ wx.cell? ⟨b, 4, none⟩ = some v4 ∧ wx.cell? ⟨b, 5, none⟩ = some v5 ∧ wx.cell? ⟨b, 6, none⟩ = some v6 ∧ wx.cell? ⟨b, 7, none⟩ = some v7 ∧ wx.cell? ⟨a, 0, none⟩ = some x0 ∧ wx.cell? ⟨a, 0 + 1, none⟩ = some x1 ∧ wx.cell? ⟨a, 0 + 2, none⟩ = some x2 ∧ wx.cell? ⟨a, 0 + 3, none⟩ = some x3 ∧ wx.cell? ⟨p, k, none⟩ = some y0 ∧ wx.cell? ⟨p, j, none⟩ = some y1 ∧ wx.cell? ⟨c, 1, none⟩ = some z0 ∧ wx.cell? ⟨c, 3, none⟩ = some z1) (h0 : b < W.heap.size) (h1 : a < W.heap.size) (h2 : p < W.heap.size) (h3 : c < W.heap.size) : Below W.heap.size W w' ∧ w'.cell? ⟨b, 0, none⟩ = some v0 ∧ w'.cell? ⟨b, 1, none⟩ = some v1 ∧ w'.cell? ⟨b, 2, none⟩ = some v2 ∧ w'.cell? ⟨b, 3, none⟩ = some v3 ∧ w'.cell? ⟨b, 4, none⟩ = some v4 ∧ w'.cell? ⟨b, 5, none⟩ = some v5 ∧ w'.cell? ⟨b, 6, none⟩ = some v6 ∧ w'.cell? ⟨b, 7, none⟩ = some v7 ∧ w'.cell? ⟨a, 0, none⟩ = some x0 ∧ w'.cell? ⟨a, 0 + 1, none⟩ = some x1 ∧ w'.cell? ⟨a, 0 + 2, none⟩ = some x2 ∧ w'.cell? ⟨a, 0 + 3, none⟩ = some x3 ∧ w'.cell? ⟨p, k, none⟩ = some y0 ∧ w'.cell? ⟨p, j, none⟩ = some y1 ∧ w'.cell? ⟨c, 1, none⟩ = some z0 ∧ w'.cell? ⟨c, 3, none⟩ = some z1 := by
  obtain ⟨hb0, c0, c1, c2, c3, c4, c5, c6, c7, c8, c9, c10, c11, c12, c13, c14, c15⟩ := h
  have hs := hb0.size
  have kk : ∀ b o, b < W.heap.size → w'.cell? ⟨b, o, none⟩ = wx.cell? ⟨b, o, none⟩ := fun b o hlt => hb.cell (p := ⟨b, o, none⟩) (Nat.lt_of_lt_of_le hlt hs)
  exact ⟨hb0.trans (hb.mono hs), by rw [kk _ _ h0, c0], by rw [kk _ _ h0, c1], by rw [kk _ _ h0, c2], by rw [kk _ _ h0, c3], by rw [kk _ _ h0, c4], by rw [kk _ _ h0, c5], by rw [kk _ _ h0, c6], by rw [kk _ _ h0, c7], by rw [kk _ _ h1, c8], by rw [kk _ _ h1, c9], by rw [kk _ _ h1, c10], by rw [kk _ _ h1, c11], by rw [kk _ _ h2, c12], by rw [kk _ _ h2, c13], by rw [kk _ _ h3, c14], by rw [kk _ _ h3, c15]⟩
set_option maxHeartbeats 16000000 in
set_option maxRecDepth 20000 in
theorem widRef_any {nm sp : ByteArray} {ln wd th cu mo : Int} {D : Option Addr} {dn dc : Nat} {ds : List Rc} {q X1 Y1 X2 Y2 : Int} {fb : Bool} (hb : BdOk ⟨nm, sp, ln, wd, th, cu, mo, ds⟩) (hq0 : 1 ≤ q) (hq1 : q ≤ ln) (hR : widR ⟨nm, sp, ln, wd, th, cu, mo, ds⟩ q = ⟨X1, Y1, X2, Y2⟩) (hfb : decide (0 < Y2 - Y1) = fb) (w : World) (hd : RcRow w D dn ds) :
    Calls Try.prog 54 #[.agg #[.string nm, .string sp, .int .i64 ln, .int .i64 wd, .int .i64 th, .int .i64 cu, .int .i64 mo, .slice D dn dc], .int .i64 q] w fun e w' => e = .returned (.tuple #[.agg #[.int .i64 X1, .int .i64 Y1, .int .i64 X2, .int .i64 Y2], .bool fb]) ∧ Below w.heap.size w w' := by
  have hdl := hd.1
  have hdn := hb.dn
  simp only at hdn
  have hdm : dn ≤ maxLen := by unfold maxLen; omega
  have hBL : Below w.heap.size w ((w.alloc (.cells #[.string nm, .string sp, .int .i64 ln, .int .i64 wd, .int .i64 th, .int .i64 cu, .int .i64 mo, .slice D dn dc] 34)).alloc (.cells #[.int .i64 0, .int .i64 0, .int .i64 0, .int .i64 0] 75)) := ((Below.refl _ _).alloc (Nat.le_refl _) _).alloc (by simp) _
  have hd1 := RcRow.below hd hBL
  have LX := fun wx hbx => Lib.hid (lines_x (dc := dc) hb wx (RcRow.below hd1 hbx))
  have LY := fun wx hbx => Lib.hid (lines_y (dc := dc) hb wx (RcRow.below hd1 hbx))
  have HD := Lib.hid hd
  have HBL := Lib.hid hBL
  have HBO := Lib.hid hb
  have hl0 := hb.l0; have hl1' := hb.l1; have hw0 := hb.w0; have hw1' := hb.w1
  simp only at hl0 hl1' hw0 hw1'
  have hll := lines_len hb
  have hx2 := (x_first hb).2.1
  have hy2 := (y_first hb).2.1
  have HXI := Lib.hid (fun i (hi : i < (xLines ⟨nm, sp, ln, wd, th, cu, mo, ds⟩).length) => And.intro (line_ge (xLines_asc ⟨nm, sp, ln, wd, th, cu, mo, ds⟩) (x_first hb).1 hi) (line_le (xLines_asc ⟨nm, sp, ln, wd, th, cu, mo, ds⟩) (x_first hb).2.2 hi))
  have HYI := Lib.hid (yl_in hb)
  have HYA := Lib.hid (yLines_asc ⟨nm, sp, ln, wd, th, cu, mo, ds⟩)
  have HIY := Lib.hid (fun i => iTo_yin (b := ⟨nm, sp, ln, wd, th, cu, mo, ds⟩) (n := q) (xs := xLines ⟨nm, sp, ln, wd, th, cu, mo, ds⟩) (by have := hb.w0; first | omega | (simp only; omega)) (yl_in hb) (yLines_asc ⟨nm, sp, ln, wd, th, cu, mo, ds⟩) i)
  have HWR := Lib.hid (show iTo ⟨nm, sp, ln, wd, th, cu, mo, ds⟩ q (xLines ⟨nm, sp, ln, wd, th, cu, mo, ds⟩) (yLines ⟨nm, sp, ln, wd, th, cu, mo, ds⟩) (xLines ⟨nm, sp, ln, wd, th, cu, mo, ds⟩).length = ⟨X1, Y1, X2, Y2⟩ from hR)
  have HFB := Lib.hid (show decide (0 < wdt ⟨X1, Y1, X2, Y2⟩) = fb from hfb)
  clear hd hd1 hBL hb hR hfb
  go_enter Try.func54, Try.ntmps54
  go_upto_region 1 with fail
  go_cut [6, 7] from 14 (fun u v wx => wx.ownsRow (w.heap.size + 1) 3 1 u (xLines ⟨nm, sp, ln, wd, th, cu, mo, ds⟩).length (intCells (xLines ⟨nm, sp, ln, wd, th, cu, mo, ds⟩)) ∧ wx.ownsRow (w.heap.size + 1) 3 1 v (yLines ⟨nm, sp, ln, wd, th, cu, mo, ds⟩).length (intCells (yLines ⟨nm, sp, ln, wd, th, cu, mo, ds⟩)) ∧ Below ((w.alloc (.cells #[.string nm, .string sp, .int .i64 ln, .int .i64 wd, .int .i64 th, .int .i64 cu, .int .i64 mo, .slice D dn dc] 34)).alloc (.cells #[.int .i64 0, .int .i64 0, .int .i64 0, .int .i64 0] 75)).heap.size ((w.alloc (.cells #[.string nm, .string sp, .int .i64 ln, .int .i64 wd, .int .i64 th, .int .i64 cu, .int .i64 mo, .slice D dn dc] 34)).alloc (.cells #[.int .i64 0, .int .i64 0, .int .i64 0, .int .i64 0] 75)) wx)
  case first =>
    go_region_with (first | (go_at_call 94; have h := hownA; refine Calls.mono (LY _ hAB).out ?_; rintro e w3 ⟨r3, rfl, hownB, hbB⟩) | (go_at_call 94; refine Calls.mono (LX _ (by first | exact (Below.refl _ _).drew | exact Below.refl _ _)).out ?_; rintro e w2 ⟨r2, rfl, hownA, hbA⟩; have hAB : Below ((w.alloc (.cells #[.string nm, .string sp, .int .i64 ln, .int .i64 wd, .int .i64 th, .int .i64 cu, .int .i64 mo, .slice D dn dc] 34)).alloc (.cells #[.int .i64 0, .int .i64 0, .int .i64 0, .int .i64 0] 75)).heap.size ((w.alloc (.cells #[.string nm, .string sp, .int .i64 ln, .int .i64 wd, .int .i64 th, .int .i64 cu, .int .i64 mo, .slice D dn dc] 34)).alloc (.cells #[.int .i64 0, .int .i64 0, .int .i64 0, .int .i64 0] 75)) w2 := (by first | exact ((Below.refl _ _).drew).trans (hbA.mono (by first | (simp; done) | (simp; omega) | omega)) | exact hbA.mono (by first | (simp; done) | (simp; omega) | omega)); have K : ∀ o, w2.cell? ⟨w.heap.size, o, none⟩ = _ := (fun o => hbA.cell (p := ⟨w.heap.size, o, none⟩) (by first | (simp; done) | (simp; omega) | omega)); have q0 := K 0; have q1 := K 1; have q2 := K 2; have q3 := K 3; have q4 := K 4; have q5 := K 5; have q6 := K 6; have q7 := K 7; simp [go_sem] at q0 q1 q2 q3 q4 q5 q6 q7))
    all_goals
      go_wp2_with fail
      go_meet
      have hsA := hAB.size
      simp at hsA
      exact ⟨own_low (own_kept hownA hbB) (by first | (simp; done) | (simp; omega) | omega), own_low hownB (by omega), hAB.trans (hbB.mono hAB.size)⟩
  case rest =>
    obtain ⟨hx, hy, hbw⟩ := hcut
    have HWC := Lib.hid (HBL.out.trans (hbw.mono (by first | (simp; done) | (simp; omega) | omega)))
    have hs1 : w.heap.size + 2 ≤ wc.heap.size := by have := hbw.size; simp at this; omega
    obtain ⟨xs, hxs⟩ : ∃ xs, (xLines ⟨nm, sp, ln, wd, th, cu, mo, ds⟩) = xs := ⟨_, rfl⟩
    obtain ⟨ys, hys⟩ : ∃ ys, (yLines ⟨nm, sp, ln, wd, th, cu, mo, ds⟩) = ys := ⟨_, rfl⟩
    rw [hxs] at hx hll hx2 HXI HIY HWR
    rw [hys] at hy hll hy2 HYI HYA HIY HWR
    clear hxs hys LX LY HBL
    obtain ⟨hl1, hl2⟩ := hll
    obtain ⟨g, cap, rfl, -, hgl, hnc, hcm, hcell⟩ := own_int hx rfl (by omega)
    obtain ⟨p, cbp, rfl, -, hpl, hmc, hcm2, hcell2⟩ := own_int hy rfl (by omega)
    have HC := Lib.hid hcell
    have HC2 := Lib.hid hcell2
    clear hcell hcell2 hx hy
    have K1 : ∀ o, wc.cell? ⟨w.heap.size, o, none⟩ = _ := fun o => hbw.cell (p := ⟨w.heap.size, o, none⟩) (by first | (simp; done) | (simp; omega) | omega)
    have q0 := K1 0; have q1 := K1 1; have q2 := K1 2; have q3 := K1 3; have q4 := K1 4; have q5 := K1 5; have q6 := K1 6; have q7 := K1 7
    simp [go_sem] at q0 q1 q2 q3 q4 q5 q6 q7
    have HQ := Lib.hid (And.intro q0 (And.intro q1 (And.intro q2 (And.intro q3 (And.intro q4 (And.intro q5 (And.intro q6 q7)))))))
    have K2 : ∀ o, wc.cell? ⟨w.heap.size + 1, o, none⟩ = _ := fun o => hbw.cell (p := ⟨w.heap.size + 1, o, none⟩) (by first | (simp; done) | (simp; omega) | omega)
    have K3 : ∀ o, wc.frozen? ⟨w.heap.size + 1, o, none⟩ = _ := fun o => hbw.frozen (p := ⟨w.heap.size + 1, o, none⟩) (by first | (simp; done) | (simp; omega) | omega)
    have HR := Lib.hid (show Rc4 wc (w.heap.size + 1) zeroR by refine ⟨⟨?_, ?_, ?_, ?_⟩, ⟨?_, ?_, ?_, ?_⟩⟩ <;> first | (rw [K2]; simp [go_sem]; rfl) | (rw [K3]; simp [go_sem]))
    clear q0 q1 q2 q3 q4 q5 q6 q7 K1 K2 K3 hbw
    obtain ⟨n, hn⟩ : ∃ n, xs.length = n := ⟨_, rfl⟩
    obtain ⟨m, hm⟩ : ∃ m, ys.length = m := ⟨_, rfl⟩
    rw [hn] at hl1 hx2 hnc HWR ⊢
    rw [hm] at hl2 hy2 hmc ⊢
    have hn1 : n ≤ xs.length := by omega
    have hm1 : m ≤ ys.length := by omega
    have HM := Lib.hid hm
    have HN := Lib.hid hn
    clear hn hm
    go_wp2
    go_loopw [9, 10] (fun fv iv wr => ∃ i : Nat, i ≤ n ∧ iv = .int .i64 i ∧ fv = .bool (decide (0 < wdt (iTo ⟨nm, sp, ln, wd, th, cu, mo, ds⟩ q xs ys i))) ∧ Below wc.heap.size wc wr ∧ wc.heap.size < wr.heap.size ∧ Rc4 wr wc.heap.size (iTo ⟨nm, sp, ln, wd, th, cu, mo, ds⟩ q xs ys i)) (fun _ iv _ => n - (intOf iv).toNat)
    case atStart => exact ⟨0, by omega, rfl, rfl, (Below.refl _ _).alloc (Nat.le_refl _) _, by simp, by refine ⟨⟨?_, ?_, ?_, ?_⟩, ⟨?_, ?_, ?_, ?_⟩⟩ <;> (simp [go_sem]; try rfl)⟩
    case round =>
      obtain ⟨i, hi, rfl, rfl, hbw, hsr, hrr⟩ := hrel
      have HB := Lib.hid hbw
      have HBR := Lib.hid (HWC.out.trans (hbw.mono HWC.out.size))
      have HRR := Lib.hid hrr
      have hsz := hbw.size
      have hin : (i : Int) ≤ n := by omega
      by_cases hlt : i < n
      · have hi0 : i < xs.length := by omega
        have hlti : (i : Int) < n := by omega
        have c0 := (hbw.cell (p := ⟨g, i, none⟩) hgl).trans (HC.out i hi0)
        have hx0 : xs[i]? = some xs[i] := List.getElem?_eq_getElem hi0
        have hxi := HXI.out i hi0
        rw [List.getD_eq_getElem?_getD, hx0] at hxi
        have q2 : wr.cell? ⟨w.heap.size, 2, none⟩ = _ := (hbw.cell (p := ⟨w.heap.size, 2, none⟩) (by simp only; omega)).trans HQ.out.2.2.1
        obtain ⟨x, hx⟩ : ∃ x, xs[i] = x := ⟨_, rfl⟩
        rw [hx] at c0 hx0 hxi
        simp only [Option.getD_some] at hxi
        obtain ⟨hxa, hxb⟩ := hxi
        have hwx : IntKind.i64.wrap (x + q) = x + q := by rw [IntKind.wrap_i64]; omega
        have HX := Lib.hid hx
        clear hx
        by_cases hout : ln < x + q
        · have HS := Lib.hid (iTo_out (b := ⟨nm, sp, ln, wd, th, cu, mo, ds⟩) (ys := ys) hx0 hout)
          have hod : decide (ln < x + q) = true := decide_eq_true hout
          clear hx0 hbw hrr
          go_wp2
          go_quiet (fail)
          go_wp2
          go_roundw
          case rel => exact ⟨i + 1, by omega, by go_num, by rw [HS.out], below_drewN HB.out _, by simpa using hsr, by rw [HS.out]; exact HRR.out.below (below_drewN (Below.refl _ _) _) hsr⟩
          case measure => first | (simp [intOf]; done) | (simp [intOf]; omega)
        · have HS := Lib.hid (iTo_in (b := ⟨nm, sp, ln, wd, th, cu, mo, ds⟩) (ys := ys) hx0 hout)
          have hod : decide (ln < x + q) = false := decide_eq_false hout
          have HY0 := Lib.hid (HIY.out i)
          obtain ⟨r0, hr0⟩ : ∃ r0, iTo ⟨nm, sp, ln, wd, th, cu, mo, ds⟩ q xs ys i = r0 := ⟨_, rfl⟩
          rw [hr0] at HS HRR HY0 ⊢
          rw [HM.out] at HS
          clear hx0 hbw hrr hr0
          go_wp2
          go_quiet (fail)
          go_wp2
          go_loopw [9, 11] (fun fv kv wz => ∃ k : Nat, k ≤ m ∧ kv = .int .i64 k ∧ fv = .bool (decide (0 < wdt (kTo ⟨nm, sp, ln, wd, th, cu, mo, ds⟩ q x ys r0 k))) ∧ Below wc.heap.size wc wz ∧ wc.heap.size < wz.heap.size ∧ Rc4 wz wc.heap.size (kTo ⟨nm, sp, ln, wd, th, cu, mo, ds⟩ q x ys r0 k)) (fun _ kv _ => m - (intOf kv).toNat)
          case atStart => exact ⟨0, by omega, rfl, rfl, below_drewN HB.out _, by simpa using hsr, HRR.out.below (below_drewN (Below.refl _ _) _) hsr⟩
          case round =>
            clear HB HBR HRR hsz hsr q2 c0
            obtain ⟨k, hk, rfl, rfl, hbw, hsr, hrr⟩ := hrel
            have HB := Lib.hid hbw
            have HRR := Lib.hid hrr
            have hkm : (k : Int) ≤ m := by omega
            by_cases hlt2 : k < m
            · have hk0 : k < ys.length := by omega
              have hltk : (k : Int) < m := by omega
              have hwk : IntKind.i64.wrap ((k : Int) + 1) = (k : Int) + 1 := by rw [IntKind.wrap_i64]; omega
              have HS2 := Lib.hid (show kTo ⟨nm, sp, ln, wd, th, cu, mo, ds⟩ q x ys r0 (k + 1) = jTo ⟨nm, sp, ln, wd, th, cu, mo, ds⟩ q x ys k (kTo ⟨nm, sp, ln, wd, th, cu, mo, ds⟩ q x ys r0 k) (m - (k + 1)) by rw [← HM.out]; rfl)
              have HY1 := Lib.hid (kTo_yin (b := ⟨nm, sp, ln, wd, th, cu, mo, ds⟩) (n := q) (x := x) HY0.out HYI.out HYA.out k (by omega))
              obtain ⟨r1, hr1⟩ : ∃ r1, kTo ⟨nm, sp, ln, wd, th, cu, mo, ds⟩ q x ys r0 k = r1 := ⟨_, rfl⟩
              rw [hr1] at HS2 HRR HY1 ⊢
              clear hrr hr1 hbw
              go_wp2
              go_loopw [9, 12] (fun fv jv wz => ∃ u : Nat, k + 1 + u ≤ m ∧ jv = .int .i64 ((k + 1 + u : Nat) : Int) ∧ fv = .bool (decide (0 < wdt (jTo ⟨nm, sp, ln, wd, th, cu, mo, ds⟩ q x ys k r1 u))) ∧ Below wc.heap.size wc wz ∧ wc.heap.size < wz.heap.size ∧ Rc4 wz wc.heap.size (jTo ⟨nm, sp, ln, wd, th, cu, mo, ds⟩ q x ys k r1 u)) (fun _ jv _ => m - (intOf jv).toNat)
              case atStart => exact ⟨0, by omega, by first | rfl | (congr 1; omega) | (simp; done), rfl, HB.out, hsr, HRR.out⟩
              case round =>
                clear HB HRR hsr
                obtain ⟨u, hu, rfl, rfl, hbw, hsr, hrr⟩ := hrel
                have HB := Lib.hid hbw
                have HRR := Lib.hid hrr
                have hum : ((k + 1 + u : Nat) : Int) ≤ m := by omega
                have HY2 := jTo_yin (b := ⟨nm, sp, ln, wd, th, cu, mo, ds⟩) (n := q) (x := x) (k := k) HY1.out HYI.out HYA.out u (by have := HM.out; omega)
                by_cases hlt3 : k + 1 + u < m
                · have hu0 : k + 1 + u < ys.length := by omega
                  have hltu : ((k + 1 + u : Nat) : Int) < m := by omega
                  have c0 := (hbw.cell (p := ⟨g, i, none⟩) hgl).trans (HC.out i hi0)
                  rw [HX.out] at c0
                  have e0 := (hbw.cell (p := ⟨p, k, none⟩) hpl).trans (HC2.out k hk0)
                  have e1 := (hbw.cell (p := ⟨p, k + 1 + u, none⟩) hpl).trans (HC2.out (k + 1 + u) hu0)
                  have hy0 : ys[k]? = some ys[k] := List.getElem?_eq_getElem hk0
                  have hy1 : ys[k + 1 + u]? = some ys[k + 1 + u] := List.getElem?_eq_getElem hu0
                  have hyI := HYI.out k (by have := HM.out; omega)
                  have hzI := HYI.out (k + 1 + u) (by have := HM.out; omega)
                  have hyz := asc_at HYA.out (i := k) (j := k + 1 + u) (by omega) hu0
                  rw [List.getD_eq_getElem?_getD, hy0] at hyI
                  rw [List.getD_eq_getElem?_getD, hy1] at hzI
                  rw [List.getD_eq_getElem?_getD, List.getD_eq_getElem?_getD, hy0, hy1] at hyz
                  obtain ⟨y, hy⟩ : ∃ y, ys[k] = y := ⟨_, rfl⟩
                  obtain ⟨z, hz⟩ : ∃ z, ys[k + 1 + u] = z := ⟨_, rfl⟩
                  rw [hy] at e0 hy0 hyI hyz
                  rw [hz] at e1 hy1 hzI hyz
                  simp only [Option.getD_some] at hyI hzI hyz
                  obtain ⟨hya, hyb⟩ := hyI
                  obtain ⟨hza, hzb⟩ := hzI
                  have JS := fun v (hv : soundB ⟨nm, sp, ln, wd, th, cu, mo, ds⟩ ⟨x, y, x + q, z⟩ = v) => Lib.hid (jTo_step (r := r1) hy0 hy1 hv)
                  obtain ⟨r, hr⟩ : ∃ r, jTo ⟨nm, sp, ln, wd, th, cu, mo, ds⟩ q x ys k r1 u = r := ⟨_, rfl⟩
                  rw [hr] at HRR HY2 hrr JS ⊢
                  clear hy hz hy0 hy1 hr
                  have hju : (((k + 1 + u : Nat) : Int)).toNat = k + 1 + u := by omega
                  have hj0 : (0 : Int) ≤ ((k + 1 + u : Nat) : Int) := by omega
                  have hjd : decide (((k + 1 + u : Nat) : Int) < 0) = false := decide_eq_false (by omega)
                  have hju' : ((k : Int) + 1 + (u : Int)).toNat = k + 1 + u := by omega
                  have hj0' : (0 : Int) ≤ (k : Int) + 1 + (u : Int) := by omega
                  have hjl' : (k : Int) + 1 + (u : Int) < m := by omega
                  have hwz : IntKind.i64.wrap (z - y) = z - y := by rw [IntKind.wrap_i64]; omega
                  have hgs : g < wr.heap.size := by omega
                  have hps : p < wr.heap.size := by omega
                  clear hbw
                  go_wp2
                  go_region
                  obtain ⟨W2, hW2⟩ : ∃ W2, (wr.alloc (Obj.cells #[Value.int IntKind.i64 x, Value.int IntKind.i64 y, Value.int IntKind.i64 (x + q), Value.int IntKind.i64 z] 75)).drew = W2 := ⟨_, rfl⟩
                  rw [hW2]
                  have hb2 : Below wr.heap.size wr W2 := hW2 ▸ ((Below.refl _ _).alloc (Nat.le_refl _) _).drew
                  have hs2 : wr.heap.size < W2.heap.size := by rw [← hW2]; simp
                  have d0 : W2.cell? ⟨wr.heap.size, 0, none⟩ = some (.int .i64 x) := by rw [← hW2]; simp [go_sem]
                  have d1 : W2.cell? ⟨wr.heap.size, 0 + 1, none⟩ = some (.int .i64 y) := by rw [← hW2]; simp [go_sem]
                  have d2 : W2.cell? ⟨wr.heap.size, 0 + 2, none⟩ = some (.int .i64 (x + q)) := by rw [← hW2]; simp [go_sem]
                  have d3 : W2.cell? ⟨wr.heap.size, 0 + 3, none⟩ = some (.int .i64 z) := by rw [← hW2]; simp [go_sem]
                  have HB2 := Lib.hid hb2
                  have HBW2 := Lib.hid (HWC.out.trans ((HB.out.trans (hb2.mono (by omega))).mono (by omega)))
                  have kZ : ∀ o, W2.cell? ⟨w.heap.size, o, none⟩ = wc.cell? ⟨w.heap.size, o, none⟩ := fun o => (hb2.cell (p := ⟨w.heap.size, o, none⟩) (by simp only; omega)).trans (HB.out.cell (p := ⟨w.heap.size, o, none⟩) (by simp only; omega))
                  have q0 := (kZ 0).trans HQ.out.1; have q1 := (kZ 1).trans HQ.out.2.1; have q2 := (kZ 2).trans HQ.out.2.2.1; have q3 := (kZ 3).trans HQ.out.2.2.2.1; have q4 := (kZ 4).trans HQ.out.2.2.2.2.1; have q5 := (kZ 5).trans HQ.out.2.2.2.2.2.1; have q6 := (kZ 6).trans HQ.out.2.2.2.2.2.2.1; have q7 := (kZ 7).trans HQ.out.2.2.2.2.2.2.2
                  have E0 := (hb2.cell (p := ⟨p, k, none⟩) hps).trans e0
                  have E1 := (hb2.cell (p := ⟨p, k + 1 + u, none⟩) hps).trans e1
                  obtain ⟨⟨b0, b1, b2, b3⟩, -⟩ := HRR.out.below hb2 hsr
                  have QA := Lib.hid (show w.heap.size < W2.heap.size by omega)
                  have QB := Lib.hid hs2
                  have QC := Lib.hid (show wc.heap.size < W2.heap.size by omega)
                  have QP := Lib.hid (show p < W2.heap.size by omega)
                  obtain ⟨hY0, hY1', hY2'⟩ := HY2
                  clear c0 e0 e1 hrr hW2 kZ hgs hps
                  obtain ⟨x1, y1, x2, y2⟩ := r
                  simp only at b0 b1 b2 b3 hY0 hY1' hY2'
                  have hwy : IntKind.i64.wrap (y2 - y1) = y2 - y1 := by rw [IntKind.wrap_i64]; omega
                  obtain ⟨v, hv⟩ : ∃ v, soundB ⟨nm, sp, ln, wd, th, cu, mo, ds⟩ ⟨x, y, x + q, z⟩ = v := ⟨_, rfl⟩
                  have HS := JS v hv
                  have IS := fun wx (hbx : Below W2.heap.size W2 wx) => Lib.hid (isSound_any (dc := dc) hv hdm wx (RcRow.below HD.out (HBW2.out.trans (hbx.mono (by omega)))))
                  clear JS hv hb2
                  go_wp2
                  refine wp_region_held_drew (S := fun wx => Below W2.heap.size W2 wx ∧ wx.cell? ⟨w.heap.size, 0, none⟩ = some (.string nm) ∧ wx.cell? ⟨w.heap.size, 1, none⟩ = some (.string sp) ∧ wx.cell? ⟨w.heap.size, 2, none⟩ = some (.int .i64 ln) ∧ wx.cell? ⟨w.heap.size, 3, none⟩ = some (.int .i64 wd) ∧ wx.cell? ⟨w.heap.size, 4, none⟩ = some (.int .i64 th) ∧ wx.cell? ⟨w.heap.size, 5, none⟩ = some (.int .i64 cu) ∧ wx.cell? ⟨w.heap.size, 6, none⟩ = some (.int .i64 mo) ∧ wx.cell? ⟨w.heap.size, 7, none⟩ = some (.slice D dn dc) ∧ wx.cell? ⟨wr.heap.size, 0, none⟩ = some (.int .i64 x) ∧ wx.cell? ⟨wr.heap.size, 0 + 1, none⟩ = some (.int .i64 y) ∧ wx.cell? ⟨wr.heap.size, 0 + 2, none⟩ = some (.int .i64 (x + q)) ∧ wx.cell? ⟨wr.heap.size, 0 + 3, none⟩ = some (.int .i64 z) ∧ wx.cell? ⟨p, k, none⟩ = some (.int .i64 y) ∧ wx.cell? ⟨p, k + 1 + u, none⟩ = some (.int .i64 z) ∧ wx.cell? ⟨wc.heap.size, 1, none⟩ = some (.int .i64 y1) ∧ wx.cell? ⟨wc.heap.size, 3, none⟩ = some (.int .i64 y2)) (by kernel_rfl) ?_ (fun hHeld => ?_)
                  · refine ⟨(Below.refl _ _).drew, ?_, ?_, ?_, ?_, ?_, ?_, ?_, ?_, ?_, ?_, ?_, ?_, ?_, ?_, ?_, ?_⟩ <;> assumption
                  refine wpAnyH_take (i := 0) (oi := { dst := some 67, op := Go.Op.load 34 (Go.Operand.tmp 2), type := 34, pos := "ref.go:280", after := #[], guard := none }) (v := ?_) rfl (by kernel_rfl) (by kernel_rfl) (by kernel_rfl) (fun _ _ _ h => h) (Or.inl ⟨by rfl, ?hy1⟩) (by assumption) ?rest1
                  case hy1 =>
                    intro w hSw
                    try dsimp only at hSw
                    go_simp
                    try with_reducible rfl
                  try simp only [Act.put, List.setIfInBounds_toArray, List.set_cons_zero, List.set_cons_succ]
                  refine wpAnyH_take (i := 1) (oi := { dst := some 68, op := Go.Op.load 75 (Go.Operand.tmp 13), type := 75, pos := "ref.go:280", after := #[], guard := none }) (v := ?_) rfl (by kernel_rfl) (by kernel_rfl) (by kernel_rfl) (fun _ _ _ h => h) (Or.inl ⟨by rfl, ?hy2⟩) (by assumption) ?rest2
                  case hy2 =>
                    intro w hSw
                    try dsimp only at hSw
                    go_simp
                    try with_reducible rfl
                  try simp only [Act.put, List.setIfInBounds_toArray, List.set_cons_zero, List.set_cons_succ]
                  refine wpAnyH_ready (rs := [2]) (by kernel_rfl) (by simp) ?_
                  refine AllReadyH.cons rfl (fun K hK => ?_) AllReadyH.nil
                  go_simp
                  go_at_call 50
                  refine Calls.mono (IS _ (And.left hHeld)).out ?_
                  rintro e w' ⟨rfl, hbx⟩
                  try dsimp only
                  refine hK.out _ _ ?_ (fun hHeld2 => ?_)
                  · exact kept16 hbx hHeld QA.out QB.out QP.out QC.out
                  clear hK K hHeld hbx
                  try simp only [Act.put, List.setIfInBounds_toArray, List.set_cons_zero, List.set_cons_succ]
                  refine wpAnyH_take (i := 3) (oi := { dst := some 70, op := Go.Op.move (Go.Operand.tmp 69), type := 4, pos := "ref.go:280", after := #[{ on := 2, ground := Go.Ground.data }, { on := 2, ground := Go.Ground.chain }], guard := none }) (v := ?_) rfl (by kernel_rfl) (by kernel_rfl) (by kernel_rfl) (fun _ _ _ h => h) (Or.inl ⟨by rfl, ?hy3⟩) (by assumption) ?rest3
                  case hy3 =>
                    intro w hSw
                    try dsimp only at hSw
                    go_simp
                    try with_reducible rfl
                  try simp only [Act.put, List.setIfInBounds_toArray, List.set_cons_zero, List.set_cons_succ]
                  have HH := Lib.hid hHeld2.1
                  have HRW := Lib.hid ((HRR.out.below HB2.out hsr).below HH.out QC.out)
                  have hsw : wc.heap.size < w'.heap.size := by have := HH.out.size; have := QC.out; omega
                  cases v
                  · clear IS
                    refine wpAnyH_take (i := 4) (oi := { dst := some 71, op := Go.Op.move (Go.Operand.tmp 9), type := 4, pos := "ref.go:280", after := #[{ on := 3, ground := Go.Ground.guard }], guard := some (3, true) }) (v := undef) rfl (by kernel_rfl) (by kernel_rfl) (by kernel_rfl) (fun _ _ _ h => h) (Or.inr ⟨by kernel_rfl, rfl⟩) (by assumption) ?_
                    try simp only [Act.put, List.setIfInBounds_toArray, List.set_cons_zero, List.set_cons_succ]
                    refine wpAnyH_take (i := 5) (oi := { dst := some 72, op := Go.Op.unOp Go.UnOp.not 4 (Go.Operand.tmp 71), type := 4, pos := "ref.go:280", after := #[{ on := 4, ground := Go.Ground.data }, { on := 3, ground := Go.Ground.guard }], guard := some (3, true) }) (v := undef) rfl (by kernel_rfl) (by kernel_rfl) (by kernel_rfl) (fun _ _ _ h => h) (Or.inr ⟨by kernel_rfl, rfl⟩) (by assumption) ?_
                    try simp only [Act.put, List.setIfInBounds_toArray, List.set_cons_zero, List.set_cons_succ]
                    refine wpAnyH_take (i := 6) (oi := { dst := some 73, op := Go.Op.move (Go.Operand.tmp 72), type := 4, pos := "ref.go:280", after := #[{ on := 5, ground := Go.Ground.data }, { on := 3, ground := Go.Ground.chain }, { on := 3, ground := Go.Ground.guard }], guard := some (3, true) }) (v := undef) rfl (by kernel_rfl) (by kernel_rfl) (by kernel_rfl) (fun _ _ _ h => h) (Or.inr ⟨by kernel_rfl, rfl⟩) (by assumption) ?_
                    try simp only [Act.put, List.setIfInBounds_toArray, List.set_cons_zero, List.set_cons_succ]
                    refine wpAnyH_take (i := 7) (oi := { dst := some 74, op := Go.Op.move (Go.Operand.tmp 7), type := 117, pos := "ref.go:280", after := #[{ on := 6, ground := Go.Ground.guard }], guard := some (6, false) }) (v := undef) rfl (by kernel_rfl) (by kernel_rfl) (by kernel_rfl) (fun _ _ _ h => h) (Or.inr ⟨by kernel_rfl, rfl⟩) (by assumption) ?_
                    try simp only [Act.put, List.setIfInBounds_toArray, List.set_cons_zero, List.set_cons_succ]
                    refine wpAnyH_take (i := 8) (oi := { dst := some 75, op := Go.Op.move (Go.Operand.tmp 12), type := 3, pos := "ref.go:280", after := #[{ on := 6, ground := Go.Ground.guard }], guard := some (6, false) }) (v := undef) rfl (by kernel_rfl) (by kernel_rfl) (by kernel_rfl) (fun _ _ _ h => h) (Or.inr ⟨by kernel_rfl, rfl⟩) (by assumption) ?_
                    try simp only [Act.put, List.setIfInBounds_toArray, List.set_cons_zero, List.set_cons_succ]
                    refine wpAnyH_take (i := 9) (oi := { dst := some 76, op := Go.Op.indexAddr 117 (Go.Operand.tmp 74) (Go.Operand.tmp 75), type := 0, pos := "ref.go:280", after := #[{ on := 7, ground := Go.Ground.data }, { on := 8, ground := Go.Ground.data }, { on := 6, ground := Go.Ground.guard }], guard := some (6, false) }) (v := undef) rfl (by kernel_rfl) (by kernel_rfl) (by kernel_rfl) (fun _ _ _ h => h) (Or.inr ⟨by kernel_rfl, rfl⟩) (by assumption) ?_
                    try simp only [Act.put, List.setIfInBounds_toArray, List.set_cons_zero, List.set_cons_succ]
                    refine wpAnyH_take (i := 10) (oi := { dst := some 77, op := Go.Op.load 3 (Go.Operand.tmp 76), type := 3, pos := "ref.go:280", after := #[{ on := 9, ground := Go.Ground.data }, { on := 6, ground := Go.Ground.guard }], guard := some (6, false) }) (v := undef) rfl (by kernel_rfl) (by kernel_rfl) (by kernel_rfl) (fun _ _ _ h => h) (Or.inr ⟨by kernel_rfl, rfl⟩) (by assumption) ?_
                    try simp only [Act.put, List.setIfInBounds_toArray, List.set_cons_zero, List.set_cons_succ]
                    refine wpAnyH_take (i := 11) (oi := { dst := some 78, op := Go.Op.move (Go.Operand.tmp 7), type := 117, pos := "ref.go:280", after := #[{ on := 6, ground := Go.Ground.guard }], guard := some (6, false) }) (v := undef) rfl (by kernel_rfl) (by kernel_rfl) (by kernel_rfl) (fun _ _ _ h => h) (Or.inr ⟨by kernel_rfl, rfl⟩) (by assumption) ?_
                    try simp only [Act.put, List.setIfInBounds_toArray, List.set_cons_zero, List.set_cons_succ]
                    refine wpAnyH_take (i := 12) (oi := { dst := some 79, op := Go.Op.move (Go.Operand.tmp 11), type := 3, pos := "ref.go:280", after := #[{ on := 6, ground := Go.Ground.guard }], guard := some (6, false) }) (v := undef) rfl (by kernel_rfl) (by kernel_rfl) (by kernel_rfl) (fun _ _ _ h => h) (Or.inr ⟨by kernel_rfl, rfl⟩) (by assumption) ?_
                    try simp only [Act.put, List.setIfInBounds_toArray, List.set_cons_zero, List.set_cons_succ]
                    refine wpAnyH_take (i := 13) (oi := { dst := some 80, op := Go.Op.indexAddr 117 (Go.Operand.tmp 78) (Go.Operand.tmp 79), type := 0, pos := "ref.go:280", after := #[{ on := 11, ground := Go.Ground.data }, { on := 12, ground := Go.Ground.data }, { on := 6, ground := Go.Ground.guard }], guard := some (6, false) }) (v := undef) rfl (by kernel_rfl) (by kernel_rfl) (by kernel_rfl) (fun _ _ _ h => h) (Or.inr ⟨by kernel_rfl, rfl⟩) (by assumption) ?_
                    try simp only [Act.put, List.setIfInBounds_toArray, List.set_cons_zero, List.set_cons_succ]
                    refine wpAnyH_take (i := 14) (oi := { dst := some 81, op := Go.Op.load 3 (Go.Operand.tmp 80), type := 3, pos := "ref.go:280", after := #[{ on := 13, ground := Go.Ground.data }, { on := 6, ground := Go.Ground.guard }], guard := some (6, false) }) (v := undef) rfl (by kernel_rfl) (by kernel_rfl) (by kernel_rfl) (fun _ _ _ h => h) (Or.inr ⟨by kernel_rfl, rfl⟩) (by assumption) ?_
                    try simp only [Act.put, List.setIfInBounds_toArray, List.set_cons_zero, List.set_cons_succ]
                    refine wpAnyH_take (i := 15) (oi := { dst := some 82, op := Go.Op.binOp Go.BinOp.sub 3 (Go.Operand.tmp 77) (Go.Operand.tmp 81) 3, type := 3, pos := "ref.go:280", after := #[{ on := 10, ground := Go.Ground.data }, { on := 14, ground := Go.Ground.data }, { on := 6, ground := Go.Ground.guard }], guard := some (6, false) }) (v := undef) rfl (by kernel_rfl) (by kernel_rfl) (by kernel_rfl) (fun _ _ _ h => h) (Or.inr ⟨by kernel_rfl, rfl⟩) (by assumption) ?_
                    try simp only [Act.put, List.setIfInBounds_toArray, List.set_cons_zero, List.set_cons_succ]
                    refine wpAnyH_take (i := 16) (oi := { dst := some 83, op := Go.Op.fieldAddr 75 (Go.Operand.tmp 8) 3, type := 0, pos := "ref.go:280", after := #[{ on := 6, ground := Go.Ground.guard }], guard := some (6, false) }) (v := undef) rfl (by kernel_rfl) (by kernel_rfl) (by kernel_rfl) (fun _ _ _ h => h) (Or.inr ⟨by kernel_rfl, rfl⟩) (by assumption) ?_
                    try simp only [Act.put, List.setIfInBounds_toArray, List.set_cons_zero, List.set_cons_succ]
                    refine wpAnyH_take (i := 17) (oi := { dst := some 84, op := Go.Op.load 3 (Go.Operand.tmp 83), type := 3, pos := "ref.go:280", after := #[{ on := 16, ground := Go.Ground.data }, { on := 6, ground := Go.Ground.guard }], guard := some (6, false) }) (v := undef) rfl (by kernel_rfl) (by kernel_rfl) (by kernel_rfl) (fun _ _ _ h => h) (Or.inr ⟨by kernel_rfl, rfl⟩) (by assumption) ?_
                    try simp only [Act.put, List.setIfInBounds_toArray, List.set_cons_zero, List.set_cons_succ]
                    refine wpAnyH_take (i := 18) (oi := { dst := some 85, op := Go.Op.fieldAddr 75 (Go.Operand.tmp 8) 1, type := 0, pos := "ref.go:280", after := #[{ on := 6, ground := Go.Ground.guard }], guard := some (6, false) }) (v := undef) rfl (by kernel_rfl) (by kernel_rfl) (by kernel_rfl) (fun _ _ _ h => h) (Or.inr ⟨by kernel_rfl, rfl⟩) (by assumption) ?_
                    try simp only [Act.put, List.setIfInBounds_toArray, List.set_cons_zero, List.set_cons_succ]
                    refine wpAnyH_take (i := 19) (oi := { dst := some 86, op := Go.Op.load 3 (Go.Operand.tmp 85), type := 3, pos := "ref.go:280", after := #[{ on := 18, ground := Go.Ground.data }, { on := 6, ground := Go.Ground.guard }], guard := some (6, false) }) (v := undef) rfl (by kernel_rfl) (by kernel_rfl) (by kernel_rfl) (fun _ _ _ h => h) (Or.inr ⟨by kernel_rfl, rfl⟩) (by assumption) ?_
                    try simp only [Act.put, List.setIfInBounds_toArray, List.set_cons_zero, List.set_cons_succ]
                    refine wpAnyH_take (i := 20) (oi := { dst := some 87, op := Go.Op.binOp Go.BinOp.sub 3 (Go.Operand.tmp 84) (Go.Operand.tmp 86) 3, type := 3, pos := "ref.go:280", after := #[{ on := 17, ground := Go.Ground.data }, { on := 19, ground := Go.Ground.data }, { on := 6, ground := Go.Ground.guard }], guard := some (6, false) }) (v := undef) rfl (by kernel_rfl) (by kernel_rfl) (by kernel_rfl) (fun _ _ _ h => h) (Or.inr ⟨by kernel_rfl, rfl⟩) (by assumption) ?_
                    try simp only [Act.put, List.setIfInBounds_toArray, List.set_cons_zero, List.set_cons_succ]
                    refine wpAnyH_take (i := 21) (oi := { dst := some 88, op := Go.Op.binOp Go.BinOp.gtr 3 (Go.Operand.tmp 82) (Go.Operand.tmp 87) 3, type := 4, pos := "ref.go:280", after := #[{ on := 15, ground := Go.Ground.data }, { on := 20, ground := Go.Ground.data }, { on := 6, ground := Go.Ground.guard }], guard := some (6, false) }) (v := undef) rfl (by kernel_rfl) (by kernel_rfl) (by kernel_rfl) (fun _ _ _ h => h) (Or.inr ⟨by kernel_rfl, rfl⟩) (by assumption) ?_
                    try simp only [Act.put, List.setIfInBounds_toArray, List.set_cons_zero, List.set_cons_succ]
                    refine wpAnyH_take (i := 22) (oi := { dst := some 89, op := Go.Op.pick (Go.Operand.tmp 73) (Go.Operand.const (Go.Value.bool true)) (Go.Operand.tmp 88), type := 4, pos := "ref.go:280", after := #[{ on := 6, ground := Go.Ground.data }, { on := 21, ground := Go.Ground.data }, { on := 3, ground := Go.Ground.guard }], guard := some (3, true) }) (v := undef) rfl (by kernel_rfl) (by kernel_rfl) (by kernel_rfl) (fun _ _ _ h => h) (Or.inr ⟨by kernel_rfl, rfl⟩) (by assumption) ?_
                    try simp only [Act.put, List.setIfInBounds_toArray, List.set_cons_zero, List.set_cons_succ]
                    refine wpAnyH_take (i := 23) (oi := { dst := some 90, op := Go.Op.pick (Go.Operand.tmp 70) (Go.Operand.tmp 89) (Go.Operand.const (Go.Value.bool false)), type := 4, pos := "ref.go:280", after := #[{ on := 3, ground := Go.Ground.data }, { on := 22, ground := Go.Ground.data }], guard := none }) (v := ?_) rfl (by kernel_rfl) (by kernel_rfl) (by kernel_rfl) (fun _ _ _ h => h) (Or.inl ⟨by rfl, ?hy4⟩) (by assumption) ?rest4
                    case hy4 =>
                      intro w hSw
                      try dsimp only at hSw
                      go_simp
                      try with_reducible rfl
                    try simp only [Act.put, List.setIfInBounds_toArray, List.set_cons_zero, List.set_cons_succ]
                    refine wpAnyH_done (by kernel_rfl) ?_ _
                    clear hHeld2
                    go_wp2
                    go_roundw
                    case rel => exact ⟨u + 1, by omega, by go_num, by rw [HS.out]; rfl, HB.out.trans ((HB2.out.mono (by omega)).trans (HH.out.mono (by omega))), hsw, by rw [HS.out]; exact HRW.out⟩
                    case measure => first | (simp [intOf]; done) | (simp [intOf]; omega)
                  · by_cases hf : 0 < wdt ⟨x1, y1, x2, y2⟩
                    · rw [decide_eq_true hf]
                      by_cases hw : y2 - y1 < z - y
                      · have hwd : decide (y2 - y1 < z - y) = true := decide_eq_true hw
                        refine wpAnyH_take (i := 4) (oi := { dst := some 71, op := Go.Op.move (Go.Operand.tmp 9), type := 4, pos := "ref.go:280", after := #[{ on := 3, ground := Go.Ground.guard }], guard := some (3, true) }) (v := ?_) rfl (by kernel_rfl) (by kernel_rfl) (by kernel_rfl) (fun _ _ _ h => h) (Or.inl ⟨by rfl, ?hy5⟩) (by assumption) ?rest5
                        case hy5 =>
                          intro w hSw
                          try dsimp only at hSw
                          go_simp
                          try with_reducible rfl
                        try simp only [Act.put, List.setIfInBounds_toArray, List.set_cons_zero, List.set_cons_succ]
                        refine wpAnyH_take (i := 5) (oi := { dst := some 72, op := Go.Op.unOp Go.UnOp.not 4 (Go.Operand.tmp 71), type := 4, pos := "ref.go:280", after := #[{ on := 4, ground := Go.Ground.data }, { on := 3, ground := Go.Ground.guard }], guard := some (3, true) }) (v := ?_) rfl (by kernel_rfl) (by kernel_rfl) (by kernel_rfl) (fun _ _ _ h => h) (Or.inl ⟨by rfl, ?hy6⟩) (by assumption) ?rest6
                        case hy6 =>
                          intro w hSw
                          try dsimp only at hSw
                          go_simp
                          try with_reducible rfl
                        try simp only [Act.put, List.setIfInBounds_toArray, List.set_cons_zero, List.set_cons_succ]
                        refine wpAnyH_take (i := 6) (oi := { dst := some 73, op := Go.Op.move (Go.Operand.tmp 72), type := 4, pos := "ref.go:280", after := #[{ on := 5, ground := Go.Ground.data }, { on := 3, ground := Go.Ground.chain }, { on := 3, ground := Go.Ground.guard }], guard := some (3, true) }) (v := ?_) rfl (by kernel_rfl) (by kernel_rfl) (by kernel_rfl) (fun _ _ _ h => h) (Or.inl ⟨by rfl, ?hy7⟩) (by assumption) ?rest7
                        case hy7 =>
                          intro w hSw
                          try dsimp only at hSw
                          go_simp
                          try with_reducible rfl
                        try simp only [Act.put, List.setIfInBounds_toArray, List.set_cons_zero, List.set_cons_succ]
                        refine wpAnyH_take (i := 7) (oi := { dst := some 74, op := Go.Op.move (Go.Operand.tmp 7), type := 117, pos := "ref.go:280", after := #[{ on := 6, ground := Go.Ground.guard }], guard := some (6, false) }) (v := ?_) rfl (by kernel_rfl) (by kernel_rfl) (by kernel_rfl) (fun _ _ _ h => h) (Or.inl ⟨by rfl, ?hy8⟩) (by assumption) ?rest8
                        case hy8 =>
                          intro w hSw
                          try dsimp only at hSw
                          go_simp
                          try with_reducible rfl
                        try simp only [Act.put, List.setIfInBounds_toArray, List.set_cons_zero, List.set_cons_succ]
                        refine wpAnyH_take (i := 8) (oi := { dst := some 75, op := Go.Op.move (Go.Operand.tmp 12), type := 3, pos := "ref.go:280", after := #[{ on := 6, ground := Go.Ground.guard }], guard := some (6, false) }) (v := ?_) rfl (by kernel_rfl) (by kernel_rfl) (by kernel_rfl) (fun _ _ _ h => h) (Or.inl ⟨by rfl, ?hy9⟩) (by assumption) ?rest9
                        case hy9 =>
                          intro w hSw
                          try dsimp only at hSw
                          go_simp
                          try with_reducible rfl
                        try simp only [Act.put, List.setIfInBounds_toArray, List.set_cons_zero, List.set_cons_succ]
                        refine wpAnyH_take (i := 9) (oi := { dst := some 76, op := Go.Op.indexAddr 117 (Go.Operand.tmp 74) (Go.Operand.tmp 75), type := 0, pos := "ref.go:280", after := #[{ on := 7, ground := Go.Ground.data }, { on := 8, ground := Go.Ground.data }, { on := 6, ground := Go.Ground.guard }], guard := some (6, false) }) (v := ?_) rfl (by kernel_rfl) (by kernel_rfl) (by kernel_rfl) (fun _ _ _ h => h) (Or.inl ⟨by rfl, ?hy10⟩) (by assumption) ?rest10
                        case hy10 =>
                          intro w hSw
                          try dsimp only at hSw
                          go_simp
                          try with_reducible rfl
                        try simp only [Act.put, List.setIfInBounds_toArray, List.set_cons_zero, List.set_cons_succ]
                        refine wpAnyH_take (i := 10) (oi := { dst := some 77, op := Go.Op.load 3 (Go.Operand.tmp 76), type := 3, pos := "ref.go:280", after := #[{ on := 9, ground := Go.Ground.data }, { on := 6, ground := Go.Ground.guard }], guard := some (6, false) }) (v := ?_) rfl (by kernel_rfl) (by kernel_rfl) (by kernel_rfl) (fun _ _ _ h => h) (Or.inl ⟨by rfl, ?hy11⟩) (by assumption) ?rest11
                        case hy11 =>
                          intro w hSw
                          try dsimp only at hSw
                          go_simp
                          try with_reducible rfl
                        try simp only [Act.put, List.setIfInBounds_toArray, List.set_cons_zero, List.set_cons_succ]
                        refine wpAnyH_take (i := 11) (oi := { dst := some 78, op := Go.Op.move (Go.Operand.tmp 7), type := 117, pos := "ref.go:280", after := #[{ on := 6, ground := Go.Ground.guard }], guard := some (6, false) }) (v := ?_) rfl (by kernel_rfl) (by kernel_rfl) (by kernel_rfl) (fun _ _ _ h => h) (Or.inl ⟨by rfl, ?hy12⟩) (by assumption) ?rest12
                        case hy12 =>
                          intro w hSw
                          try dsimp only at hSw
                          go_simp
                          try with_reducible rfl
                        try simp only [Act.put, List.setIfInBounds_toArray, List.set_cons_zero, List.set_cons_succ]
                        refine wpAnyH_take (i := 12) (oi := { dst := some 79, op := Go.Op.move (Go.Operand.tmp 11), type := 3, pos := "ref.go:280", after := #[{ on := 6, ground := Go.Ground.guard }], guard := some (6, false) }) (v := ?_) rfl (by kernel_rfl) (by kernel_rfl) (by kernel_rfl) (fun _ _ _ h => h) (Or.inl ⟨by rfl, ?hy13⟩) (by assumption) ?rest13
                        case hy13 =>
                          intro w hSw
                          try dsimp only at hSw
                          go_simp
                          try with_reducible rfl
                        try simp only [Act.put, List.setIfInBounds_toArray, List.set_cons_zero, List.set_cons_succ]
                        refine wpAnyH_take (i := 13) (oi := { dst := some 80, op := Go.Op.indexAddr 117 (Go.Operand.tmp 78) (Go.Operand.tmp 79), type := 0, pos := "ref.go:280", after := #[{ on := 11, ground := Go.Ground.data }, { on := 12, ground := Go.Ground.data }, { on := 6, ground := Go.Ground.guard }], guard := some (6, false) }) (v := ?_) rfl (by kernel_rfl) (by kernel_rfl) (by kernel_rfl) (fun _ _ _ h => h) (Or.inl ⟨by rfl, ?hy14⟩) (by assumption) ?rest14
                        case hy14 =>
                          intro w hSw
                          try dsimp only at hSw
                          go_simp
                          try with_reducible rfl
                        try simp only [Act.put, List.setIfInBounds_toArray, List.set_cons_zero, List.set_cons_succ]
                        refine wpAnyH_take (i := 14) (oi := { dst := some 81, op := Go.Op.load 3 (Go.Operand.tmp 80), type := 3, pos := "ref.go:280", after := #[{ on := 13, ground := Go.Ground.data }, { on := 6, ground := Go.Ground.guard }], guard := some (6, false) }) (v := ?_) rfl (by kernel_rfl) (by kernel_rfl) (by kernel_rfl) (fun _ _ _ h => h) (Or.inl ⟨by rfl, ?hy15⟩) (by assumption) ?rest15
                        case hy15 =>
                          intro w hSw
                          try dsimp only at hSw
                          go_simp
                          try with_reducible rfl
                        try simp only [Act.put, List.setIfInBounds_toArray, List.set_cons_zero, List.set_cons_succ]
                        refine wpAnyH_take (i := 15) (oi := { dst := some 82, op := Go.Op.binOp Go.BinOp.sub 3 (Go.Operand.tmp 77) (Go.Operand.tmp 81) 3, type := 3, pos := "ref.go:280", after := #[{ on := 10, ground := Go.Ground.data }, { on := 14, ground := Go.Ground.data }, { on := 6, ground := Go.Ground.guard }], guard := some (6, false) }) (v := ?_) rfl (by kernel_rfl) (by kernel_rfl) (by kernel_rfl) (fun _ _ _ h => h) (Or.inl ⟨by rfl, ?hy16⟩) (by assumption) ?rest16
                        case hy16 =>
                          intro w hSw
                          try dsimp only at hSw
                          go_simp
                          try with_reducible rfl
                        try simp only [Act.put, List.setIfInBounds_toArray, List.set_cons_zero, List.set_cons_succ]
                        refine wpAnyH_take (i := 16) (oi := { dst := some 83, op := Go.Op.fieldAddr 75 (Go.Operand.tmp 8) 3, type := 0, pos := "ref.go:280", after := #[{ on := 6, ground := Go.Ground.guard }], guard := some (6, false) }) (v := ?_) rfl (by kernel_rfl) (by kernel_rfl) (by kernel_rfl) (fun _ _ _ h => h) (Or.inl ⟨by rfl, ?hy17⟩) (by assumption) ?rest17
                        case hy17 =>
                          intro w hSw
                          try dsimp only at hSw
                          go_simp
                          try with_reducible rfl
                        try simp only [Act.put, List.setIfInBounds_toArray, List.set_cons_zero, List.set_cons_succ]
                        refine wpAnyH_take (i := 17) (oi := { dst := some 84, op := Go.Op.load 3 (Go.Operand.tmp 83), type := 3, pos := "ref.go:280", after := #[{ on := 16, ground := Go.Ground.data }, { on := 6, ground := Go.Ground.guard }], guard := some (6, false) }) (v := ?_) rfl (by kernel_rfl) (by kernel_rfl) (by kernel_rfl) (fun _ _ _ h => h) (Or.inl ⟨by rfl, ?hy18⟩) (by assumption) ?rest18
                        case hy18 =>
                          intro w hSw
                          try dsimp only at hSw
                          go_simp
                          try with_reducible rfl
                        try simp only [Act.put, List.setIfInBounds_toArray, List.set_cons_zero, List.set_cons_succ]
                        refine wpAnyH_take (i := 18) (oi := { dst := some 85, op := Go.Op.fieldAddr 75 (Go.Operand.tmp 8) 1, type := 0, pos := "ref.go:280", after := #[{ on := 6, ground := Go.Ground.guard }], guard := some (6, false) }) (v := ?_) rfl (by kernel_rfl) (by kernel_rfl) (by kernel_rfl) (fun _ _ _ h => h) (Or.inl ⟨by rfl, ?hy19⟩) (by assumption) ?rest19
                        case hy19 =>
                          intro w hSw
                          try dsimp only at hSw
                          go_simp
                          try with_reducible rfl
                        try simp only [Act.put, List.setIfInBounds_toArray, List.set_cons_zero, List.set_cons_succ]
                        refine wpAnyH_take (i := 19) (oi := { dst := some 86, op := Go.Op.load 3 (Go.Operand.tmp 85), type := 3, pos := "ref.go:280", after := #[{ on := 18, ground := Go.Ground.data }, { on := 6, ground := Go.Ground.guard }], guard := some (6, false) }) (v := ?_) rfl (by kernel_rfl) (by kernel_rfl) (by kernel_rfl) (fun _ _ _ h => h) (Or.inl ⟨by rfl, ?hy20⟩) (by assumption) ?rest20
                        case hy20 =>
                          intro w hSw
                          try dsimp only at hSw
                          go_simp
                          try with_reducible rfl
                        try simp only [Act.put, List.setIfInBounds_toArray, List.set_cons_zero, List.set_cons_succ]
                        refine wpAnyH_take (i := 20) (oi := { dst := some 87, op := Go.Op.binOp Go.BinOp.sub 3 (Go.Operand.tmp 84) (Go.Operand.tmp 86) 3, type := 3, pos := "ref.go:280", after := #[{ on := 17, ground := Go.Ground.data }, { on := 19, ground := Go.Ground.data }, { on := 6, ground := Go.Ground.guard }], guard := some (6, false) }) (v := ?_) rfl (by kernel_rfl) (by kernel_rfl) (by kernel_rfl) (fun _ _ _ h => h) (Or.inl ⟨by rfl, ?hy21⟩) (by assumption) ?rest21
                        case hy21 =>
                          intro w hSw
                          try dsimp only at hSw
                          go_simp
                          try with_reducible rfl
                        try simp only [Act.put, List.setIfInBounds_toArray, List.set_cons_zero, List.set_cons_succ]
                        refine wpAnyH_take (i := 21) (oi := { dst := some 88, op := Go.Op.binOp Go.BinOp.gtr 3 (Go.Operand.tmp 82) (Go.Operand.tmp 87) 3, type := 4, pos := "ref.go:280", after := #[{ on := 15, ground := Go.Ground.data }, { on := 20, ground := Go.Ground.data }, { on := 6, ground := Go.Ground.guard }], guard := some (6, false) }) (v := ?_) rfl (by kernel_rfl) (by kernel_rfl) (by kernel_rfl) (fun _ _ _ h => h) (Or.inl ⟨by rfl, ?hy22⟩) (by assumption) ?rest22
                        case hy22 =>
                          intro w hSw
                          try dsimp only at hSw
                          go_simp
                          try with_reducible rfl
                        try simp only [Act.put, List.setIfInBounds_toArray, List.set_cons_zero, List.set_cons_succ]
                        refine wpAnyH_take (i := 22) (oi := { dst := some 89, op := Go.Op.pick (Go.Operand.tmp 73) (Go.Operand.const (Go.Value.bool true)) (Go.Operand.tmp 88), type := 4, pos := "ref.go:280", after := #[{ on := 6, ground := Go.Ground.data }, { on := 21, ground := Go.Ground.data }, { on := 3, ground := Go.Ground.guard }], guard := some (3, true) }) (v := ?_) rfl (by kernel_rfl) (by kernel_rfl) (by kernel_rfl) (fun _ _ _ h => h) (Or.inl ⟨by rfl, ?hy23⟩) (by assumption) ?rest23
                        case hy23 =>
                          intro w hSw
                          try dsimp only at hSw
                          go_simp
                          try with_reducible rfl
                        try simp only [Act.put, List.setIfInBounds_toArray, List.set_cons_zero, List.set_cons_succ]
                        refine wpAnyH_take (i := 23) (oi := { dst := some 90, op := Go.Op.pick (Go.Operand.tmp 70) (Go.Operand.tmp 89) (Go.Operand.const (Go.Value.bool false)), type := 4, pos := "ref.go:280", after := #[{ on := 3, ground := Go.Ground.data }, { on := 22, ground := Go.Ground.data }], guard := none }) (v := ?_) rfl (by kernel_rfl) (by kernel_rfl) (by kernel_rfl) (fun _ _ _ h => h) (Or.inl ⟨by rfl, ?hy24⟩) (by assumption) ?rest24
                        case hy24 =>
                          intro w hSw
                          try dsimp only at hSw
                          go_simp
                          try with_reducible rfl
                        try simp only [Act.put, List.setIfInBounds_toArray, List.set_cons_zero, List.set_cons_succ]
                        refine wpAnyH_done (by kernel_rfl) ?_ _
                        clear hHeld2
                        have HSP := Lib.hid (HS.out.trans (show (bif true then pick ⟨x1, y1, x2, y2⟩ ⟨x, y, x + q, z⟩ else _) = (⟨x, y, x + q, z⟩ : Rc) from pick_lt hw))
                        obtain ⟨⟨b0, b1, b2, b3⟩, ⟨f0, f1, f2, f3⟩⟩ := HRW.out
                        simp only at b0 b1 b2 b3
                        have k0 := (HH.out.cell (p := ⟨wr.heap.size, 0, none⟩) QB.out).trans d0
                        have k1 := (HH.out.cell (p := ⟨wr.heap.size, 1, none⟩) QB.out).trans d1; have kk1 := (HH.out.cell (p := ⟨wr.heap.size, 0 + 1, none⟩) QB.out).trans d1
                        have k2 := (HH.out.cell (p := ⟨wr.heap.size, 2, none⟩) QB.out).trans d2; have kk2 := (HH.out.cell (p := ⟨wr.heap.size, 0 + 2, none⟩) QB.out).trans d2
                        have k3 := (HH.out.cell (p := ⟨wr.heap.size, 3, none⟩) QB.out).trans d3; have kk3 := (HH.out.cell (p := ⟨wr.heap.size, 0 + 3, none⟩) QB.out).trans d3
                        go_wp2
                        go_roundw
                        case rel =>
                          refine ⟨u + 1, by omega, by go_num, ?_, ?_, ?_, ?_⟩
                          · rw [HSP.out]; congr 1; symm; rw [decide_eq_true_eq]; show 0 < z - y; omega
                          · repeat (refine Below.setCell ?_ (by simp) _)
                            exact HB.out.trans ((HB2.out.mono (by omega)).trans (HH.out.mono (by omega)))
                          · simpa [World.setCell] using hsw
                          · rw [HSP.out]; exact HRW.out.put _ _ _ _
                        case measure => first | (simp [intOf]; done) | (simp [intOf]; omega)
                      · have hwd : decide (y2 - y1 < z - y) = false := decide_eq_false hw
                        refine wpAnyH_take (i := 4) (oi := { dst := some 71, op := Go.Op.move (Go.Operand.tmp 9), type := 4, pos := "ref.go:280", after := #[{ on := 3, ground := Go.Ground.guard }], guard := some (3, true) }) (v := ?_) rfl (by kernel_rfl) (by kernel_rfl) (by kernel_rfl) (fun _ _ _ h => h) (Or.inl ⟨by rfl, ?hy25⟩) (by assumption) ?rest25
                        case hy25 =>
                          intro w hSw
                          try dsimp only at hSw
                          go_simp
                          try with_reducible rfl
                        try simp only [Act.put, List.setIfInBounds_toArray, List.set_cons_zero, List.set_cons_succ]
                        refine wpAnyH_take (i := 5) (oi := { dst := some 72, op := Go.Op.unOp Go.UnOp.not 4 (Go.Operand.tmp 71), type := 4, pos := "ref.go:280", after := #[{ on := 4, ground := Go.Ground.data }, { on := 3, ground := Go.Ground.guard }], guard := some (3, true) }) (v := ?_) rfl (by kernel_rfl) (by kernel_rfl) (by kernel_rfl) (fun _ _ _ h => h) (Or.inl ⟨by rfl, ?hy26⟩) (by assumption) ?rest26
                        case hy26 =>
                          intro w hSw
                          try dsimp only at hSw
                          go_simp
                          try with_reducible rfl
                        try simp only [Act.put, List.setIfInBounds_toArray, List.set_cons_zero, List.set_cons_succ]
                        refine wpAnyH_take (i := 6) (oi := { dst := some 73, op := Go.Op.move (Go.Operand.tmp 72), type := 4, pos := "ref.go:280", after := #[{ on := 5, ground := Go.Ground.data }, { on := 3, ground := Go.Ground.chain }, { on := 3, ground := Go.Ground.guard }], guard := some (3, true) }) (v := ?_) rfl (by kernel_rfl) (by kernel_rfl) (by kernel_rfl) (fun _ _ _ h => h) (Or.inl ⟨by rfl, ?hy27⟩) (by assumption) ?rest27
                        case hy27 =>
                          intro w hSw
                          try dsimp only at hSw
                          go_simp
                          try with_reducible rfl
                        try simp only [Act.put, List.setIfInBounds_toArray, List.set_cons_zero, List.set_cons_succ]
                        refine wpAnyH_take (i := 7) (oi := { dst := some 74, op := Go.Op.move (Go.Operand.tmp 7), type := 117, pos := "ref.go:280", after := #[{ on := 6, ground := Go.Ground.guard }], guard := some (6, false) }) (v := ?_) rfl (by kernel_rfl) (by kernel_rfl) (by kernel_rfl) (fun _ _ _ h => h) (Or.inl ⟨by rfl, ?hy28⟩) (by assumption) ?rest28
                        case hy28 =>
                          intro w hSw
                          try dsimp only at hSw
                          go_simp
                          try with_reducible rfl
                        try simp only [Act.put, List.setIfInBounds_toArray, List.set_cons_zero, List.set_cons_succ]
                        refine wpAnyH_take (i := 8) (oi := { dst := some 75, op := Go.Op.move (Go.Operand.tmp 12), type := 3, pos := "ref.go:280", after := #[{ on := 6, ground := Go.Ground.guard }], guard := some (6, false) }) (v := ?_) rfl (by kernel_rfl) (by kernel_rfl) (by kernel_rfl) (fun _ _ _ h => h) (Or.inl ⟨by rfl, ?hy29⟩) (by assumption) ?rest29
                        case hy29 =>
                          intro w hSw
                          try dsimp only at hSw
                          go_simp
                          try with_reducible rfl
                        try simp only [Act.put, List.setIfInBounds_toArray, List.set_cons_zero, List.set_cons_succ]
                        refine wpAnyH_take (i := 9) (oi := { dst := some 76, op := Go.Op.indexAddr 117 (Go.Operand.tmp 74) (Go.Operand.tmp 75), type := 0, pos := "ref.go:280", after := #[{ on := 7, ground := Go.Ground.data }, { on := 8, ground := Go.Ground.data }, { on := 6, ground := Go.Ground.guard }], guard := some (6, false) }) (v := ?_) rfl (by kernel_rfl) (by kernel_rfl) (by kernel_rfl) (fun _ _ _ h => h) (Or.inl ⟨by rfl, ?hy30⟩) (by assumption) ?rest30
                        case hy30 =>
                          intro w hSw
                          try dsimp only at hSw
                          go_simp
                          try with_reducible rfl
                        try simp only [Act.put, List.setIfInBounds_toArray, List.set_cons_zero, List.set_cons_succ]
                        refine wpAnyH_take (i := 10) (oi := { dst := some 77, op := Go.Op.load 3 (Go.Operand.tmp 76), type := 3, pos := "ref.go:280", after := #[{ on := 9, ground := Go.Ground.data }, { on := 6, ground := Go.Ground.guard }], guard := some (6, false) }) (v := ?_) rfl (by kernel_rfl) (by kernel_rfl) (by kernel_rfl) (fun _ _ _ h => h) (Or.inl ⟨by rfl, ?hy31⟩) (by assumption) ?rest31
                        case hy31 =>
                          intro w hSw
                          try dsimp only at hSw
                          go_simp
                          try with_reducible rfl
                        try simp only [Act.put, List.setIfInBounds_toArray, List.set_cons_zero, List.set_cons_succ]
                        refine wpAnyH_take (i := 11) (oi := { dst := some 78, op := Go.Op.move (Go.Operand.tmp 7), type := 117, pos := "ref.go:280", after := #[{ on := 6, ground := Go.Ground.guard }], guard := some (6, false) }) (v := ?_) rfl (by kernel_rfl) (by kernel_rfl) (by kernel_rfl) (fun _ _ _ h => h) (Or.inl ⟨by rfl, ?hy32⟩) (by assumption) ?rest32
                        case hy32 =>
                          intro w hSw
                          try dsimp only at hSw
                          go_simp
                          try with_reducible rfl
                        try simp only [Act.put, List.setIfInBounds_toArray, List.set_cons_zero, List.set_cons_succ]
                        refine wpAnyH_take (i := 12) (oi := { dst := some 79, op := Go.Op.move (Go.Operand.tmp 11), type := 3, pos := "ref.go:280", after := #[{ on := 6, ground := Go.Ground.guard }], guard := some (6, false) }) (v := ?_) rfl (by kernel_rfl) (by kernel_rfl) (by kernel_rfl) (fun _ _ _ h => h) (Or.inl ⟨by rfl, ?hy33⟩) (by assumption) ?rest33
                        case hy33 =>
                          intro w hSw
                          try dsimp only at hSw
                          go_simp
                          try with_reducible rfl
                        try simp only [Act.put, List.setIfInBounds_toArray, List.set_cons_zero, List.set_cons_succ]
                        refine wpAnyH_take (i := 13) (oi := { dst := some 80, op := Go.Op.indexAddr 117 (Go.Operand.tmp 78) (Go.Operand.tmp 79), type := 0, pos := "ref.go:280", after := #[{ on := 11, ground := Go.Ground.data }, { on := 12, ground := Go.Ground.data }, { on := 6, ground := Go.Ground.guard }], guard := some (6, false) }) (v := ?_) rfl (by kernel_rfl) (by kernel_rfl) (by kernel_rfl) (fun _ _ _ h => h) (Or.inl ⟨by rfl, ?hy34⟩) (by assumption) ?rest34
                        case hy34 =>
                          intro w hSw
                          try dsimp only at hSw
                          go_simp
                          try with_reducible rfl
                        try simp only [Act.put, List.setIfInBounds_toArray, List.set_cons_zero, List.set_cons_succ]
                        refine wpAnyH_take (i := 14) (oi := { dst := some 81, op := Go.Op.load 3 (Go.Operand.tmp 80), type := 3, pos := "ref.go:280", after := #[{ on := 13, ground := Go.Ground.data }, { on := 6, ground := Go.Ground.guard }], guard := some (6, false) }) (v := ?_) rfl (by kernel_rfl) (by kernel_rfl) (by kernel_rfl) (fun _ _ _ h => h) (Or.inl ⟨by rfl, ?hy35⟩) (by assumption) ?rest35
                        case hy35 =>
                          intro w hSw
                          try dsimp only at hSw
                          go_simp
                          try with_reducible rfl
                        try simp only [Act.put, List.setIfInBounds_toArray, List.set_cons_zero, List.set_cons_succ]
                        refine wpAnyH_take (i := 15) (oi := { dst := some 82, op := Go.Op.binOp Go.BinOp.sub 3 (Go.Operand.tmp 77) (Go.Operand.tmp 81) 3, type := 3, pos := "ref.go:280", after := #[{ on := 10, ground := Go.Ground.data }, { on := 14, ground := Go.Ground.data }, { on := 6, ground := Go.Ground.guard }], guard := some (6, false) }) (v := ?_) rfl (by kernel_rfl) (by kernel_rfl) (by kernel_rfl) (fun _ _ _ h => h) (Or.inl ⟨by rfl, ?hy36⟩) (by assumption) ?rest36
                        case hy36 =>
                          intro w hSw
                          try dsimp only at hSw
                          go_simp
                          try with_reducible rfl
                        try simp only [Act.put, List.setIfInBounds_toArray, List.set_cons_zero, List.set_cons_succ]
                        refine wpAnyH_take (i := 16) (oi := { dst := some 83, op := Go.Op.fieldAddr 75 (Go.Operand.tmp 8) 3, type := 0, pos := "ref.go:280", after := #[{ on := 6, ground := Go.Ground.guard }], guard := some (6, false) }) (v := ?_) rfl (by kernel_rfl) (by kernel_rfl) (by kernel_rfl) (fun _ _ _ h => h) (Or.inl ⟨by rfl, ?hy37⟩) (by assumption) ?rest37
                        case hy37 =>
                          intro w hSw
                          try dsimp only at hSw
                          go_simp
                          try with_reducible rfl
                        try simp only [Act.put, List.setIfInBounds_toArray, List.set_cons_zero, List.set_cons_succ]
                        refine wpAnyH_take (i := 17) (oi := { dst := some 84, op := Go.Op.load 3 (Go.Operand.tmp 83), type := 3, pos := "ref.go:280", after := #[{ on := 16, ground := Go.Ground.data }, { on := 6, ground := Go.Ground.guard }], guard := some (6, false) }) (v := ?_) rfl (by kernel_rfl) (by kernel_rfl) (by kernel_rfl) (fun _ _ _ h => h) (Or.inl ⟨by rfl, ?hy38⟩) (by assumption) ?rest38
                        case hy38 =>
                          intro w hSw
                          try dsimp only at hSw
                          go_simp
                          try with_reducible rfl
                        try simp only [Act.put, List.setIfInBounds_toArray, List.set_cons_zero, List.set_cons_succ]
                        refine wpAnyH_take (i := 18) (oi := { dst := some 85, op := Go.Op.fieldAddr 75 (Go.Operand.tmp 8) 1, type := 0, pos := "ref.go:280", after := #[{ on := 6, ground := Go.Ground.guard }], guard := some (6, false) }) (v := ?_) rfl (by kernel_rfl) (by kernel_rfl) (by kernel_rfl) (fun _ _ _ h => h) (Or.inl ⟨by rfl, ?hy39⟩) (by assumption) ?rest39
                        case hy39 =>
                          intro w hSw
                          try dsimp only at hSw
                          go_simp
                          try with_reducible rfl
                        try simp only [Act.put, List.setIfInBounds_toArray, List.set_cons_zero, List.set_cons_succ]
                        refine wpAnyH_take (i := 19) (oi := { dst := some 86, op := Go.Op.load 3 (Go.Operand.tmp 85), type := 3, pos := "ref.go:280", after := #[{ on := 18, ground := Go.Ground.data }, { on := 6, ground := Go.Ground.guard }], guard := some (6, false) }) (v := ?_) rfl (by kernel_rfl) (by kernel_rfl) (by kernel_rfl) (fun _ _ _ h => h) (Or.inl ⟨by rfl, ?hy40⟩) (by assumption) ?rest40
                        case hy40 =>
                          intro w hSw
                          try dsimp only at hSw
                          go_simp
                          try with_reducible rfl
                        try simp only [Act.put, List.setIfInBounds_toArray, List.set_cons_zero, List.set_cons_succ]
                        refine wpAnyH_take (i := 20) (oi := { dst := some 87, op := Go.Op.binOp Go.BinOp.sub 3 (Go.Operand.tmp 84) (Go.Operand.tmp 86) 3, type := 3, pos := "ref.go:280", after := #[{ on := 17, ground := Go.Ground.data }, { on := 19, ground := Go.Ground.data }, { on := 6, ground := Go.Ground.guard }], guard := some (6, false) }) (v := ?_) rfl (by kernel_rfl) (by kernel_rfl) (by kernel_rfl) (fun _ _ _ h => h) (Or.inl ⟨by rfl, ?hy41⟩) (by assumption) ?rest41
                        case hy41 =>
                          intro w hSw
                          try dsimp only at hSw
                          go_simp
                          try with_reducible rfl
                        try simp only [Act.put, List.setIfInBounds_toArray, List.set_cons_zero, List.set_cons_succ]
                        refine wpAnyH_take (i := 21) (oi := { dst := some 88, op := Go.Op.binOp Go.BinOp.gtr 3 (Go.Operand.tmp 82) (Go.Operand.tmp 87) 3, type := 4, pos := "ref.go:280", after := #[{ on := 15, ground := Go.Ground.data }, { on := 20, ground := Go.Ground.data }, { on := 6, ground := Go.Ground.guard }], guard := some (6, false) }) (v := ?_) rfl (by kernel_rfl) (by kernel_rfl) (by kernel_rfl) (fun _ _ _ h => h) (Or.inl ⟨by rfl, ?hy42⟩) (by assumption) ?rest42
                        case hy42 =>
                          intro w hSw
                          try dsimp only at hSw
                          go_simp
                          try with_reducible rfl
                        try simp only [Act.put, List.setIfInBounds_toArray, List.set_cons_zero, List.set_cons_succ]
                        refine wpAnyH_take (i := 22) (oi := { dst := some 89, op := Go.Op.pick (Go.Operand.tmp 73) (Go.Operand.const (Go.Value.bool true)) (Go.Operand.tmp 88), type := 4, pos := "ref.go:280", after := #[{ on := 6, ground := Go.Ground.data }, { on := 21, ground := Go.Ground.data }, { on := 3, ground := Go.Ground.guard }], guard := some (3, true) }) (v := ?_) rfl (by kernel_rfl) (by kernel_rfl) (by kernel_rfl) (fun _ _ _ h => h) (Or.inl ⟨by rfl, ?hy43⟩) (by assumption) ?rest43
                        case hy43 =>
                          intro w hSw
                          try dsimp only at hSw
                          go_simp
                          try with_reducible rfl
                        try simp only [Act.put, List.setIfInBounds_toArray, List.set_cons_zero, List.set_cons_succ]
                        refine wpAnyH_take (i := 23) (oi := { dst := some 90, op := Go.Op.pick (Go.Operand.tmp 70) (Go.Operand.tmp 89) (Go.Operand.const (Go.Value.bool false)), type := 4, pos := "ref.go:280", after := #[{ on := 3, ground := Go.Ground.data }, { on := 22, ground := Go.Ground.data }], guard := none }) (v := ?_) rfl (by kernel_rfl) (by kernel_rfl) (by kernel_rfl) (fun _ _ _ h => h) (Or.inl ⟨by rfl, ?hy44⟩) (by assumption) ?rest44
                        case hy44 =>
                          intro w hSw
                          try dsimp only at hSw
                          go_simp
                          try with_reducible rfl
                        try simp only [Act.put, List.setIfInBounds_toArray, List.set_cons_zero, List.set_cons_succ]
                        refine wpAnyH_done (by kernel_rfl) ?_ _
                        clear hHeld2
                        have HSP := Lib.hid (HS.out.trans (show (bif true then pick ⟨x1, y1, x2, y2⟩ ⟨x, y, x + q, z⟩ else _) = (⟨x1, y1, x2, y2⟩ : Rc) from pick_ge hw))
                        go_wp2
                        go_roundw
                        case rel => exact ⟨u + 1, by omega, by go_num, by rw [HSP.out, decide_eq_true hf], HB.out.trans ((HB2.out.mono (by omega)).trans (HH.out.mono (by omega))), hsw, by rw [HSP.out]; exact HRW.out⟩
                        case measure => first | (simp [intOf]; done) | (simp [intOf]; omega)
                    · rw [decide_eq_false hf]
                      refine wpAnyH_take (i := 4) (oi := { dst := some 71, op := Go.Op.move (Go.Operand.tmp 9), type := 4, pos := "ref.go:280", after := #[{ on := 3, ground := Go.Ground.guard }], guard := some (3, true) }) (v := ?_) rfl (by kernel_rfl) (by kernel_rfl) (by kernel_rfl) (fun _ _ _ h => h) (Or.inl ⟨by rfl, ?hy45⟩) (by assumption) ?rest45
                      case hy45 =>
                        intro w hSw
                        try dsimp only at hSw
                        go_simp
                        try with_reducible rfl
                      try simp only [Act.put, List.setIfInBounds_toArray, List.set_cons_zero, List.set_cons_succ]
                      refine wpAnyH_take (i := 5) (oi := { dst := some 72, op := Go.Op.unOp Go.UnOp.not 4 (Go.Operand.tmp 71), type := 4, pos := "ref.go:280", after := #[{ on := 4, ground := Go.Ground.data }, { on := 3, ground := Go.Ground.guard }], guard := some (3, true) }) (v := ?_) rfl (by kernel_rfl) (by kernel_rfl) (by kernel_rfl) (fun _ _ _ h => h) (Or.inl ⟨by rfl, ?hy46⟩) (by assumption) ?rest46
                      case hy46 =>
                        intro w hSw
                        try dsimp only at hSw
                        go_simp
                        try with_reducible rfl
                      try simp only [Act.put, List.setIfInBounds_toArray, List.set_cons_zero, List.set_cons_succ]
                      refine wpAnyH_take (i := 6) (oi := { dst := some 73, op := Go.Op.move (Go.Operand.tmp 72), type := 4, pos := "ref.go:280", after := #[{ on := 5, ground := Go.Ground.data }, { on := 3, ground := Go.Ground.chain }, { on := 3, ground := Go.Ground.guard }], guard := some (3, true) }) (v := ?_) rfl (by kernel_rfl) (by kernel_rfl) (by kernel_rfl) (fun _ _ _ h => h) (Or.inl ⟨by rfl, ?hy47⟩) (by assumption) ?rest47
                      case hy47 =>
                        intro w hSw
                        try dsimp only at hSw
                        go_simp
                        try with_reducible rfl
                      try simp only [Act.put, List.setIfInBounds_toArray, List.set_cons_zero, List.set_cons_succ]
                      refine wpAnyH_take (i := 7) (oi := { dst := some 74, op := Go.Op.move (Go.Operand.tmp 7), type := 117, pos := "ref.go:280", after := #[{ on := 6, ground := Go.Ground.guard }], guard := some (6, false) }) (v := undef) rfl (by kernel_rfl) (by kernel_rfl) (by kernel_rfl) (fun _ _ _ h => h) (Or.inr ⟨by kernel_rfl, rfl⟩) (by assumption) ?_
                      try simp only [Act.put, List.setIfInBounds_toArray, List.set_cons_zero, List.set_cons_succ]
                      refine wpAnyH_take (i := 8) (oi := { dst := some 75, op := Go.Op.move (Go.Operand.tmp 12), type := 3, pos := "ref.go:280", after := #[{ on := 6, ground := Go.Ground.guard }], guard := some (6, false) }) (v := undef) rfl (by kernel_rfl) (by kernel_rfl) (by kernel_rfl) (fun _ _ _ h => h) (Or.inr ⟨by kernel_rfl, rfl⟩) (by assumption) ?_
                      try simp only [Act.put, List.setIfInBounds_toArray, List.set_cons_zero, List.set_cons_succ]
                      refine wpAnyH_take (i := 9) (oi := { dst := some 76, op := Go.Op.indexAddr 117 (Go.Operand.tmp 74) (Go.Operand.tmp 75), type := 0, pos := "ref.go:280", after := #[{ on := 7, ground := Go.Ground.data }, { on := 8, ground := Go.Ground.data }, { on := 6, ground := Go.Ground.guard }], guard := some (6, false) }) (v := undef) rfl (by kernel_rfl) (by kernel_rfl) (by kernel_rfl) (fun _ _ _ h => h) (Or.inr ⟨by kernel_rfl, rfl⟩) (by assumption) ?_
                      try simp only [Act.put, List.setIfInBounds_toArray, List.set_cons_zero, List.set_cons_succ]
                      refine wpAnyH_take (i := 10) (oi := { dst := some 77, op := Go.Op.load 3 (Go.Operand.tmp 76), type := 3, pos := "ref.go:280", after := #[{ on := 9, ground := Go.Ground.data }, { on := 6, ground := Go.Ground.guard }], guard := some (6, false) }) (v := undef) rfl (by kernel_rfl) (by kernel_rfl) (by kernel_rfl) (fun _ _ _ h => h) (Or.inr ⟨by kernel_rfl, rfl⟩) (by assumption) ?_
                      try simp only [Act.put, List.setIfInBounds_toArray, List.set_cons_zero, List.set_cons_succ]
                      refine wpAnyH_take (i := 11) (oi := { dst := some 78, op := Go.Op.move (Go.Operand.tmp 7), type := 117, pos := "ref.go:280", after := #[{ on := 6, ground := Go.Ground.guard }], guard := some (6, false) }) (v := undef) rfl (by kernel_rfl) (by kernel_rfl) (by kernel_rfl) (fun _ _ _ h => h) (Or.inr ⟨by kernel_rfl, rfl⟩) (by assumption) ?_
                      try simp only [Act.put, List.setIfInBounds_toArray, List.set_cons_zero, List.set_cons_succ]
                      refine wpAnyH_take (i := 12) (oi := { dst := some 79, op := Go.Op.move (Go.Operand.tmp 11), type := 3, pos := "ref.go:280", after := #[{ on := 6, ground := Go.Ground.guard }], guard := some (6, false) }) (v := undef) rfl (by kernel_rfl) (by kernel_rfl) (by kernel_rfl) (fun _ _ _ h => h) (Or.inr ⟨by kernel_rfl, rfl⟩) (by assumption) ?_
                      try simp only [Act.put, List.setIfInBounds_toArray, List.set_cons_zero, List.set_cons_succ]
                      refine wpAnyH_take (i := 13) (oi := { dst := some 80, op := Go.Op.indexAddr 117 (Go.Operand.tmp 78) (Go.Operand.tmp 79), type := 0, pos := "ref.go:280", after := #[{ on := 11, ground := Go.Ground.data }, { on := 12, ground := Go.Ground.data }, { on := 6, ground := Go.Ground.guard }], guard := some (6, false) }) (v := undef) rfl (by kernel_rfl) (by kernel_rfl) (by kernel_rfl) (fun _ _ _ h => h) (Or.inr ⟨by kernel_rfl, rfl⟩) (by assumption) ?_
                      try simp only [Act.put, List.setIfInBounds_toArray, List.set_cons_zero, List.set_cons_succ]
                      refine wpAnyH_take (i := 14) (oi := { dst := some 81, op := Go.Op.load 3 (Go.Operand.tmp 80), type := 3, pos := "ref.go:280", after := #[{ on := 13, ground := Go.Ground.data }, { on := 6, ground := Go.Ground.guard }], guard := some (6, false) }) (v := undef) rfl (by kernel_rfl) (by kernel_rfl) (by kernel_rfl) (fun _ _ _ h => h) (Or.inr ⟨by kernel_rfl, rfl⟩) (by assumption) ?_
                      try simp only [Act.put, List.setIfInBounds_toArray, List.set_cons_zero, List.set_cons_succ]
                      refine wpAnyH_take (i := 15) (oi := { dst := some 82, op := Go.Op.binOp Go.BinOp.sub 3 (Go.Operand.tmp 77) (Go.Operand.tmp 81) 3, type := 3, pos := "ref.go:280", after := #[{ on := 10, ground := Go.Ground.data }, { on := 14, ground := Go.Ground.data }, { on := 6, ground := Go.Ground.guard }], guard := some (6, false) }) (v := undef) rfl (by kernel_rfl) (by kernel_rfl) (by kernel_rfl) (fun _ _ _ h => h) (Or.inr ⟨by kernel_rfl, rfl⟩) (by assumption) ?_
                      try simp only [Act.put, List.setIfInBounds_toArray, List.set_cons_zero, List.set_cons_succ]
                      refine wpAnyH_take (i := 16) (oi := { dst := some 83, op := Go.Op.fieldAddr 75 (Go.Operand.tmp 8) 3, type := 0, pos := "ref.go:280", after := #[{ on := 6, ground := Go.Ground.guard }], guard := some (6, false) }) (v := undef) rfl (by kernel_rfl) (by kernel_rfl) (by kernel_rfl) (fun _ _ _ h => h) (Or.inr ⟨by kernel_rfl, rfl⟩) (by assumption) ?_
                      try simp only [Act.put, List.setIfInBounds_toArray, List.set_cons_zero, List.set_cons_succ]
                      refine wpAnyH_take (i := 17) (oi := { dst := some 84, op := Go.Op.load 3 (Go.Operand.tmp 83), type := 3, pos := "ref.go:280", after := #[{ on := 16, ground := Go.Ground.data }, { on := 6, ground := Go.Ground.guard }], guard := some (6, false) }) (v := undef) rfl (by kernel_rfl) (by kernel_rfl) (by kernel_rfl) (fun _ _ _ h => h) (Or.inr ⟨by kernel_rfl, rfl⟩) (by assumption) ?_
                      try simp only [Act.put, List.setIfInBounds_toArray, List.set_cons_zero, List.set_cons_succ]
                      refine wpAnyH_take (i := 18) (oi := { dst := some 85, op := Go.Op.fieldAddr 75 (Go.Operand.tmp 8) 1, type := 0, pos := "ref.go:280", after := #[{ on := 6, ground := Go.Ground.guard }], guard := some (6, false) }) (v := undef) rfl (by kernel_rfl) (by kernel_rfl) (by kernel_rfl) (fun _ _ _ h => h) (Or.inr ⟨by kernel_rfl, rfl⟩) (by assumption) ?_
                      try simp only [Act.put, List.setIfInBounds_toArray, List.set_cons_zero, List.set_cons_succ]
                      refine wpAnyH_take (i := 19) (oi := { dst := some 86, op := Go.Op.load 3 (Go.Operand.tmp 85), type := 3, pos := "ref.go:280", after := #[{ on := 18, ground := Go.Ground.data }, { on := 6, ground := Go.Ground.guard }], guard := some (6, false) }) (v := undef) rfl (by kernel_rfl) (by kernel_rfl) (by kernel_rfl) (fun _ _ _ h => h) (Or.inr ⟨by kernel_rfl, rfl⟩) (by assumption) ?_
                      try simp only [Act.put, List.setIfInBounds_toArray, List.set_cons_zero, List.set_cons_succ]
                      refine wpAnyH_take (i := 20) (oi := { dst := some 87, op := Go.Op.binOp Go.BinOp.sub 3 (Go.Operand.tmp 84) (Go.Operand.tmp 86) 3, type := 3, pos := "ref.go:280", after := #[{ on := 17, ground := Go.Ground.data }, { on := 19, ground := Go.Ground.data }, { on := 6, ground := Go.Ground.guard }], guard := some (6, false) }) (v := undef) rfl (by kernel_rfl) (by kernel_rfl) (by kernel_rfl) (fun _ _ _ h => h) (Or.inr ⟨by kernel_rfl, rfl⟩) (by assumption) ?_
                      try simp only [Act.put, List.setIfInBounds_toArray, List.set_cons_zero, List.set_cons_succ]
                      refine wpAnyH_take (i := 21) (oi := { dst := some 88, op := Go.Op.binOp Go.BinOp.gtr 3 (Go.Operand.tmp 82) (Go.Operand.tmp 87) 3, type := 4, pos := "ref.go:280", after := #[{ on := 15, ground := Go.Ground.data }, { on := 20, ground := Go.Ground.data }, { on := 6, ground := Go.Ground.guard }], guard := some (6, false) }) (v := undef) rfl (by kernel_rfl) (by kernel_rfl) (by kernel_rfl) (fun _ _ _ h => h) (Or.inr ⟨by kernel_rfl, rfl⟩) (by assumption) ?_
                      try simp only [Act.put, List.setIfInBounds_toArray, List.set_cons_zero, List.set_cons_succ]
                      refine wpAnyH_take (i := 22) (oi := { dst := some 89, op := Go.Op.pick (Go.Operand.tmp 73) (Go.Operand.const (Go.Value.bool true)) (Go.Operand.tmp 88), type := 4, pos := "ref.go:280", after := #[{ on := 6, ground := Go.Ground.data }, { on := 21, ground := Go.Ground.data }, { on := 3, ground := Go.Ground.guard }], guard := some (3, true) }) (v := ?_) rfl (by kernel_rfl) (by kernel_rfl) (by kernel_rfl) (fun _ _ _ h => h) (Or.inl ⟨by rfl, ?hy48⟩) (by assumption) ?rest48
                      case hy48 =>
                        intro w hSw
                        try dsimp only at hSw
                        go_simp
                        try with_reducible rfl
                      try simp only [Act.put, List.setIfInBounds_toArray, List.set_cons_zero, List.set_cons_succ]
                      refine wpAnyH_take (i := 23) (oi := { dst := some 90, op := Go.Op.pick (Go.Operand.tmp 70) (Go.Operand.tmp 89) (Go.Operand.const (Go.Value.bool false)), type := 4, pos := "ref.go:280", after := #[{ on := 3, ground := Go.Ground.data }, { on := 22, ground := Go.Ground.data }], guard := none }) (v := ?_) rfl (by kernel_rfl) (by kernel_rfl) (by kernel_rfl) (fun _ _ _ h => h) (Or.inl ⟨by rfl, ?hy49⟩) (by assumption) ?rest49
                      case hy49 =>
                        intro w hSw
                        try dsimp only at hSw
                        go_simp
                        try with_reducible rfl
                      try simp only [Act.put, List.setIfInBounds_toArray, List.set_cons_zero, List.set_cons_succ]
                      refine wpAnyH_done (by kernel_rfl) ?_ _
                      clear hHeld2
                      have HSP := Lib.hid (HS.out.trans (show (bif true then pick ⟨x1, y1, x2, y2⟩ ⟨x, y, x + q, z⟩ else _) = (⟨x, y, x + q, z⟩ : Rc) from pick_lt (by show wdt ⟨x1, y1, x2, y2⟩ < z - y; omega)))
                      obtain ⟨⟨b0, b1, b2, b3⟩, ⟨f0, f1, f2, f3⟩⟩ := HRW.out
                      simp only at b0 b1 b2 b3
                      have k0 := (HH.out.cell (p := ⟨wr.heap.size, 0, none⟩) QB.out).trans d0
                      have k1 := (HH.out.cell (p := ⟨wr.heap.size, 1, none⟩) QB.out).trans d1; have kk1 := (HH.out.cell (p := ⟨wr.heap.size, 0 + 1, none⟩) QB.out).trans d1
                      have k2 := (HH.out.cell (p := ⟨wr.heap.size, 2, none⟩) QB.out).trans d2; have kk2 := (HH.out.cell (p := ⟨wr.heap.size, 0 + 2, none⟩) QB.out).trans d2
                      have k3 := (HH.out.cell (p := ⟨wr.heap.size, 3, none⟩) QB.out).trans d3; have kk3 := (HH.out.cell (p := ⟨wr.heap.size, 0 + 3, none⟩) QB.out).trans d3
                      go_wp2
                      go_roundw
                      case rel =>
                        refine ⟨u + 1, by omega, by go_num, ?_, ?_, ?_, ?_⟩
                        · rw [HSP.out]; congr 1; symm; rw [decide_eq_true_eq]; show 0 < z - y; omega
                        · repeat (refine Below.setCell ?_ (by simp) _)
                          exact HB.out.trans ((HB2.out.mono (by omega)).trans (HH.out.mono (by omega)))
                        · simpa [World.setCell] using hsw
                        · rw [HSP.out]; exact HRW.out.put _ _ _ _
                      case measure => first | (simp [intOf]; done) | (simp [intOf]; omega)
                · have hk' : k + 1 + u = m := by omega
                  have hu' : m - (k + 1) = u := by omega
                  rw [hu'] at HS2
                  have hge : decide (((k + 1 + u : Nat) : Int) < m) = false := decide_eq_false (by omega)
                  have hge2 : ¬ (k : Int) + 1 + (u : Int) < m := by omega
                  clear hbw hrr hk' hu'
                  go_wp2
                  go_roundw
                  case rel => exact ⟨k + 1, by omega, by go_num, by rw [HS2.out], HB.out, hsr, by rw [HS2.out]; exact HRR.out⟩
                  case measure => first | (simp [intOf]; done) | (simp [intOf]; omega)
            · have hk' : k = m := by omega
              rw [hk'] at HRR ⊢
              rw [← HS.out] at HRR
              clear hbw hrr
              go_wp2
              go_roundw
              case rel => exact ⟨i + 1, by omega, by go_num, by rw [HS.out], HB.out, hsr, HRR.out⟩
              case measure => first | (simp [intOf]; done) | (simp [intOf]; omega)
      · have hi' : i = n := by omega
        have hall : iTo ⟨nm, sp, ln, wd, th, cu, mo, ds⟩ q xs ys i = ⟨X1, Y1, X2, Y2⟩ := by rw [hi']; exact HWR.out
        rw [hall] at HRR ⊢
        subst hi'
        obtain ⟨⟨b0, b1, b2, b3⟩, -⟩ := HRR.out
        obtain ⟨⟨z0, z1, z2, z3⟩, ⟨f0, f1, f2, f3⟩⟩ := HR.out.below hbw (by omega)
        have hsr1 : w.heap.size + 1 < wr.heap.size := by omega
        clear hbw hrr hall
        rw [HFB.out]
        simp only at b0 b1 b2 b3
        rename (Exit → Act → World → Prop) => QQ
        have HQQ := Lib.hid (show QQ = bodyPost Try.prog Try.f54 (fun e w' => e = .returned (.tuple #[.agg #[.int .i64 X1, .int .i64 Y1, .int .i64 X2, .int .i64 Y2], .bool fb]) ∧ Below w.heap.size w w') from rfl)
        clear_value QQ
        go_wp2
        rw [HQQ.out]
        refine bodyPost_ret (v := .tuple #[.agg #[.int .i64 X1, .int .i64 Y1, .int .i64 X2, .int .i64 Y2], .bool fb]) ?_ ?_ ?_
        · simp [results, Try.results54, go_sem, z0, z1, z2, z3]
        · rfl
        refine ⟨rfl, ?_⟩
        repeat (refine Below.setCell ?_ (by simp) _)
        exact HBR.out
end Go.Proofs.Ytnjbhidncicfiaa
