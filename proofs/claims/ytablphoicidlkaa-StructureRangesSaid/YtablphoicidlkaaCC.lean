/- The reference of beams: shear forces, moments. -/
import Derived.Test.YtablphoicidlkaaCB
namespace Go.Proofs.Ytablphoicidlkaa
open Go.RowKit

theorem cutV_bd {b : Bm} {l : List Pt} {S : Int} (x : Int) (hb : BmOk b) (hl : WtOk b.s l S) (k : Nat) : (sumL (cutV b x) (l.take k)).natAbs ≤ 200000000 := by
  have E1 : Ev b.s b.s 2000 := .of (by have := hb.s0; have := hb.s1; omega)
  refine Nat.le_trans (sumL_bd8 (f := cutV b x) (B := 8000000) (Nat.le_trans (List.length_take_le' ..) hl.len) (fun p hp => ?_)) (by decide)
  have hp' := hl.pt p (List.mem_of_mem_take hp)
  have E5 : Ev p.n p.n 2000 := .of (by have := hp'.n0; have := hp'.n1; omega)
  unfold cutV
  cases decide (p.a ≤ x)
  · show (0 : Int).natAbs ≤ _; decide
  · exact ev_bd (Ev.mul (Ev.mul (Ev.lit (-2)) E1) E5) (by decide +kernel)
theorem cutM_bd {b : Bm} {l : List Pt} {S x : Int} (x0 : 0 ≤ x) (x1 : x ≤ b.s) (hb : BmOk b) (hl : WtOk b.s l S) (k : Nat) : (sumL (cutM b x) (l.take k)).natAbs ≤ 800000000000 := by
  have E1 : Ev b.s b.s 2000 := .of (by have := hb.s0; have := hb.s1; omega)
  have E2 : Ev x x 2000 := .of (by have := hb.s1; omega)
  refine Nat.le_trans (sumL_bd8 (f := cutM b x) (B := 100000000000) (Nat.le_trans (List.length_take_le' ..) hl.len) (fun p hp => ?_)) (by decide)
  have hp' := hl.pt p (List.mem_of_mem_take hp)
  have E5 : Ev p.n p.n 2000 := .of (by have := hp'.n0; have := hp'.n1; omega)
  have E6 : Ev p.a p.a 2000 := .of (by have := hp'.a0; have := hp'.a1; have := hb.s1; omega)
  unfold cutM
  cases decide (p.a ≤ x)
  · show (0 : Int).natAbs ≤ _; decide
  · exact ev_bd (Ev.mul (Ev.mul (Ev.mul (Ev.lit (-2)) E1) E5) (Ev.sub E2 E6)) (by decide +kernel)
set_option maxHeartbeats 8000000 in
set_option maxRecDepth 20000 in
theorem rshear_any {b : Bm} {A : Option Addr} {n c : Nat} {S x : Int} {l : List Pt} (hb : BmOk b) (hl : WtOk b.s l S) (x0 : 0 ≤ x) (x1 : x ≤ b.s) (w : World) (h : PtRow w A n l) :
    Calls Try.prog 33 #[bmV b, buV A n c S, .int .i64 x] w fun e w' => e = .returned (frV (shr b l S x) (2 * b.s)) ∧ Below w.heap.size w w' := by
  have HR := Lib.hid h
  have hle : l.length ≤ n := by have := h.1; omega
  have hge : n ≤ l.length := by have := h.1; omega
  have hn8 : n ≤ 8 := by have := hl.len; omega
  have HWT := Lib.hid hl
  have hS0 := hl.S0; have hS1 := hl.S1; have hs0 := hb.s0; have hs1 := hb.s1
  have TW := Lib.hid (fun wx (hx : Below w.heap.size w wx) => rtwice_any (c := c) hb hl wx (h.below hx))
  have HBD := Lib.hid (cutV_bd x hb hl)
  have k1 := fr_take_bd hb hl l.length
  rw [List.take_length] at k1
  have k2 := shr_bd hb hl x0 x1
  have HT : Hid (frR b l S + sumL (cutV b x) (l.take n) - 2 * S * x = shr b l S x) := Lib.hid (by rw [List.take_of_length_le hle]; unfold shr; grind)
  have HCT : Hid (∀ p : Pt, cutV b x p = bif decide (p.a ≤ x) then -(2 * b.s * p.n) else 0) := Lib.hid (fun p => by unfold cutV; cases decide (p.a ≤ x); rfl; show -2 * b.s * p.n = _; grind)
  have h1 := k1.1
  have LO := Lib.hid (fun wx => lowest_any (n := shr b l S x) (d := 2 * b.s) (by omega) (by omega) (by omega) wx)
  clear h hl hb k1
  obtain ⟨s, ww, t, en⟩ := b
  unfold bmV buV at *
  simp only at *
  generalize frR ⟨s, ww, t, en⟩ l S = rr at *
  generalize shr ⟨s, ww, t, en⟩ l S x = nu at *
  generalize twM ⟨s, ww, t, en⟩ l S = mm at *
  generalize cutV ⟨s, ww, t, en⟩ x = cut at *
  have HN : Hid (frV nu (2 * s) = .agg #[.int .i64 (lowN nu (2 * s)), .int .i64 (lowD nu (2 * s))]) := Lib.hid rfl
  have HN2 := Lib.hid HN.out
  unfold frV at LO
  clear HN
  generalize lowN nu (2 * s) = nn at *
  generalize lowD nu (2 * s) = de at *
  have E1 : Ev s s 2000 := .of (by omega)
  have E2 : Ev x x 2000 := .of (by omega)
  have E3 : Ev S S 20000 := .of (by omega)
  go_enter Try.func33, Try.ntmps33
  go_upto_region 1 with fail
  obtain ⟨w0, hw0⟩ : ∃ w0, (((w.alloc (.cells #[.int .i64 s, .int .i64 ww, .int .i64 t, .int .i64 en] 23)).alloc (.cells #[.slice A n c, .int .i64 S] 26)).alloc (.cells #[.int .i64 0, .int .i64 0] 30)) = w0 := ⟨_, rfl⟩
  have HB0 : Hid (Below w.heap.size w w0) := Lib.hid (by rw [← hw0]; exact ((((Below.refl _ _).alloc (Nat.le_refl _) _).alloc (by simp; try omega) _).alloc (by simp; try omega) _))
  have HC := Lib.hid (fun wx (hb : Below w0.heap.size w0 wx) => (show wx.cell? ⟨w.heap.size, 0, none⟩ = some (.int .i64 s) ∧ wx.cell? ⟨w.heap.size, 1, none⟩ = some (.int .i64 ww) ∧ wx.cell? ⟨w.heap.size, 2, none⟩ = some (.int .i64 t) ∧ wx.cell? ⟨w.heap.size, 3, none⟩ = some (.int .i64 en) ∧ wx.cell? ⟨w.heap.size + 1, 0, none⟩ = some (.slice A n c) ∧ wx.cell? ⟨w.heap.size + 1, 1, none⟩ = some (.int .i64 S) ∧ wx.cell? ⟨w.heap.size + 2, 0, none⟩ = some (.int .i64 0) ∧ wx.cell? ⟨w.heap.size + 2, 1, none⟩ = some (.int .i64 0) ∧ wx.frozen? ⟨w.heap.size + 2, 0, none⟩ = false ∧ wx.frozen? ⟨w.heap.size + 2, 1, none⟩ = false from by
    subst hw0
    obtain ⟨k, kf⟩ := bcell hb
    exact ⟨(k _ _ (by simp; try omega)).trans (by simp [go_sem]), (k _ _ (by simp; try omega)).trans (by simp [go_sem]), (k _ _ (by simp; try omega)).trans (by simp [go_sem]), (k _ _ (by simp; try omega)).trans (by simp [go_sem]), (k _ _ (by simp; try omega)).trans (by simp [go_sem]), (k _ _ (by simp; try omega)).trans (by simp [go_sem]), (k _ _ (by simp; try omega)).trans (by simp [go_sem]), (k _ _ (by simp; try omega)).trans (by simp [go_sem]), (kf _ _ (by simp; try omega)).trans (by simp [go_sem]), (kf _ _ (by simp; try omega)).trans (by simp [go_sem])⟩))
  rw [hw0]
  clear hw0
  have HZ0 := Lib.hid (Below.refl w0.heap.size w0)
  obtain ⟨c0, c1, c2, c3, c4, c5, c6, c7, z2_0, z2_1⟩ := HC.out w0 HZ0.out
  go_upto_region 2 with (go_at_call 98; (refine Calls.mono (TW.out _ HB0.out) ?_); rintro e w1 ⟨rfl, hb1⟩; have HW1 := Lib.hid hb1; clear hb1)
  clear c0 c1 c2 c3 c4 c5 c6 c7 z2_0 z2_1
  go_wp2
  go_loopw [7, 9] (fun v i wr => ∃ k : Nat, k ≤ n ∧ i = .int .i64 k ∧ v = .int .i64 (rr + sumL cut (l.take k)) ∧ Below w0.heap.size w0 wr) (fun _ i _ => n - (intOf i).toNat)
  case atStart => exact ⟨0, Nat.zero_le _, rfl, by simp [sumL], HW1.out⟩
  case round =>
    obtain ⟨k, hk, rfl, rfl, hbw⟩ := hrel
    have HB := Lib.hid hbw
    have HBW := Lib.hid (HB0.out.trans (hbw.mono HB0.out.size))
    obtain ⟨d0, d1, d2, d3, d4, d5, d6, d7, y2_0, y2_1⟩ := HC.out wr hbw
    have g1 := HBD.out k
    clear hbw
    have hl3 : w.heap.size < wr.heap.size := World.block_lt_of_cell? wr _ d0
    have hl4 : w.heap.size + 1 < wr.heap.size := World.block_lt_of_cell? wr _ d4
    by_cases hlt : k < n
    · have hkl : k < l.length := by omega
      obtain ⟨blk, off, rfl, hblk, hx⟩ := HR.out.2 (by omega)
      obtain ⟨hp0, hp1⟩ := (hx k hkl).below HBW.out hblk
      have hpo := HWT.out.pt l[k] (List.getElem_mem hkl)
      have HS := Lib.hid (sumL_take_succ cut l hkl)
      obtain ⟨p, hpe⟩ : ∃ x, l[k] = x := ⟨_, rfl⟩
      rw [hpe] at hp0 hp1 hpo HS
      clear hx hpe
      obtain ⟨a, v⟩ := p
      obtain ⟨a0, a1, n0, n1⟩ := hpo
      simp only at hp0 hp1 a0 a1 n0 n1
      have HCU := Lib.hid (HCT.out ⟨a, v⟩)
      generalize sumL cut (l.take k) = sk at *
      by_cases hax : a ≤ x
      · have hd : decide (a ≤ x) = true := decide_eq_true hax
        have HCUT : Hid (cut ⟨a, v⟩ = -(2 * s * v)) := Lib.hid (by rw [HCU.out]; simp only [hd, cond_true])
        have E5 : Ev v v 2000 := .of (by omega)
        have E7 : Ev sk sk 200000000 := .of (by omega)
        have E8 : Ev rr rr 1000000000000 := .of (by omega)
        have q1 : wrap64 (2 * s) = 2 * s := by (apply Ev.e; repeat' (first | with_reducible assumption | with_reducible apply Ev.wrap | with_reducible apply Ev.mul | with_reducible apply Ev.add | with_reducible apply Ev.sub | with_reducible apply Ev.neg | exact Ev.lit _ | (decide +kernel)))
        have q2 : wrap64 (2 * s * v) = 2 * s * v := by (apply Ev.e; repeat' (first | with_reducible assumption | with_reducible apply Ev.wrap | with_reducible apply Ev.mul | with_reducible apply Ev.add | with_reducible apply Ev.sub | with_reducible apply Ev.neg | exact Ev.lit _ | (decide +kernel)))
        have q3 : wrap64 (rr + sk - 2 * s * v) = rr + sk - 2 * s * v := by (apply Ev.e; repeat' (first | with_reducible assumption | with_reducible apply Ev.wrap | with_reducible apply Ev.mul | with_reducible apply Ev.add | with_reducible apply Ev.sub | with_reducible apply Ev.neg | exact Ev.lit _ | (decide +kernel)))
        clear E1 E2 E3 E5 E7 E8
        go_wp2
        go_quiet (fail)
        go_wp2
        go_roundw
        case rel => exact ⟨k + 1, by omega, by go_num, by rw [HS.out, HCUT.out]; exact congrArg (Value.int .i64) (by first | omega | (rw [q3]; omega)), below_drewN HB.out _⟩
        case measure => simp [intOf]; omega
      · have hd : decide (a ≤ x) = false := decide_eq_false hax
        have HCUT : Hid (cut ⟨a, v⟩ = 0) := Lib.hid (by rw [HCU.out]; simp only [hd, cond_false])
        clear E1 E2 E3
        go_wp2
        go_roundw
        case rel => exact ⟨k + 1, by omega, by go_num, by rw [HS.out, HCUT.out]; exact congrArg (Value.int .i64) (by omega), HB.out⟩
        case measure => simp [intOf]; omega
    · obtain rfl : k = n := by omega
      have hT := HT.out
      generalize sumL cut (l.take k) = sk at *
      have q1 : wrap64 (2 * s) = 2 * s := by (apply Ev.e; repeat' (first | with_reducible assumption | with_reducible apply Ev.wrap | with_reducible apply Ev.mul | with_reducible apply Ev.add | with_reducible apply Ev.sub | with_reducible apply Ev.neg | exact Ev.lit _ | (decide +kernel)))
      have q2 : wrap64 (2 * S) = 2 * S := by (apply Ev.e; repeat' (first | with_reducible assumption | with_reducible apply Ev.wrap | with_reducible apply Ev.mul | with_reducible apply Ev.add | with_reducible apply Ev.sub | with_reducible apply Ev.neg | exact Ev.lit _ | (decide +kernel)))
      have q3 : wrap64 (2 * S * x) = 2 * S * x := by (apply Ev.e; repeat' (first | with_reducible assumption | with_reducible apply Ev.wrap | with_reducible apply Ev.mul | with_reducible apply Ev.add | with_reducible apply Ev.sub | with_reducible apply Ev.neg | exact Ev.lit _ | (decide +kernel)))
      have q4 : wrap64 (rr + sk - 2 * S * x) = nu := by rw [hT]; exact w64 (by omega)
      clear E1 E2 E3
      go_wp2_with (go_at_call 89; (refine Calls.mono (LO.out _) ?_); rintro e w4 ⟨rfl, hb4⟩; have HX4 := Lib.hid (HBW.out.trans (hb4.mono HBW.out.size)); obtain ⟨g0, g1, g2, g3, g4, g5, g6, g7, u2_0, u2_1⟩ := HC.out w4 (HB.out.trans (hb4.mono HB.out.size)))
      refine bodyPost_ret (v := .agg #[.int .i64 nn, .int .i64 de]) (by simp [results, Try.results33, go_sem, g6, g7]) rfl ⟨by rw [HN2.out], ?_⟩
      exact (HX4.out.setCell (p := ⟨w.heap.size + 2, 0, none⟩) (by simp) _).setCell (p := ⟨w.heap.size + 2, 1, none⟩) (by simp) _
end Go.Proofs.Ytablphoicidlkaa
