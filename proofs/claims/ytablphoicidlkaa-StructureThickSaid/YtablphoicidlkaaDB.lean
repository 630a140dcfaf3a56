/- The reference of beams: sags. -/
import Derived.BigQuiet
import Derived.Test.YtablphoicidlkaaSP
namespace Go.Proofs.Ytablphoicidlkaa
open Go.RowKit

theorem sagk_bd {b : Bm} {l : List Pt} {S x : Int} (hb : BmOk b) (hl : WtOk b.s l S) (x0 : 0 ≤ x) (x1 : x ≤ b.s) (k : Nat) : (sumL (ptS b x) (l.take k)).natAbs ≤ 4800000000000000000 :=
  sumL_bd8 (f := ptS b x) (Nat.le_trans (List.length_take_le' ..) hl.len) (fun p hp => (sg_bds (S := 0) hb x0 x1).1 (hl.pt p (List.mem_of_mem_take hp)))
set_option maxHeartbeats 8000000 in
set_option maxRecDepth 20000 in
theorem rsag0_any {s ww t x : Int} {A : Option Addr} {n c : Nat} {S : Int} {l : List Pt} (hb : BmOk ⟨s, ww, t, 0⟩) (hl : WtOk s l S) (x0 : 0 ≤ x) (x1 : x ≤ s) (w : World) (h : PtRow w A n l) :
    Calls Try.prog 108 #[.agg #[.int .i64 s, .int .i64 ww, .int .i64 t, .int .i64 0], buV A n c S, .int .i64 x] w fun e w' => e = .returned (.int .i64 (sag ⟨s, ww, t, 0⟩ l S x)) ∧ Below w.heap.size w w' := by
  have HR := Lib.hid h
  have hle : l.length ≤ n := by have := h.1; omega
  have hge : n ≤ l.length := by have := h.1; omega
  have HWT := Lib.hid hl
  have hn8 : n ≤ 8 := by have := hl.len; omega
  have HBD := Lib.hid (sagk_bd hb hl x0 x1)
  have hS0 := hl.S0; have hS1 := hl.S1
  have hs1 : s ≤ 2000 := hb.s1
  have E1 : Ev s s 2000 := .of (by omega)
  have E2 : Ev x x 2000 := .of (by omega)
  have E3 : Ev S S 20000 := .of (by omega)
  have E4 : Ev (s - x) (s - x) 2000 := .of (by omega)
  have HSG : Hid (sag ⟨s, ww, t, 0⟩ l S x = sumL (ptS ⟨s, ww, t, 0⟩ x) l + S * x * (s * s * s - 2 * s * x * x + x * x * x)) := Lib.hid (by unfold sag; rw [Int.add_comm]; rfl)
  rw [HSG.out]
  clear h hl hb HSG
  unfold buV
  go_enter Try.func108, Try.ntmps108
  go_upto_region 1 with fail
  obtain ⟨w0, hw0⟩ : ∃ w0, ((w.alloc (.cells #[.int .i64 s, .int .i64 ww, .int .i64 t, .int .i64 0] 23)).alloc (.cells #[.slice A n c, .int .i64 S] 26)) = w0 := ⟨_, rfl⟩
  have HB0 : Hid (Below w.heap.size w w0) := Lib.hid (by rw [← hw0]; exact (((Below.refl _ _).alloc (Nat.le_refl _) _).alloc (by simp; try omega) _))
  have HC := Lib.hid (fun wx (hb : Below w0.heap.size w0 wx) => (show wx.cell? ⟨w.heap.size, 0, none⟩ = some (.int .i64 s) ∧ wx.cell? ⟨w.heap.size, 1, none⟩ = some (.int .i64 ww) ∧ wx.cell? ⟨w.heap.size, 2, none⟩ = some (.int .i64 t) ∧ wx.cell? ⟨w.heap.size, 3, none⟩ = some (.int .i64 0) ∧ wx.cell? ⟨w.heap.size + 1, 0, none⟩ = some (.slice A n c) ∧ wx.cell? ⟨w.heap.size + 1, 1, none⟩ = some (.int .i64 S) from by
    subst hw0
    obtain ⟨k, kf⟩ := bcell hb
    exact ⟨(k _ _ (by simp; try omega)).trans (by simp [go_sem]), (k _ _ (by simp; try omega)).trans (by simp [go_sem]), (k _ _ (by simp; try omega)).trans (by simp [go_sem]), (k _ _ (by simp; try omega)).trans (by simp [go_sem]), (k _ _ (by simp; try omega)).trans (by simp [go_sem]), (k _ _ (by simp; try omega)).trans (by simp [go_sem])⟩))
  rw [hw0]
  clear hw0
  have HZ0 := Lib.hid (Below.refl w0.heap.size w0)
  obtain ⟨c0, c1, c2, c3, c4, c5⟩ := HC.out w0 HZ0.out
  go_wp2
  go_loopw [8, 9] (fun r i wr => ∃ k : Nat, k ≤ n ∧ i = .int .i64 k ∧ r = .int .i64 (sumL (ptS ⟨s, ww, t, 0⟩ x) (l.take k)) ∧ Below w0.heap.size w0 wr) (fun _ i _ => n - (intOf i).toNat)
  case atStart => exact ⟨0, Nat.zero_le _, rfl, rfl, HZ0.out⟩
  case round =>
    obtain ⟨k, hk, rfl, rfl, hbw⟩ := hrel
    clear c0 c1 c2 c3 c4 c5
    have HB := Lib.hid hbw
    have HBW := Lib.hid (HB0.out.trans (hbw.mono HB0.out.size))
    obtain ⟨d0, d1, d2, d3, d4, d5⟩ := HC.out wr hbw
    have g1 := HBD.out k
    clear hbw
    by_cases hlt : k < n
    · have hkl : k < l.length := by omega
      obtain ⟨blk, off, rfl, hblk, hx⟩ := HR.out.2 (by omega)
      obtain ⟨hp0, hp1⟩ := (hx k hkl).below HBW.out hblk
      have hpo := HWT.out.pt l[k] (List.getElem_mem hkl)
      have HS := Lib.hid (sumL_take_succ (ptS ⟨s, ww, t, 0⟩ x) l hkl)
      obtain ⟨p, hpe⟩ : ∃ x, l[k] = x := ⟨_, rfl⟩
      rw [hpe] at hp0 hp1 hpo HS
      clear hx hpe
      obtain ⟨a, v⟩ := p
      obtain ⟨a0, a1, n0, n1⟩ := hpo
      simp only at hp0 hp1 a0 a1 n0 n1
      have E5 : Ev v v 2000 := .of (by omega)
      have E6 : Ev a a 2000 := .of (by omega)
      have E8 : Ev (s - a) (s - a) 2000 := .of (by omega)
      have hl3 : w.heap.size < wr.heap.size := World.block_lt_of_cell? wr _ d0
      have hl4 : w.heap.size + 1 < wr.heap.size := World.block_lt_of_cell? wr _ d4
      by_cases hxa : x ≤ a
      · have hd : decide (x ≤ a) = true := decide_eq_true hxa
        have hv : ptS ⟨s, ww, t, 0⟩ x ⟨a, v⟩ = 4 * v * (s - a) * x * (s * s - (s - a) * (s - a) - x * x) := by
          unfold ptS
          have : decide (a < x) = false := decide_eq_false (by omega)
          simp only [this, cond_false]
          rfl
        rw [hv] at HS
        clear hv
        generalize sumL (ptS ⟨s, ww, t, 0⟩ x) (l.take k) = rk at *
        have E7 : Ev rk rk 4800000000000000000 := .of g1
        have q1 : wrap64 (4 * v) = 4 * v := by (apply Ev.e; repeat' (first | with_reducible assumption | with_reducible apply Ev.wrap | with_reducible apply Ev.mul | with_reducible apply Ev.add | with_reducible apply Ev.sub | with_reducible apply Ev.neg | exact Ev.lit _ | (decide +kernel)))
        have q2 : wrap64 (s - a) = s - a := by (apply Ev.e; repeat' (first | with_reducible assumption | with_reducible apply Ev.wrap | with_reducible apply Ev.mul | with_reducible apply Ev.add | with_reducible apply Ev.sub | with_reducible apply Ev.neg | exact Ev.lit _ | (decide +kernel)))
        have q3 : wrap64 (4 * v * (s - a)) = 4 * v * (s - a) := by (apply Ev.e; repeat' (first | with_reducible assumption | with_reducible apply Ev.wrap | with_reducible apply Ev.mul | with_reducible apply Ev.add | with_reducible apply Ev.sub | with_reducible apply Ev.neg | exact Ev.lit _ | (decide +kernel)))
        have q4 : wrap64 (4 * v * (s - a) * x) = 4 * v * (s - a) * x := by (apply Ev.e; repeat' (first | with_reducible assumption | with_reducible apply Ev.wrap | with_reducible apply Ev.mul | with_reducible apply Ev.add | with_reducible apply Ev.sub | with_reducible apply Ev.neg | exact Ev.lit _ | (decide +kernel)))
        have q5 : wrap64 (s * s) = s * s := by (apply Ev.e; repeat' (first | with_reducible assumption | with_reducible apply Ev.wrap | with_reducible apply Ev.mul | with_reducible apply Ev.add | with_reducible apply Ev.sub | with_reducible apply Ev.neg | exact Ev.lit _ | (decide +kernel)))
        have q6 : wrap64 ((s - a) * (s - a)) = (s - a) * (s - a) := by (apply Ev.e; repeat' (first | with_reducible assumption | with_reducible apply Ev.wrap | with_reducible apply Ev.mul | with_reducible apply Ev.add | with_reducible apply Ev.sub | with_reducible apply Ev.neg | exact Ev.lit _ | (decide +kernel)))
        have q7 : wrap64 (s * s - (s - a) * (s - a)) = s * s - (s - a) * (s - a) := by (apply Ev.e; repeat' (first | with_reducible assumption | with_reducible apply Ev.wrap | with_reducible apply Ev.mul | with_reducible apply Ev.add | with_reducible apply Ev.sub | with_reducible apply Ev.neg | exact Ev.lit _ | (decide +kernel)))
        have q8 : wrap64 (x * x) = x * x := by (apply Ev.e; repeat' (first | with_reducible assumption | with_reducible apply Ev.wrap | with_reducible apply Ev.mul | with_reducible apply Ev.add | with_reducible apply Ev.sub | with_reducible apply Ev.neg | exact Ev.lit _ | (decide +kernel)))
        have q9 : wrap64 (s * s - (s - a) * (s - a) - x * x) = s * s - (s - a) * (s - a) - x * x := by (apply Ev.e; repeat' (first | with_reducible assumption | with_reducible apply Ev.wrap | with_reducible apply Ev.mul | with_reducible apply Ev.add | with_reducible apply Ev.sub | with_reducible apply Ev.neg | exact Ev.lit _ | (decide +kernel)))
        have q10 : wrap64 (4 * v * (s - a) * x * (s * s - (s - a) * (s - a) - x * x)) = 4 * v * (s - a) * x * (s * s - (s - a) * (s - a) - x * x) := by (apply Ev.e; repeat' (first | with_reducible assumption | with_reducible apply Ev.wrap | with_reducible apply Ev.mul | with_reducible apply Ev.add | with_reducible apply Ev.sub | with_reducible apply Ev.neg | exact Ev.lit _ | (decide +kernel)))
        have q11 : wrap64 (rk + 4 * v * (s - a) * x * (s * s - (s - a) * (s - a) - x * x)) = rk + 4 * v * (s - a) * x * (s * s - (s - a) * (s - a) - x * x) := by (apply Ev.e; repeat' (first | with_reducible assumption | with_reducible apply Ev.wrap | with_reducible apply Ev.mul | with_reducible apply Ev.add | with_reducible apply Ev.sub | with_reducible apply Ev.neg | exact Ev.lit _ | (decide +kernel)))
        clear E1 E2 E3 E4 E5 E6 E7 E8 g1
        go_wp2
        go_quiet (fail)
        go_wp2
        go_roundw
        case rel => exact ⟨k + 1, by omega, by go_num, by rw [HS.out]; first | rfl | exact congrArg (Value.int .i64) q11, below_drewN HB.out _⟩
        case measure => simp [intOf]; omega
      · have hd : decide (x ≤ a) = false := decide_eq_false hxa
        have hxa2 : a < x := by omega
        have hv : ptS ⟨s, ww, t, 0⟩ x ⟨a, v⟩ = 4 * v * a * (s - x) * (s * s - a * a - (s - x) * (s - x)) := by
          unfold ptS
          have : decide (a < x) = true := decide_eq_true hxa2
          simp only [this, cond_true]
          show 4 * v * (s - x) * a * (s * s - (s - x) * (s - x) - a * a) = _
          rw [Int.mul_right_comm (4 * v) (s - x) a, show s * s - (s - x) * (s - x) - a * a = s * s - a * a - (s - x) * (s - x) by omega]
        rw [hv] at HS
        clear hv
        generalize sumL (ptS ⟨s, ww, t, 0⟩ x) (l.take k) = rk at *
        have E7 : Ev rk rk 4800000000000000000 := .of g1
        have q1 : wrap64 (4 * v) = 4 * v := by (apply Ev.e; repeat' (first | with_reducible assumption | with_reducible apply Ev.wrap | with_reducible apply Ev.mul | with_reducible apply Ev.add | with_reducible apply Ev.sub | with_reducible apply Ev.neg | exact Ev.lit _ | (decide +kernel)))
        have q2 : wrap64 (4 * v * a) = 4 * v * a := by (apply Ev.e; repeat' (first | with_reducible assumption | with_reducible apply Ev.wrap | with_reducible apply Ev.mul | with_reducible apply Ev.add | with_reducible apply Ev.sub | with_reducible apply Ev.neg | exact Ev.lit _ | (decide +kernel)))
        have q3 : wrap64 (s - x) = s - x := by (apply Ev.e; repeat' (first | with_reducible assumption | with_reducible apply Ev.wrap | with_reducible apply Ev.mul | with_reducible apply Ev.add | with_reducible apply Ev.sub | with_reducible apply Ev.neg | exact Ev.lit _ | (decide +kernel)))
        have q4 : wrap64 (4 * v * a * (s - x)) = 4 * v * a * (s - x) := by (apply Ev.e; repeat' (first | with_reducible assumption | with_reducible apply Ev.wrap | with_reducible apply Ev.mul | with_reducible apply Ev.add | with_reducible apply Ev.sub | with_reducible apply Ev.neg | exact Ev.lit _ | (decide +kernel)))
        have q5 : wrap64 (s * s) = s * s := by (apply Ev.e; repeat' (first | with_reducible assumption | with_reducible apply Ev.wrap | with_reducible apply Ev.mul | with_reducible apply Ev.add | with_reducible apply Ev.sub | with_reducible apply Ev.neg | exact Ev.lit _ | (decide +kernel)))
        have q6 : wrap64 (a * a) = a * a := by (apply Ev.e; repeat' (first | with_reducible assumption | with_reducible apply Ev.wrap | with_reducible apply Ev.mul | with_reducible apply Ev.add | with_reducible apply Ev.sub | with_reducible apply Ev.neg | exact Ev.lit _ | (decide +kernel)))
        have q7 : wrap64 (s * s - a * a) = s * s - a * a := by (apply Ev.e; repeat' (first | with_reducible assumption | with_reducible apply Ev.wrap | with_reducible apply Ev.mul | with_reducible apply Ev.add | with_reducible apply Ev.sub | with_reducible apply Ev.neg | exact Ev.lit _ | (decide +kernel)))
        have q8 : wrap64 ((s - x) * (s - x)) = (s - x) * (s - x) := by (apply Ev.e; repeat' (first | with_reducible assumption | with_reducible apply Ev.wrap | with_reducible apply Ev.mul | with_reducible apply Ev.add | with_reducible apply Ev.sub | with_reducible apply Ev.neg | exact Ev.lit _ | (decide +kernel)))
        have q9 : wrap64 (s * s - a * a - (s - x) * (s - x)) = s * s - a * a - (s - x) * (s - x) := by (apply Ev.e; repeat' (first | with_reducible assumption | with_reducible apply Ev.wrap | with_reducible apply Ev.mul | with_reducible apply Ev.add | with_reducible apply Ev.sub | with_reducible apply Ev.neg | exact Ev.lit _ | (decide +kernel)))
        have q10 : wrap64 (4 * v * a * (s - x) * (s * s - a * a - (s - x) * (s - x))) = 4 * v * a * (s - x) * (s * s - a * a - (s - x) * (s - x)) := by (apply Ev.e; repeat' (first | with_reducible assumption | with_reducible apply Ev.wrap | with_reducible apply Ev.mul | with_reducible apply Ev.add | with_reducible apply Ev.sub | with_reducible apply Ev.neg | exact Ev.lit _ | (decide +kernel)))
        have q11 : wrap64 (rk + 4 * v * a * (s - x) * (s * s - a * a - (s - x) * (s - x))) = rk + 4 * v * a * (s - x) * (s * s - a * a - (s - x) * (s - x)) := by (apply Ev.e; repeat' (first | with_reducible assumption | with_reducible apply Ev.wrap | with_reducible apply Ev.mul | with_reducible apply Ev.add | with_reducible apply Ev.sub | with_reducible apply Ev.neg | exact Ev.lit _ | (decide +kernel)))
        clear E1 E2 E3 E4 E5 E6 E7 E8 g1
        go_wp2
        go_quiet (fail)
        go_wp2
        go_roundw
        case rel => exact ⟨k + 1, by omega, by go_num, by rw [HS.out]; first | rfl | exact congrArg (Value.int .i64) q11, below_drewN HB.out _⟩
        case measure => simp [intOf]; omega
    · obtain rfl : k = n := by omega
      have HT1 : Hid (l.take k = l) := Lib.hid (List.take_of_length_le (by omega))
      rw [HT1.out] at g1 ⊢
      obtain ⟨rk, hrk⟩ : ∃ v, sumL (ptS ⟨s, ww, t, 0⟩ x) l = v := ⟨_, rfl⟩
      have HRK := Lib.hid hrk
      rw [hrk] at g1
      clear hrk
      have E7 : Ev rk rk 4800000000000000000 := .of g1
      have q1 : wrap64 (S * x) = S * x := by (apply Ev.e; repeat' (first | with_reducible assumption | with_reducible apply Ev.wrap | with_reducible apply Ev.mul | with_reducible apply Ev.add | with_reducible apply Ev.sub | with_reducible apply Ev.neg | exact Ev.lit _ | (decide +kernel)))
      have q2 : wrap64 (s * s) = s * s := by (apply Ev.e; repeat' (first | with_reducible assumption | with_reducible apply Ev.wrap | with_reducible apply Ev.mul | with_reducible apply Ev.add | with_reducible apply Ev.sub | with_reducible apply Ev.neg | exact Ev.lit _ | (decide +kernel)))
      have q3 : wrap64 (s * s * s) = s * s * s := by (apply Ev.e; repeat' (first | with_reducible assumption | with_reducible apply Ev.wrap | with_reducible apply Ev.mul | with_reducible apply Ev.add | with_reducible apply Ev.sub | with_reducible apply Ev.neg | exact Ev.lit _ | (decide +kernel)))
      have q4 : wrap64 (2 * s) = 2 * s := by (apply Ev.e; repeat' (first | with_reducible assumption | with_reducible apply Ev.wrap | with_reducible apply Ev.mul | with_reducible apply Ev.add | with_reducible apply Ev.sub | with_reducible apply Ev.neg | exact Ev.lit _ | (decide +kernel)))
      have q5 : wrap64 (2 * s * x) = 2 * s * x := by (apply Ev.e; repeat' (first | with_reducible assumption | with_reducible apply Ev.wrap | with_reducible apply Ev.mul | with_reducible apply Ev.add | with_reducible apply Ev.sub | with_reducible apply Ev.neg | exact Ev.lit _ | (decide +kernel)))
      have q6 : wrap64 (2 * s * x * x) = 2 * s * x * x := by (apply Ev.e; repeat' (first | with_reducible assumption | with_reducible apply Ev.wrap | with_reducible apply Ev.mul | with_reducible apply Ev.add | with_reducible apply Ev.sub | with_reducible apply Ev.neg | exact Ev.lit _ | (decide +kernel)))
      have q7 : wrap64 (s * s * s - 2 * s * x * x) = s * s * s - 2 * s * x * x := by (apply Ev.e; repeat' (first | with_reducible assumption | with_reducible apply Ev.wrap | with_reducible apply Ev.mul | with_reducible apply Ev.add | with_reducible apply Ev.sub | with_reducible apply Ev.neg | exact Ev.lit _ | (decide +kernel)))
      have q8 : wrap64 (x * x) = x * x := by (apply Ev.e; repeat' (first | with_reducible assumption | with_reducible apply Ev.wrap | with_reducible apply Ev.mul | with_reducible apply Ev.add | with_reducible apply Ev.sub | with_reducible apply Ev.neg | exact Ev.lit _ | (decide +kernel)))
      have q9 : wrap64 (x * x * x) = x * x * x := by (apply Ev.e; repeat' (first | with_reducible assumption | with_reducible apply Ev.wrap | with_reducible apply Ev.mul | with_reducible apply Ev.add | with_reducible apply Ev.sub | with_reducible apply Ev.neg | exact Ev.lit _ | (decide +kernel)))
      have q10 : wrap64 (s * s * s - 2 * s * x * x + x * x * x) = s * s * s - 2 * s * x * x + x * x * x := by (apply Ev.e; repeat' (first | with_reducible assumption | with_reducible apply Ev.wrap | with_reducible apply Ev.mul | with_reducible apply Ev.add | with_reducible apply Ev.sub | with_reducible apply Ev.neg | exact Ev.lit _ | (decide +kernel)))
      have q11 : wrap64 (S * x * (s * s * s - 2 * s * x * x + x * x * x)) = S * x * (s * s * s - 2 * s * x * x + x * x * x) := by (apply Ev.e; repeat' (first | with_reducible assumption | with_reducible apply Ev.wrap | with_reducible apply Ev.mul | with_reducible apply Ev.add | with_reducible apply Ev.sub | with_reducible apply Ev.neg | exact Ev.lit _ | (decide +kernel)))
      have q12 : wrap64 (rk + S * x * (s * s * s - 2 * s * x * x + x * x * x)) = rk + S * x * (s * s * s - 2 * s * x * x + x * x * x) := by (apply Ev.e; repeat' (first | with_reducible assumption | with_reducible apply Ev.wrap | with_reducible apply Ev.mul | with_reducible apply Ev.add | with_reducible apply Ev.sub | with_reducible apply Ev.neg | exact Ev.lit _ | (decide +kernel)))
      clear E1 E2 E3 E4 E7 g1
      go_wp2
      go_ret
      exact ⟨ret_int (by rw [HRK.out]; first | rfl | exact q12), HBW.out⟩
set_option maxHeartbeats 8000000 in
set_option maxRecDepth 20000 in
theorem rsag1_any {s ww t x : Int} {A : Option Addr} {n c : Nat} {S : Int} {l : List Pt} (hb : BmOk ⟨s, ww, t, 1⟩) (hl : WtOk s l S) (x0 : 0 ≤ x) (x1 : x ≤ s) (w : World) (h : PtRow w A n l) :
    Calls Try.prog 108 #[.agg #[.int .i64 s, .int .i64 ww, .int .i64 t, .int .i64 1], buV A n c S, .int .i64 x] w fun e w' => e = .returned (.int .i64 (sag ⟨s, ww, t, 1⟩ l S x)) ∧ Below w.heap.size w w' := by
  have HR := Lib.hid h
  have hle : l.length ≤ n := by have := h.1; omega
  have hge : n ≤ l.length := by have := h.1; omega
  have HWT := Lib.hid hl
  have hn8 : n ≤ 8 := by have := hl.len; omega
  have HBD := Lib.hid (sagk_bd hb hl x0 x1)
  have hS0 := hl.S0; have hS1 := hl.S1
  have hs1 : s ≤ 2000 := hb.s1
  have E1 : Ev s s 2000 := .of (by omega)
  have E2 : Ev x x 2000 := .of (by omega)
  have E3 : Ev S S 20000 := .of (by omega)
  have E4 : Ev (s - x) (s - x) 2000 := .of (by omega)
  have HSG : Hid (sag ⟨s, ww, t, 1⟩ l S x = sumL (ptS ⟨s, ww, t, 1⟩ x) l + S * x * x * (x * x - 4 * s * x + 6 * s * s)) := Lib.hid (by unfold sag; rw [Int.add_comm]; rfl)
  rw [HSG.out]
  clear h hl hb HSG
  unfold buV
  go_enter Try.func108, Try.ntmps108
  go_upto_region 1 with fail
  obtain ⟨w0, hw0⟩ : ∃ w0, ((w.alloc (.cells #[.int .i64 s, .int .i64 ww, .int .i64 t, .int .i64 1] 23)).alloc (.cells #[.slice A n c, .int .i64 S] 26)) = w0 := ⟨_, rfl⟩
  have HB0 : Hid (Below w.heap.size w w0) := Lib.hid (by rw [← hw0]; exact (((Below.refl _ _).alloc (Nat.le_refl _) _).alloc (by simp; try omega) _))
  have HC := Lib.hid (fun wx (hb : Below w0.heap.size w0 wx) => (show wx.cell? ⟨w.heap.size, 0, none⟩ = some (.int .i64 s) ∧ wx.cell? ⟨w.heap.size, 1, none⟩ = some (.int .i64 ww) ∧ wx.cell? ⟨w.heap.size, 2, none⟩ = some (.int .i64 t) ∧ wx.cell? ⟨w.heap.size, 3, none⟩ = some (.int .i64 1) ∧ wx.cell? ⟨w.heap.size + 1, 0, none⟩ = some (.slice A n c) ∧ wx.cell? ⟨w.heap.size + 1, 1, none⟩ = some (.int .i64 S) from by
    subst hw0
    obtain ⟨k, kf⟩ := bcell hb
    exact ⟨(k _ _ (by simp; try omega)).trans (by simp [go_sem]), (k _ _ (by simp; try omega)).trans (by simp [go_sem]), (k _ _ (by simp; try omega)).trans (by simp [go_sem]), (k _ _ (by simp; try omega)).trans (by simp [go_sem]), (k _ _ (by simp; try omega)).trans (by simp [go_sem]), (k _ _ (by simp; try omega)).trans (by simp [go_sem])⟩))
  rw [hw0]
  clear hw0
  have HZ0 := Lib.hid (Below.refl w0.heap.size w0)
  obtain ⟨c0, c1, c2, c3, c4, c5⟩ := HC.out w0 HZ0.out
  go_wp2
  go_loopw [8, 9] (fun r i wr => ∃ k : Nat, k ≤ n ∧ i = .int .i64 k ∧ r = .int .i64 (sumL (ptS ⟨s, ww, t, 1⟩ x) (l.take k)) ∧ Below w0.heap.size w0 wr) (fun _ i _ => n - (intOf i).toNat)
  case atStart => exact ⟨0, Nat.zero_le _, rfl, rfl, HZ0.out⟩
  case round =>
    obtain ⟨k, hk, rfl, rfl, hbw⟩ := hrel
    clear c0 c1 c2 c3 c4 c5
    have HB := Lib.hid hbw
    have HBW := Lib.hid (HB0.out.trans (hbw.mono HB0.out.size))
    obtain ⟨d0, d1, d2, d3, d4, d5⟩ := HC.out wr hbw
    have g1 := HBD.out k
    clear hbw
    by_cases hlt : k < n
    · have hkl : k < l.length := by omega
      obtain ⟨blk, off, rfl, hblk, hx⟩ := HR.out.2 (by omega)
      obtain ⟨hp0, hp1⟩ := (hx k hkl).below HBW.out hblk
      have hpo := HWT.out.pt l[k] (List.getElem_mem hkl)
      have HS := Lib.hid (sumL_take_succ (ptS ⟨s, ww, t, 1⟩ x) l hkl)
      obtain ⟨p, hpe⟩ : ∃ x, l[k] = x := ⟨_, rfl⟩
      rw [hpe] at hp0 hp1 hpo HS
      clear hx hpe
      obtain ⟨a, v⟩ := p
      obtain ⟨a0, a1, n0, n1⟩ := hpo
      simp only at hp0 hp1 a0 a1 n0 n1
      have E5 : Ev v v 2000 := .of (by omega)
      have E6 : Ev a a 2000 := .of (by omega)
      have E8 : Ev (s - a) (s - a) 2000 := .of (by omega)
      have hl3 : w.heap.size < wr.heap.size := World.block_lt_of_cell? wr _ d0
      have hl4 : w.heap.size + 1 < wr.heap.size := World.block_lt_of_cell? wr _ d4
      by_cases hxa : x ≤ a
      · have hd : decide (x ≤ a) = true := decide_eq_true hxa
        have hv : ptS ⟨s, ww, t, 1⟩ x ⟨a, v⟩ = 4 * s * v * x * x * (3 * a - x) := by
          unfold ptS
          have : decide (a < x) = false := decide_eq_false (by omega)
          simp only [this, cond_false]
          rfl
        rw [hv] at HS
        clear hv
        generalize sumL (ptS ⟨s, ww, t, 1⟩ x) (l.take k) = rk at *
        have E7 : Ev rk rk 4800000000000000000 := .of g1
        have q1 : wrap64 (4 * s) = 4 * s := by (apply Ev.e; repeat' (first | with_reducible assumption | with_reducible apply Ev.wrap | with_reducible apply Ev.mul | with_reducible apply Ev.add | with_reducible apply Ev.sub | with_reducible apply Ev.neg | exact Ev.lit _ | (decide +kernel)))
        have q2 : wrap64 (4 * s * v) = 4 * s * v := by (apply Ev.e; repeat' (first | with_reducible assumption | with_reducible apply Ev.wrap | with_reducible apply Ev.mul | with_reducible apply Ev.add | with_reducible apply Ev.sub | with_reducible apply Ev.neg | exact Ev.lit _ | (decide +kernel)))
        have q3 : wrap64 (4 * s * v * x) = 4 * s * v * x := by (apply Ev.e; repeat' (first | with_reducible assumption | with_reducible apply Ev.wrap | with_reducible apply Ev.mul | with_reducible apply Ev.add | with_reducible apply Ev.sub | with_reducible apply Ev.neg | exact Ev.lit _ | (decide +kernel)))
        have q4 : wrap64 (4 * s * v * x * x) = 4 * s * v * x * x := by (apply Ev.e; repeat' (first | with_reducible assumption | with_reducible apply Ev.wrap | with_reducible apply Ev.mul | with_reducible apply Ev.add | with_reducible apply Ev.sub | with_reducible apply Ev.neg | exact Ev.lit _ | (decide +kernel)))
        have q5 : wrap64 (3 * a) = 3 * a := by (apply Ev.e; repeat' (first | with_reducible assumption | with_reducible apply Ev.wrap | with_reducible apply Ev.mul | with_reducible apply Ev.add | with_reducible apply Ev.sub | with_reducible apply Ev.neg | exact Ev.lit _ | (decide +kernel)))
        have q6 : wrap64 (3 * a - x) = 3 * a - x := by (apply Ev.e; repeat' (first | with_reducible assumption | with_reducible apply Ev.wrap | with_reducible apply Ev.mul | with_reducible apply Ev.add | with_reducible apply Ev.sub | with_reducible apply Ev.neg | exact Ev.lit _ | (decide +kernel)))
        have q7 : wrap64 (4 * s * v * x * x * (3 * a - x)) = 4 * s * v * x * x * (3 * a - x) := by (apply Ev.e; repeat' (first | with_reducible assumption | with_reducible apply Ev.wrap | with_reducible apply Ev.mul | with_reducible apply Ev.add | with_reducible apply Ev.sub | with_reducible apply Ev.neg | exact Ev.lit _ | (decide +kernel)))
        have q8 : wrap64 (rk + 4 * s * v * x * x * (3 * a - x)) = rk + 4 * s * v * x * x * (3 * a - x) := by (apply Ev.e; repeat' (first | with_reducible assumption | with_reducible apply Ev.wrap | with_reducible apply Ev.mul | with_reducible apply Ev.add | with_reducible apply Ev.sub | with_reducible apply Ev.neg | exact Ev.lit _ | (decide +kernel)))
        clear E1 E2 E3 E4 E5 E6 E7 E8 g1
        go_wp2
        go_quiet (fail)
        go_wp2
        go_roundw
        case rel => exact ⟨k + 1, by omega, by go_num, by rw [HS.out]; first | rfl | exact congrArg (Value.int .i64) q8, below_drewN HB.out _⟩
        case measure => simp [intOf]; omega
      · have hd : decide (x ≤ a) = false := decide_eq_false hxa
        have hxa2 : a < x := by omega
        have hv : ptS ⟨s, ww, t, 1⟩ x ⟨a, v⟩ = 4 * s * v * a * a * (3 * x - a) := by
          unfold ptS
          have : decide (a < x) = true := decide_eq_true hxa2
          simp only [this, cond_true]
          show 4 * s * v * a * a * (3 * x - a) = _
          rfl
        rw [hv] at HS
        clear hv
        generalize sumL (ptS ⟨s, ww, t, 1⟩ x) (l.take k) = rk at *
        have E7 : Ev rk rk 4800000000000000000 := .of g1
        have q1 : wrap64 (4 * s) = 4 * s := by (apply Ev.e; repeat' (first | with_reducible assumption | with_reducible apply Ev.wrap | with_reducible apply Ev.mul | with_reducible apply Ev.add | with_reducible apply Ev.sub | with_reducible apply Ev.neg | exact Ev.lit _ | (decide +kernel)))
        have q2 : wrap64 (4 * s * v) = 4 * s * v := by (apply Ev.e; repeat' (first | with_reducible assumption | with_reducible apply Ev.wrap | with_reducible apply Ev.mul | with_reducible apply Ev.add | with_reducible apply Ev.sub | with_reducible apply Ev.neg | exact Ev.lit _ | (decide +kernel)))
        have q3 : wrap64 (4 * s * v * a) = 4 * s * v * a := by (apply Ev.e; repeat' (first | with_reducible assumption | with_reducible apply Ev.wrap | with_reducible apply Ev.mul | with_reducible apply Ev.add | with_reducible apply Ev.sub | with_reducible apply Ev.neg | exact Ev.lit _ | (decide +kernel)))
        have q4 : wrap64 (4 * s * v * a * a) = 4 * s * v * a * a := by (apply Ev.e; repeat' (first | with_reducible assumption | with_reducible apply Ev.wrap | with_reducible apply Ev.mul | with_reducible apply Ev.add | with_reducible apply Ev.sub | with_reducible apply Ev.neg | exact Ev.lit _ | (decide +kernel)))
        have q5 : wrap64 (3 * x) = 3 * x := by (apply Ev.e; repeat' (first | with_reducible assumption | with_reducible apply Ev.wrap | with_reducible apply Ev.mul | with_reducible apply Ev.add | with_reducible apply Ev.sub | with_reducible apply Ev.neg | exact Ev.lit _ | (decide +kernel)))
        have q6 : wrap64 (3 * x - a) = 3 * x - a := by (apply Ev.e; repeat' (first | with_reducible assumption | with_reducible apply Ev.wrap | with_reducible apply Ev.mul | with_reducible apply Ev.add | with_reducible apply Ev.sub | with_reducible apply Ev.neg | exact Ev.lit _ | (decide +kernel)))
        have q7 : wrap64 (4 * s * v * a * a * (3 * x - a)) = 4 * s * v * a * a * (3 * x - a) := by (apply Ev.e; repeat' (first | with_reducible assumption | with_reducible apply Ev.wrap | with_reducible apply Ev.mul | with_reducible apply Ev.add | with_reducible apply Ev.sub | with_reducible apply Ev.neg | exact Ev.lit _ | (decide +kernel)))
        have q8 : wrap64 (rk + 4 * s * v * a * a * (3 * x - a)) = rk + 4 * s * v * a * a * (3 * x - a) := by (apply Ev.e; repeat' (first | with_reducible assumption | with_reducible apply Ev.wrap | with_reducible apply Ev.mul | with_reducible apply Ev.add | with_reducible apply Ev.sub | with_reducible apply Ev.neg | exact Ev.lit _ | (decide +kernel)))
        clear E1 E2 E3 E4 E5 E6 E7 E8 g1
        go_wp2
        go_quiet (fail)
        go_wp2
        go_roundw
        case rel => exact ⟨k + 1, by omega, by go_num, by rw [HS.out]; first | rfl | exact congrArg (Value.int .i64) q8, below_drewN HB.out _⟩
        case measure => simp [intOf]; omega
    · obtain rfl : k = n := by omega
      have HT1 : Hid (l.take k = l) := Lib.hid (List.take_of_length_le (by omega))
      rw [HT1.out] at g1 ⊢
      obtain ⟨rk, hrk⟩ : ∃ v, sumL (ptS ⟨s, ww, t, 1⟩ x) l = v := ⟨_, rfl⟩
      have HRK := Lib.hid hrk
      rw [hrk] at g1
      clear hrk
      have E7 : Ev rk rk 4800000000000000000 := .of g1
      have q1 : wrap64 (S * x) = S * x := by (apply Ev.e; repeat' (first | with_reducible assumption | with_reducible apply Ev.wrap | with_reducible apply Ev.mul | with_reducible apply Ev.add | with_reducible apply Ev.sub | with_reducible apply Ev.neg | exact Ev.lit _ | (decide +kernel)))
      have q2 : wrap64 (S * x * x) = S * x * x := by (apply Ev.e; repeat' (first | with_reducible assumption | with_reducible apply Ev.wrap | with_reducible apply Ev.mul | with_reducible apply Ev.add | with_reducible apply Ev.sub | with_reducible apply Ev.neg | exact Ev.lit _ | (decide +kernel)))
      have q3 : wrap64 (x * x) = x * x := by (apply Ev.e; repeat' (first | with_reducible assumption | with_reducible apply Ev.wrap | with_reducible apply Ev.mul | with_reducible apply Ev.add | with_reducible apply Ev.sub | with_reducible apply Ev.neg | exact Ev.lit _ | (decide +kernel)))
      have q4 : wrap64 (4 * s) = 4 * s := by (apply Ev.e; repeat' (first | with_reducible assumption | with_reducible apply Ev.wrap | with_reducible apply Ev.mul | with_reducible apply Ev.add | with_reducible apply Ev.sub | with_reducible apply Ev.neg | exact Ev.lit _ | (decide +kernel)))
      have q5 : wrap64 (4 * s * x) = 4 * s * x := by (apply Ev.e; repeat' (first | with_reducible assumption | with_reducible apply Ev.wrap | with_reducible apply Ev.mul | with_reducible apply Ev.add | with_reducible apply Ev.sub | with_reducible apply Ev.neg | exact Ev.lit _ | (decide +kernel)))
      have q6 : wrap64 (x * x - 4 * s * x) = x * x - 4 * s * x := by (apply Ev.e; repeat' (first | with_reducible assumption | with_reducible apply Ev.wrap | with_reducible apply Ev.mul | with_reducible apply Ev.add | with_reducible apply Ev.sub | with_reducible apply Ev.neg | exact Ev.lit _ | (decide +kernel)))
      have q7 : wrap64 (6 * s) = 6 * s := by (apply Ev.e; repeat' (first | with_reducible assumption | with_reducible apply Ev.wrap | with_reducible apply Ev.mul | with_reducible apply Ev.add | with_reducible apply Ev.sub | with_reducible apply Ev.neg | exact Ev.lit _ | (decide +kernel)))
      have q8 : wrap64 (6 * s * s) = 6 * s * s := by (apply Ev.e; repeat' (first | with_reducible assumption | with_reducible apply Ev.wrap | with_reducible apply Ev.mul | with_reducible apply Ev.add | with_reducible apply Ev.sub | with_reducible apply Ev.neg | exact Ev.lit _ | (decide +kernel)))
      have q9 : wrap64 (x * x - 4 * s * x + 6 * s * s) = x * x - 4 * s * x + 6 * s * s := by (apply Ev.e; repeat' (first | with_reducible assumption | with_reducible apply Ev.wrap | with_reducible apply Ev.mul | with_reducible apply Ev.add | with_reducible apply Ev.sub | with_reducible apply Ev.neg | exact Ev.lit _ | (decide +kernel)))
      have q10 : wrap64 (S * x * x * (x * x - 4 * s * x + 6 * s * s)) = S * x * x * (x * x - 4 * s * x + 6 * s * s) := by (apply Ev.e; repeat' (first | with_reducible assumption | with_reducible apply Ev.wrap | with_reducible apply Ev.mul | with_reducible apply Ev.add | with_reducible apply Ev.sub | with_reducible apply Ev.neg | exact Ev.lit _ | (decide +kernel)))
      have q11 : wrap64 (rk + S * x * x * (x * x - 4 * s * x + 6 * s * s)) = rk + S * x * x * (x * x - 4 * s * x + 6 * s * s) := by (apply Ev.e; repeat' (first | with_reducible assumption | with_reducible apply Ev.wrap | with_reducible apply Ev.mul | with_reducible apply Ev.add | with_reducible apply Ev.sub | with_reducible apply Ev.neg | exact Ev.lit _ | (decide +kernel)))
      clear E1 E2 E3 E4 E7 g1
      go_wp2
      go_ret
      exact ⟨ret_int (by rw [HRK.out]; first | rfl | exact q11), HBW.out⟩
theorem rsag_any {b : Bm} {A : Option Addr} {n c : Nat} {S x : Int} {l : List Pt} (hb : BmOk b) (hl : WtOk b.s l S) (x0 : 0 ≤ x) (x1 : x ≤ b.s) (w : World) (h : PtRow w A n l) :
    Calls Try.prog 108 #[bmV b, buV A n c S, .int .i64 x] w fun e w' => e = .returned (.int .i64 (sag b l S x)) ∧ Below w.heap.size w w' := by
  have e0 := hb.e0
  obtain ⟨s, ww, t, en⟩ := b
  simp only at e0 hl x1
  rcases e0 with rfl | rfl
  · exact rsag0_any hb hl x0 x1 w h
  · exact rsag1_any hb hl x0 x1 w h
set_option maxHeartbeats 1000000 in
theorem runder_any {b : Bm} {E : Int} (hb : BmOk b) (h0 : 1 ≤ E) (h1 : E ≤ 30000) (w : World) : Calls Try.prog 109 #[bmV b, .int .i64 E] w fun e w' => e = .returned (.int .i64 (sgD b E)) ∧ Below w.heap.size w w' := by
  obtain ⟨s, ww, t, en⟩ := b
  obtain ⟨s0, s1, w0, w1, t0, t1, e0⟩ := hb
  simp only at s0 s1 w0 w1 t0 t1
  unfold bmV sgD
  simp only
  have E1 : Ev s s 2000 := .of (by omega)
  have E2 : Ev ww ww 1000 := .of (by omega)
  have E3 : Ev t t 300 := .of (by omega)
  have E4 : Ev E E 30000 := .of (by omega)
  have q0 : wrap64 (2 * s) = 2 * s := by (apply Ev.e; repeat' (first | with_reducible assumption | with_reducible apply Ev.wrap | with_reducible apply Ev.mul | with_reducible apply Ev.add | with_reducible apply Ev.sub | with_reducible apply Ev.neg | exact Ev.lit _ | (decide +kernel)))
  have q1 : wrap64 (2 * s * E) = 2 * s * E := by (apply Ev.e; repeat' (first | with_reducible assumption | with_reducible apply Ev.wrap | with_reducible apply Ev.mul | with_reducible apply Ev.add | with_reducible apply Ev.sub | with_reducible apply Ev.neg | exact Ev.lit _ | (decide +kernel)))
  have q2 : wrap64 (2 * s * E * ww) = 2 * s * E * ww := by (apply Ev.e; repeat' (first | with_reducible assumption | with_reducible apply Ev.wrap | with_reducible apply Ev.mul | with_reducible apply Ev.add | with_reducible apply Ev.sub | with_reducible apply Ev.neg | exact Ev.lit _ | (decide +kernel)))
  have q3 : wrap64 (2 * s * E * ww * t) = 2 * s * E * ww * t := by (apply Ev.e; repeat' (first | with_reducible assumption | with_reducible apply Ev.wrap | with_reducible apply Ev.mul | with_reducible apply Ev.add | with_reducible apply Ev.sub | with_reducible apply Ev.neg | exact Ev.lit _ | (decide +kernel)))
  have q4 : wrap64 (2 * s * E * ww * t * t) = 2 * s * E * ww * t * t := by (apply Ev.e; repeat' (first | with_reducible assumption | with_reducible apply Ev.wrap | with_reducible apply Ev.mul | with_reducible apply Ev.add | with_reducible apply Ev.sub | with_reducible apply Ev.neg | exact Ev.lit _ | (decide +kernel)))
  have q5 : wrap64 (2 * s * E * ww * t * t * t) = 2 * s * E * ww * t * t * t := by (apply Ev.e; repeat' (first | with_reducible assumption | with_reducible apply Ev.wrap | with_reducible apply Ev.mul | with_reducible apply Ev.add | with_reducible apply Ev.sub | with_reducible apply Ev.neg | exact Ev.lit _ | (decide +kernel)))
  clear E1 E2 E3 E4
  go_enter Try.func109, Try.ntmps109
  go_wp2
  go_ret
  exact ⟨ret_int (by first | rfl | exact q5), (Below.refl _ _).alloc (Nat.le_refl _) _⟩
end Go.Proofs.Ytablphoicidlkaa
