/- The reference of beams: sags. -/
import Derived.BigQuiet
import Derived.Test.YtablphoicidlkaaSP
import Derived.Test.YtablphoicidlkaaBA
namespace Go.Proofs.Ytablphoicidlkaa
open Go.RowKit

theorem sagk_bd {b : Bm} {l : List Pt} {S x : Int} (hb : BmOk b) (hl : WtOk b.s l S) (x0 : 0 ≤ x) (x1 : x ≤ b.s) (k : Nat) : (sumL (ptS b x) (l.take k)).natAbs ≤ 4800000000000000000 :=
  sumL_bd8 (f := ptS b x) (Nat.le_trans (List.length_take_le' ..) hl.len) (fun p hp => (sg_bds (S := 0) hb x0 x1).1 (hl.pt p (List.mem_of_mem_take hp)))
set_option maxHeartbeats 8000000 in
set_option maxRecDepth 20000 in
theorem rsag0_any {s ww t x : Int} {A : Option Addr} {n c : Nat} {S : Int} {l : List Pt} (hb : BmOk ⟨s, ww, t, 0⟩) (hl : WtOk s l S) (x0 : 0 ≤ x) (x1 : x ≤ s) (w : World) (h : PtRow w A n l) :
    Calls Try.prog 108 #[.agg #[.int .i64 s, .int .i64 ww, .int .i64 t, .int .i64 0], buV A n c S, .int .i64 x] w fun e w' => e = .returned (.int .i64 (sag ⟨s, ww, t, 0⟩ l S x)) ∧ Below w.heap.size w w' := by
  have HR := Lib.hid h
  have hle : l.length ≤ n := by have := h.1; omega
  have hge : n ≤ l.length := by have := h.1; omega
  have HWT := Lib.hid hl
  have hn8 : n ≤ 8 := by have := hl.len; omega
  have HBD := Lib.hid (sagk_bd hb hl x0 x1)
  have hS0 := hl.S0; have hS1 := hl.S1
  have hs1 : s ≤ 2000 := hb.s1
  have E1 : Ev s s 2000 := .of (by omega)
  have E2 : Ev x x 2000 := .of (by omega)
  have E3 : Ev S S 20000 := .of (by omega)
  have E4 : Ev (s - x) (s - x) 2000 := .of (by omega)
  have HSG : Hid (sag ⟨s, ww, t, 0⟩ l S x = sumL (ptS ⟨s, ww, t, 0⟩ x) l + S * x * (s * s * s - 2 * s * x * x + x * x * x)) := Lib.hid (by unfold sag; rw [Int.add_comm]; rfl)
  rw [HSG.out]
  clear h hl hb HSG
  unfold buV
  go_enter Try.func108, Try.ntmps108
  go_upto_region 1 with fail
  obtain ⟨w0, hw0⟩ : ∃ w0, ((w.alloc (.cells #[.int .i64 s, .int .i64 ww, .int .i64 t, .int .i64 0] 23)).alloc (.cells #[.slice A n c, .int .i64 S] 26)) = w0 := ⟨_, rfl⟩
  have HB0 : Hid (Below w.heap.size w w0) := Lib.hid (by rw [← hw0]; exact (((Below.refl _ _).alloc (Nat.le_refl _) _).alloc (by simp; try omega) _))
  have HC := Lib.hid (fun wx (hb : Below w0.heap.size w0 wx) => (show wx.cell? ⟨w.heap.size, 0, none⟩ = some (.int .i64 s) ∧ wx.cell? ⟨w.heap.size, 1, none⟩ = some (.int .i64 ww) ∧ wx.cell? ⟨w.heap.size, 2, none⟩ = some (.int .i64 t) ∧ wx.cell? ⟨w.heap.size, 3, none⟩ = some (.int .i64 0) ∧ wx.cell? ⟨w.heap.size + 1, 0, none⟩ = some (.slice A n c) ∧ wx.cell? ⟨w.heap.size + 1, 1, none⟩ = some (.int .i64 S) from by
    subst hw0
    obtain ⟨k, kf⟩ := bcell hb
    exact ⟨(k _ _ (by simp; try omega)).trans (by simp [go_sem]), (k _ _ (by simp; try omega)).trans (by simp [go_sem]), (k _ _ (by simp; try omega)).trans (by simp [go_sem]), (k _ _ (by simp; try omega)).trans (by simp [go_sem]), (k _ _ (by simp; try omega)).trans (by simp [go_sem]), (k _ _ (by simp; try omega)).trans (by simp [go_sem])⟩))
  rw [hw0]
  clear hw0
  have HZ0 := Lib.hid (Below.refl w0.heap.size w0)
  obtain ⟨c0, c1, c2, c3, c4, c5⟩ := HC.out w0 HZ0.out
  go_wp2
  go_loopw [8, 9] (fun r i wr => ∃ k : Nat, k ≤ n ∧ i = .int .i64 k ∧ r = .int .i64 (sumL (ptS ⟨s, ww, t, 0⟩ x) (l.take k)) ∧ Below w0.heap.size w0 wr) (fun _ i _ => n - (intOf i).toNat)
  case atStart => exact ⟨0, Nat.zero_le _, rfl, rfl, HZ0.out⟩
  case round =>
    obtain ⟨k, hk, rfl, rfl, hbw⟩ := hrel
    clear c0 c1 c2 c3 c4 c5
    have HB := Lib.hid hbw
    have HBW := Lib.hid (HB0.out.trans (hbw.mono HB0.out.size))
    obtain ⟨d0, d1, d2, d3, d4, d5⟩ := HC.out wr hbw
    have g1 := HBD.out k
    clear hbw
    by_cases hlt : k < n
    · have hkl : k < l.length := by omega
      obtain ⟨blk, off, rfl, hblk, hx⟩ := HR.out.2 (by omega)
      obtain ⟨hp0, hp1⟩ := (hx k hkl).below HBW.out hblk
      have hpo := HWT.out.pt l[k] (List.getElem_mem hkl)
      have HS := Lib.hid (sumL_take_succ (ptS ⟨s, ww, t, 0⟩ x) l hkl)
      obtain ⟨p, hpe⟩ : ∃ x, l[k] = x := ⟨_, rfl⟩
      rw [hpe] at hp0 hp1 hpo HS
      clear hx hpe
      obtain ⟨a, v⟩ := p
      obtain ⟨a0, a1, n0, n1⟩ := hpo
      simp only at hp0 hp1 a0 a1 n0 n1
      have E5 : Ev v v 2000 := .of (by omega)
      have E6 : Ev a a 2000 := .of (by omega)
      have E8 : Ev (s - a) (s - a) 2000 := .of (by omega)
      have hl3 : w.heap.size < wr.heap.size := World.block_lt_of_cell? wr _ d0
      have hl4 : w.heap.size + 1 < wr.heap.size := World.block_lt_of_cell? wr _ d4
      by_cases hxa : x ≤ a
      · have hd : decide (x ≤ a) = true := decide_eq_true hxa
        have hv : ptS ⟨s, ww, t, 0⟩ x ⟨a, v⟩ = 4 * v * (s - a) * x * (s * s - (s - a) * (s - a) - x * x) := by
          unfold ptS
          have : decide (a < x) = false := decide_eq_false (by omega)
          simp only [this, cond_false]
          rfl
        rw [hv] at HS
        clear hv
        generalize sumL (ptS ⟨s, ww, t, 0⟩ x) (l.take k) = rk at *
        have E7 : Ev rk rk 4800000000000000000 := .of g1
        have q1 : wrap64 (4 * v) = 4 * v := by (apply Ev.e; repeat' (first | with_reducible assumption | with_reducible apply Ev.wrap | with_reducible apply Ev.mul | with_reducible apply Ev.add | with_reducible apply Ev.sub | with_reducible apply Ev.neg | exact Ev.lit _ | (decide +kernel)))
        have q2 : wrap64 (s - a) = s - a := by (apply Ev.e; repeat' (first | with_reducible assumption | with_reducible apply Ev.wrap | with_reducible apply Ev.mul | with_reducible apply Ev.add | with_reducible apply Ev.sub | with_reducible apply Ev.neg | exact Ev.lit _ | (decide +kernel)))
        have q3 : wrap64 (4 * v * (s - a)) = 4 * v * (s - a) := by (apply Ev.e; repeat' (first | with_reducible assumption | with_reducible apply Ev.wrap | with_reducible apply Ev.mul | with_reducible apply Ev.add | with_reducible apply Ev.sub | with_reducible apply Ev.neg | exact Ev.lit _ | (decide +kernel)))
        have q4 : wrap64 (4 * v * (s - a) * x) = 4 * v * (s - a) * x := by (apply Ev.e; repeat' (first | with_reducible assumption | with_reducible apply Ev.wrap | with_reducible apply Ev.mul | with_reducible apply Ev.add | with_reducible apply Ev.sub | with_reducible apply Ev.neg | exact Ev.lit _ | (decide +kernel)))
        have q5 : wrap64 (s * s) = s * s := by (apply Ev.e; repeat' (first | with_reducible assumption | with_reducible apply Ev.wrap | with_reducible apply Ev.mul | with_reducible apply Ev.add | with_reducible apply Ev.sub | with_reducible apply Ev.neg | exact Ev.lit _ | (decide +kernel)))
        have q6 : wrap64 ((s - a) * (s - a)) = (s - a) * (s - a) := by (apply Ev.e; repeat' (first | with_reducible assumption | with_reducible apply Ev.wrap | with_reducible apply Ev.mul | with_reducible apply Ev.add | with_reducible apply Ev.sub | with_reducible apply Ev.neg | exact Ev.lit _ | (decide +kernel)))
        have q7 : wrap64 (s * s - (s - a) * (s - a)) = s * s - (s - a) * (s - a) := by (apply Ev.e; repeat' (first | with_reducible assumption | with_reducible apply Ev.wrap | with_reducible apply Ev.mul | with_reducible apply Ev.add | with_reducible apply Ev.sub | with_reducible apply Ev.neg | exact Ev.lit _ | (decide +kernel)))
        have q8 : wrap64 (x * x) = x * x := by (apply Ev.e; repeat' (first | with_reducible assumption | with_reducible apply Ev.wrap | with_reducible apply Ev.mul | with_reducible apply Ev.add | with_reducible apply Ev.sub | with_reducible apply Ev.neg | exact Ev.lit _ | (decide +kernel)))
        have q9 : wrap64 (s * s - (s - a) * (s - a) - x * x) = s * s - (s - a) * (s - a) - x * x := by (apply Ev.e; repeat' (first | with_reducible assumption | with_reducible apply Ev.wrap | with_reducible apply Ev.mul | with_reducible apply Ev.add | with_reducible apply Ev.sub | with_reducible apply Ev.neg | exact Ev.lit _ | (decide +kernel)))
        have q10 : wrap64 (4 * v * (s - a) * x * (s * s - (s - a) * (s - a) - x * x)) = 4 * v * (s - a) * x * (s * s - (s - a) * (s - a) - x * x) := by (apply Ev.e; repeat' (first | with_reducible assumption | with_reducible apply Ev.wrap | with_reducible apply Ev.mul | with_reducible apply Ev.add | with_reducible apply Ev.sub | with_reducible apply Ev.neg | exact Ev.lit _ | (decide +kernel)))
        have q11 : wrap64 (rk + 4 * v * (s - a) * x * (s * s - (s - a) * (s - a) - x * x)) = rk + 4 * v * (s - a) * x * (s * s - (s - a) * (s - a) - x * x) := by (apply Ev.e; repeat' (first | with_reducible assumption | with_reducible apply Ev.wrap | with_reducible apply Ev.mul | with_reducible apply Ev.add | with_reducible apply Ev.sub | with_reducible apply Ev.neg | exact Ev.lit _ | (decide +kernel)))
        clear E1 E2 E3 E4 E5 E6 E7 E8 g1
        go_wp2
        go_quiet (fail)
        go_wp2
        go_roundw
        case rel => exact ⟨k + 1, by omega, by go_num, by rw [HS.out]; first | rfl | exact congrArg (Value.int .i64) q11, below_drewN HB.out _⟩
        case measure => simp [intOf]; omega
      · have hd : decide (x ≤ a) = false := decide_eq_false hxa
        have hxa2 : a < x := by omega
        have hv : ptS ⟨s, ww, t, 0⟩ x ⟨a, v⟩ = 4 * v * a * (s - x) * (s * s - a * a - (s - x) * (s - x)) := by
          unfold ptS
          have : decide (a < x) = true := decide_eq_true hxa2
          simp only [this, cond_true]
          show 4 * v * (s - x) * a * (s * s - (s - x) * (s - x) - a * a) = _
          rw [Int.mul_right_comm (4 * v) (s - x) a, show s * s - (s - x) * (s - x) - a * a = s * s - a * a - (s - x) * (s - x) by omega]
        rw [hv] at HS
        clear hv
        generalize sumL (ptS ⟨s, ww, t, 0⟩ x) (l.take k) = rk at *
        have E7 : Ev rk rk 4800000000000000000 := .of g1
        have q1 : wrap64 (4 * v) = 4 * v := by (apply Ev.e; repeat' (first | with_reducible assumption | with_reducible apply Ev.wrap | with_reducible apply Ev.mul | with_reducible apply Ev.add | with_reducible apply Ev.sub | with_reducible apply Ev.neg | exact Ev.lit _ | (decide +kernel)))
        have q2 : wrap64 (4 * v * a) = 4 * v * a := by (apply Ev.e; repeat' (first | with_reducible assumption | with_reducible apply Ev.wrap | with_reducible apply Ev.mul | with_reducible apply Ev.add | with_reducible apply Ev.sub | with_reducible apply Ev.neg | exact Ev.lit _ | (decide +kernel)))
        have q3 : wrap64 (s - x) = s - x := by (apply Ev.e; repeat' (first | with_reducible assumption | with_reducible apply Ev.wrap | with_reducible apply Ev.mul | with_reducible apply Ev.add | with_reducible apply Ev.sub | with_reducible apply Ev.neg | exact Ev.lit _ | (decide +kernel)))
        have q4 : wrap64 (4 * v * a * (s - x)) = 4 * v * a * (s - x) := by (apply Ev.e; repeat' (first | with_reducible assumption | with_reducible apply Ev.wrap | with_reducible apply Ev.mul | with_reducible apply Ev.add | with_reducible apply Ev.sub | with_reducible apply Ev.neg | exact Ev.lit _ | (decide +kernel)))
        have q5 : wrap64 (s * s) = s * s := by (apply Ev.e; repeat' (first | with_reducible assumption | with_reducible apply Ev.wrap | with_reducible apply Ev.mul | with_reducible apply Ev.add | with_reducible apply Ev.sub | with_reducible apply Ev.neg | exact Ev.lit _ | (decide +kernel)))
        have q6 : wrap64 (a * a) = a * a := by (apply Ev.e; repeat' (first | with_reducible assumption | with_reducible apply Ev.wrap | with_reducible apply Ev.mul | with_reducible apply Ev.add | with_reducible apply Ev.sub | with_reducible apply Ev.neg | exact Ev.lit _ | (decide +kernel)))
        have q7 : wrap64 (s * s - a * a) = s * s - a * a := by (apply Ev.e; repeat' (first | with_reducible assumption | with_reducible apply Ev.wrap | with_reducible apply Ev.mul | with_reducible apply Ev.add | with_reducible apply Ev.sub | with_reducible apply Ev.neg | exact Ev.lit _ | (decide +kernel)))
        have q8 : wrap64 ((s - x) * (s - x)) = (s - x) * (s - x) := by (apply Ev.e; repeat' (first | with_reducible assumption | with_reducible apply Ev.wrap | with_reducible apply Ev.mul | with_reducible apply Ev.add | with_reducible apply Ev.sub | with_reducible apply Ev.neg | exact Ev.lit _ | (decide +kernel)))
        have q9 : wrap64 (s * s - a * a - (s - x) * (s - x)) = s * s - a * a - (s - x) * (s - x) := by (apply Ev.e; repeat' (first | with_reducible assumption | with_reducible apply Ev.wrap | with_reducible apply Ev.mul | with_reducible apply Ev.add | with_reducible apply Ev.sub | with_reducible apply Ev.neg | exact Ev.lit _ | (decide +kernel)))
        have q10 : wrap64 (4 * v * a * (s - x) * (s * s - a * a - (s - x) * (s - x))) = 4 * v * a * (s - x) * (s * s - a * a - (s - x) * (s - x)) := by (apply Ev.e; repeat' (first | with_reducible assumption | with_reducible apply Ev.wrap | with_reducible apply Ev.mul | with_reducible apply Ev.add | with_reducible apply Ev.sub | with_reducible apply Ev.neg | exact Ev.lit _ | (decide +kernel)))
        have q11 : wrap64 (rk + 4 * v * a * (s - x) * (s * s - a * a - (s - x) * (s - x))) = rk + 4 * v * a * (s - x) * (s * s - a * a - (s - x) * (s - x)) := by (apply Ev.e; repeat' (first | with_reducible assumption | with_reducible apply Ev.wrap | with_reducible apply Ev.mul | with_reducible apply Ev.add | with_reducible apply Ev.sub | with_reducible apply Ev.neg | exact Ev.lit _ | (decide +kernel)))
        clear E1 E2 E3 E4 E5 E6 E7 E8 g1
        go_wp2
        go_quiet (fail)
        go_wp2
        go_roundw
        case rel => exact ⟨k + 1, by omega, by go_num, by rw [HS.out]; first | rfl | exact congrArg (Value.int .i64) q11, below_drewN HB.out _⟩
        case measure => simp [intOf]; omega
    · obtain rfl : k = n := by omega
      have HT1 : Hid (l.take k = l) := Lib.hid (List.take_of_length_le (by omega))
      rw [HT1.out] at g1 ⊢
      obtain ⟨rk, hrk⟩ : ∃ v, sumL (ptS ⟨s, ww, t, 0⟩ x) l = v := ⟨_, rfl⟩
      have HRK := Lib.hid hrk
      rw [hrk] at g1
      clear hrk
      have E7 : Ev rk rk 4800000000000000000 := .of g1
      have q1 : wrap64 (S * x) = S * x := by (apply Ev.e; repeat' (first | with_reducible assumption | with_reducible apply Ev.wrap | with_reducible apply Ev.mul | with_reducible apply Ev.add | with_reducible apply Ev.sub | with_reducible apply Ev.neg | exact Ev.lit _ | (decide +kernel)))
      have q2 : wrap64 (s * s) = s * s := by (apply Ev.e; repeat' (first | with_reducible assumption | with_reducible apply Ev.wrap | with_reducible apply Ev.mul | with_reducible apply Ev.add | with_reducible apply Ev.sub | with_reducible apply Ev.neg | exact Ev.lit _ | (decide +kernel)))
      have q3 : wrap64 (s * s * s) = s * s * s := by (apply Ev.e; repeat' (first | with_reducible assumption | with_reducible apply Ev.wrap | with_reducible apply Ev.mul | with_reducible apply Ev.add | with_reducible apply Ev.sub | with_reducible apply Ev.neg | exact Ev.lit _ | (decide +kernel)))
      have q4 : wrap64 (2 * s) = 2 * s := by (apply Ev.e; repeat' (first | with_reducible assumption | with_reducible apply Ev.wrap | with_reducible apply Ev.mul | with_reducible apply Ev.add | with_reducible apply Ev.sub | with_reducible apply Ev.neg | exact Ev.lit _ | (decide +kernel)))
      have q5 : wrap64 (2 * s * x) = 2 * s * x := by (apply Ev.e; repeat' (first | with_reducible assumption | with_reducible apply Ev.wrap | with_reducible apply Ev.mul | with_reducible apply Ev.add | with_reducible apply Ev.sub | with_reducible apply Ev.neg | exact Ev.lit _ | (decide +kernel)))
      have q6 : wrap64 (2 * s * x * x) = 2 * s * x * x := by (apply Ev.e; repeat' (first | with_reducible assumption | with_reducible apply Ev.wrap | with_reducible apply Ev.mul | with_reducible apply Ev.add | with_reducible apply Ev.sub | with_reducible apply Ev.neg | exact Ev.lit _ | (decide +kernel)))
      have q7 : wrap64 (s * s * s - 2 * s * x * x) = s * s * s - 2 * s * x * x := by (apply Ev.e; repeat' (first | with_reducible assumption | with_reducible apply Ev.wrap | with_reducible apply Ev.mul | with_reducible apply Ev.add | with_reducible apply Ev.sub | with_reducible apply Ev.neg | exact Ev.lit _ | (decide +kernel)))
      have q8 : wrap64 (x * x) = x * x := by (apply Ev.e; repeat' (first | with_reducible assumption | with_reducible apply Ev.wrap | with_reducible apply Ev.mul | with_reducible apply Ev.add | with_reducible apply Ev.sub | with_reducible apply Ev.neg | exact Ev.lit _ | (decide +kernel)))
      have q9 : wrap64 (x * x * x) = x * x * x := by (apply Ev.e; repeat' (first | with_reducible assumption | with_reducible apply Ev.wrap | with_reducible apply Ev.mul | with_reducible apply Ev.add | with_reducible apply Ev.sub | with_reducible apply Ev.neg | exact Ev.lit _ | (decide +kernel)))
      have q10 : wrap64 (s * s * s - 2 * s * x * x + x * x * x) = s * s * s - 2 * s * x * x + x * x * x := by (apply Ev.e; repeat' (first | with_reducible assumption | with_reducible apply Ev.wrap | with_reducible apply Ev.mul | with_reducible apply Ev.add | with_reducible apply Ev.sub | with_reducible apply Ev.neg | exact Ev.lit _ | (decide +kernel)))
      have q11 : wrap64 (S * x * (s * s * s - 2 * s * x * x + x * x * x)) = S * x * (s * s * s - 2 * s * x * x + x * x * x) := by (apply Ev.e; repeat' (first | with_reducible assumption | with_reducible apply Ev.wrap | with_reducible apply Ev.mul | with_reducible apply Ev.add | with_reducible apply Ev.sub | with_reducible apply Ev.neg | exact Ev.lit _ | (decide +kernel)))
      have q12 : wrap64 (rk + S * x * (s * s * s - 2 * s * x * x + x * x * x)) = rk + S * x * (s * s * s - 2 * s * x * x + x * x * x) := by (apply Ev.e; repeat' (first | with_reducible assumption | with_reducible apply Ev.wrap | with_reducible apply Ev.mul | with_reducible apply Ev.add | with_reducible apply Ev.sub | with_reducible apply Ev.neg | exact Ev.lit _ | (decide +kernel)))
      clear E1 E2 E3 E4 E7 g1
      go_wp2
      go_ret
      exact ⟨ret_int (by rw [HRK.out]; first | rfl | exact q12), HBW.out⟩
set_option maxHeartbeats 8000000 in
set_option maxRecDepth 20000 in
theorem rsag1_any {s ww t x : Int} {A : Option Addr} {n c : Nat} {S : Int} {l : List Pt} (hb : BmOk ⟨s, ww, t, 1⟩) (hl : WtOk s l S) (x0 : 0 ≤ x) (x1 : x ≤ s) (w : World) (h : PtRow w A n l) :
    Calls Try.prog 108 #[.agg #[.int .i64 s, .int .i64 ww, .int .i64 t, .int .i64 1], buV A n c S, .int .i64 x] w fun e w' => e = .returned (.int .i64 (sag ⟨s, ww, t, 1⟩ l S x)) ∧ Below w.heap.size w w' := by
  have HR := Lib.hid h
  have hle : l.length ≤ n := by have := h.1; omega
  have hge : n ≤ l.length := by have := h.1; omega
  have HWT := Lib.hid hl
  have hn8 : n ≤ 8 := by have := hl.len; omega
  have HBD := Lib.hid (sagk_bd hb hl x0 x1)
  have hS0 := hl.S0; have hS1 := hl.S1
  have hs1 : s ≤ 2000 := hb.s1
  have E1 : Ev s s 2000 := .of (by omega)
  have E2 : Ev x x 2000 := .of (by omega)
  have E3 : Ev S S 20000 := .of (by omega)
  have E4 : Ev (s - x) (s - x) 2000 := .of (by omega)
  have HSG : Hid (sag ⟨s, ww, t, 1⟩ l S x = sumL (ptS ⟨s, ww, t, 1⟩ x) l + S * x * x * (x * x - 4 * s * x + 6 * s * s)) := Lib.hid (by unfold sag; rw [Int.add_comm]; rfl)
  rw [HSG.out]
  clear h hl hb HSG
  unfold buV
  go_enter Try.func108, Try.ntmps108
  go_upto_region 1 with fail
  obtain ⟨w0, hw0⟩ : ∃ w0, ((w.alloc (.cells #[.int .i64 s, .int .i64 ww, .int .i64 t, .int .i64 1] 23)).alloc (.cells #[.slice A n c, .int .i64 S] 26)) = w0 := ⟨_, rfl⟩
  have HB0 : Hid (Below w.heap.size w w0) := Lib.hid (by rw [← hw0]; exact (((Below.refl _ _).alloc (Nat.le_refl _) _).alloc (by simp; try omega) _))
  have HC := Lib.hid (fun wx (hb : Below w0.heap.size w0 wx) => (show wx.cell? ⟨w.heap.size, 0, none⟩ = some (.int .i64 s) ∧ wx.cell? ⟨w.heap.size, 1, none⟩ = some (.int .i64 ww) ∧ wx.cell? ⟨w.heap.size, 2, none⟩ = some (.int .i64 t) ∧ wx.cell? ⟨w.heap.size, 3, none⟩ = some (.int .i64 1) ∧ wx.cell? ⟨w.heap.size + 1, 0, none⟩ = some (.slice A n c) ∧ wx.cell? ⟨w.heap.size + 1, 1, none⟩ = some (.int .i64 S) from by
    subst hw0
    obtain ⟨k, kf⟩ := bcell hb
    exact ⟨(k _ _ (by simp; try omega)).trans (by simp [go_sem]), (k _ _ (by simp; try omega)).trans (by simp [go_sem]), (k _ _ (by simp; try omega)).trans (by simp [go_sem]), (k _ _ (by simp; try omega)).trans (by simp [go_sem]), (k _ _ (by simp; try omega)).trans (by simp [go_sem]), (k _ _ (by simp; try omega)).trans (by simp [go_sem])⟩))
  rw [hw0]
  clear hw0
  have HZ0 := Lib.hid (Below.refl w0.heap.size w0)
  obtain ⟨c0, c1, c2, c3, c4, c5⟩ := HC.out w0 HZ0.out
  go_wp2
  go_loopw [8, 9] (fun r i wr => ∃ k : Nat, k ≤ n ∧ i = .int .i64 k ∧ r = .int .i64 (sumL (ptS ⟨s, ww, t, 1⟩ x) (l.take k)) ∧ Below w0.heap.size w0 wr) (fun _ i _ => n - (intOf i).toNat)
  case atStart => exact ⟨0, Nat.zero_le _, rfl, rfl, HZ0.out⟩
  case round =>
    obtain ⟨k, hk, rfl, rfl, hbw⟩ := hrel
    clear c0 c1 c2 c3 c4 c5
    have HB := Lib.hid hbw
    have HBW := Lib.hid (HB0.out.trans (hbw.mono HB0.out.size))
    obtain ⟨d0, d1, d2, d3, d4, d5⟩ := HC.out wr hbw
    have g1 := HBD.out k
    clear hbw
    by_cases hlt : k < n
    · have hkl : k < l.length := by omega
      obtain ⟨blk, off, rfl, hblk, hx⟩ := HR.out.2 (by omega)
      obtain ⟨hp0, hp1⟩ := (hx k hkl).below HBW.out hblk
      have hpo := HWT.out.pt l[k] (List.getElem_mem hkl)
      have HS := Lib.hid (sumL_take_succ (ptS ⟨s, ww, t, 1⟩ x) l hkl)
      obtain ⟨p, hpe⟩ : ∃ x, l[k] = x := ⟨_, rfl⟩
      rw [hpe] at hp0 hp1 hpo HS
      clear hx hpe
      obtain ⟨a, v⟩ := p
      obtain ⟨a0, a1, n0, n1⟩ := hpo
      simp only at hp0 hp1 a0 a1 n0 n1
      have E5 : Ev v v 2000 := .of (by omega)
      have E6 : Ev a a 2000 := .of (by omega)
      have E8 : Ev (s - a) (s - a) 2000 := .of (by omega)
      have hl3 : w.heap.size < wr.heap.size := World.block_lt_of_cell? wr _ d0
      have hl4 : w.heap.size + 1 < wr.heap.size := World.block_lt_of_cell? wr _ d4
      by_cases hxa : x ≤ a
      · have hd : decide (x ≤ a) = true := decide_eq_true hxa
        have hv : ptS ⟨s, ww, t, 1⟩ x ⟨a, v⟩ = 4 * s * v * x * x * (3 * a - x) := by
          unfold ptS
          have : decide (a < x) = false := decide_eq_false (by omega)
          simp only [this, cond_false]
          rfl
        rw [hv] at HS
        clear hv
        generalize sumL (ptS ⟨s, ww, t, 1⟩ x) (l.take k) = rk at *
        have E7 : Ev rk rk 4800000000000000000 := .of g1
        have q1 : wrap64 (4 * s) = 4 * s := by (apply Ev.e; repeat' (first | with_reducible assumption | with_reducible apply Ev.wrap | with_reducible apply Ev.mul | with_reducible apply Ev.add | with_reducible apply Ev.sub | with_reducible apply Ev.neg | exact Ev.lit _ | (decide +kernel)))
        have q2 : wrap64 (4 * s * v) = 4 * s * v := by (apply Ev.e; repeat' (first | with_reducible assumption | with_reducible apply Ev.wrap | with_reducible apply Ev.mul | with_reducible apply Ev.add | with_reducible apply Ev.sub | with_reducible apply Ev.neg | exact Ev.lit _ | (decide +kernel)))
        have q3 : wrap64 (4 * s * v * x) = 4 * s * v * x := by (apply Ev.e; repeat' (first | with_reducible assumption | with_reducible apply Ev.wrap | with_reducible apply Ev.mul | with_reducible apply Ev.add | with_reducible apply Ev.sub | with_reducible apply Ev.neg | exact Ev.lit _ | (decide +kernel)))
        have q4 : wrap64 (4 * s * v * x * x) = 4 * s * v * x * x := by (apply Ev.e; repeat' (first | with_reducible assumption | with_reducible apply Ev.wrap | with_reducible apply Ev.mul | with_reducible apply Ev.add | with_reducible apply Ev.sub | with_reducible apply Ev.neg | exact Ev.lit _ | (decide +kernel)))
        have q5 : wrap64 (3 * a) = 3 * a := by (apply Ev.e; repeat' (first | with_reducible assumption | with_reducible apply Ev.wrap | with_reducible apply Ev.mul | with_reducible apply Ev.add | with_reducible apply Ev.sub | with_reducible apply Ev.neg | exact Ev.lit _ | (decide +kernel)))
        have q6 : wrap64 (3 * a - x) = 3 * a - x := by (apply Ev.e; repeat' (first | with_reducible assumption | with_reducible apply Ev.wrap | with_reducible apply Ev.mul | with_reducible apply Ev.add | with_reducible apply Ev.sub | with_reducible apply Ev.neg | exact Ev.lit _ | (decide +kernel)))
        have q7 : wrap64 (4 * s * v * x * x * (3 * a - x)) = 4 * s * v * x * x * (3 * a - x) := by (apply Ev.e; repeat' (first | with_reducible assumption | with_reducible apply Ev.wrap | with_reducible apply Ev.mul | with_reducible apply Ev.add | with_reducible apply Ev.sub | with_reducible apply Ev.neg | exact Ev.lit _ | (decide +kernel)))
        have q8 : wrap64 (rk + 4 * s * v * x * x * (3 * a - x)) = rk + 4 * s * v * x * x * (3 * a - x) := by (apply Ev.e; repeat' (first | with_reducible assumption | with_reducible apply Ev.wrap | with_reducible apply Ev.mul | with_reducible apply Ev.add | with_reducible apply Ev.sub | with_reducible apply Ev.neg | exact Ev.lit _ | (decide +kernel)))
        clear E1 E2 E3 E4 E5 E6 E7 E8 g1
        go_wp2
        go_quiet (fail)
        go_wp2
        go_roundw
        case rel => exact ⟨k + 1, by omega, by go_num, by rw [HS.out]; first | rfl | exact congrArg (Value.int .i64) q8, below_drewN HB.out _⟩
        case measure => simp [intOf]; omega
      · have hd : decide (x ≤ a) = false := decide_eq_false hxa
        have hxa2 : a < x := by omega
        have hv : ptS ⟨s, ww, t, 1⟩ x ⟨a, v⟩ = 4 * s * v * a * a * (3 * x - a) := by
          unfold ptS
          have : decide (a < x) = true := decide_eq_true hxa2
          simp only [this, cond_true]
          show 4 * s * v * a * a * (3 * x - a) = _
          rfl
        rw [hv] at HS
        clear hv
        generalize sumL (ptS ⟨s, ww, t, 1⟩ x) (l.take k) = rk at *
        have E7 : Ev rk rk 4800000000000000000 := .of g1
        have q1 : wrap64 (4 * s) = 4 * s := by (apply Ev.e; repeat' (first | with_reducible assumption | with_reducible apply Ev.wrap | with_reducible apply Ev.mul | with_reducible apply Ev.add | with_reducible apply Ev.sub | with_reducible apply Ev.neg | exact Ev.lit _ | (decide +kernel)))
        have q2 : wrap64 (4 * s * v) = 4 * s * v := by (apply Ev.e; repeat' (first | with_reducible assumption | with_reducible apply Ev.wrap | with_reducible apply Ev.mul | with_reducible apply Ev.add | with_reducible apply Ev.sub | with_reducible apply Ev.neg | exact Ev.lit _ | (decide +kernel)))
        have q3 : wrap64 (4 * s * v * a) = 4 * s * v * a := by (apply Ev.e; repeat' (first | with_reducible assumption | with_reducible apply Ev.wrap | with_reducible apply Ev.mul | with_reducible apply Ev.add | with_reducible apply Ev.sub | with_reducible apply Ev.neg | exact Ev.lit _ | (decide +kernel)))
        have q4 : wrap64 (4 * s * v * a * a) = 4 * s * v * a * a := by (apply Ev.e; repeat' (first | with_reducible assumption | with_reducible apply Ev.wrap | with_reducible apply Ev.mul | with_reducible apply Ev.add | with_reducible apply Ev.sub | with_reducible apply Ev.neg | exact Ev.lit _ | (decide +kernel)))
        have q5 : wrap64 (3 * x) = 3 * x := by (apply Ev.e; repeat' (first | with_reducible assumption | with_reducible apply Ev.wrap | with_reducible apply Ev.mul | with_reducible apply Ev.add | with_reducible apply Ev.sub | with_reducible apply Ev.neg | exact Ev.lit _ | (decide +kernel)))
        have q6 : wrap64 (3 * x - a) = 3 * x - a := by (apply Ev.e; repeat' (first | with_reducible assumption | with_reducible apply Ev.wrap | with_reducible apply Ev.mul | with_reducible apply Ev.add | with_reducible apply Ev.sub | with_reducible apply Ev.neg | exact Ev.lit _ | (decide +kernel)))
        have q7 : wrap64 (4 * s * v * a * a * (3 * x - a)) = 4 * s * v * a * a * (3 * x - a) := by (apply Ev.e; repeat' (first | with_reducible assumption | with_reducible apply Ev.wrap | with_reducible apply Ev.mul | with_reducible apply Ev.add | with_reducible apply Ev.sub | with_reducible apply Ev.neg | exact Ev.lit _ | (decide +kernel)))
        have q8 : wrap64 (rk + 4 * s * v * a * a * (3 * x - a)) = rk + 4 * s * v * a * a * (3 * x - a) := by (apply Ev.e; repeat' (first | with_reducible assumption | with_reducible apply Ev.wrap | with_reducible apply Ev.mul | with_reducible apply Ev.add | with_reducible apply Ev.sub | with_reducible apply Ev.neg | exact Ev.lit _ | (decide +kernel)))
        clear E1 E2 E3 E4 E5 E6 E7 E8 g1
        go_wp2
        go_quiet (fail)
        go_wp2
        go_roundw
        case rel => exact ⟨k + 1, by omega, by go_num, by rw [HS.out]; first | rfl | exact congrArg (Value.int .i64) q8, below_drewN HB.out _⟩
        case measure => simp [intOf]; omega
    · obtain rfl : k = n := by omega
      have HT1 : Hid (l.take k = l) := Lib.hid (List.take_of_length_le (by omega))
      rw [HT1.out] at g1 ⊢
      obtain ⟨rk, hrk⟩ : ∃ v, sumL (ptS ⟨s, ww, t, 1⟩ x) l = v := ⟨_, rfl⟩
      have HRK := Lib.hid hrk
      rw [hrk] at g1
      clear hrk
      have E7 : Ev rk rk 4800000000000000000 := .of g1
      have q1 : wrap64 (S * x) = S * x := by (apply Ev.e; repeat' (first | with_reducible assumption | with_reducible apply Ev.wrap | with_reducible apply Ev.mul | with_reducible apply Ev.add | with_reducible apply Ev.sub | with_reducible apply Ev.neg | exact Ev.lit _ | (decide +kernel)))
      have q2 : wrap64 (S * x * x) = S * x * x := by (apply Ev.e; repeat' (first | with_reducible assumption | with_reducible apply Ev.wrap | with_reducible apply Ev.mul | with_reducible apply Ev.add | with_reducible apply Ev.sub | with_reducible apply Ev.neg | exact Ev.lit _ | (decide +kernel)))
      have q3 : wrap64 (x * x) = x * x := by (apply Ev.e; repeat' (first | with_reducible assumption | with_reducible apply Ev.wrap | with_reducible apply Ev.mul | with_reducible apply Ev.add | with_reducible apply Ev.sub | with_reducible apply Ev.neg | exact Ev.lit _ | (decide +kernel)))
      have q4 : wrap64 (4 * s) = 4 * s := by (apply Ev.e; repeat' (first | with_reducible assumption | with_reducible apply Ev.wrap | with_reducible apply Ev.mul | with_reducible apply Ev.add | with_reducible apply Ev.sub | with_reducible apply Ev.neg | exact Ev.lit _ | (decide +kernel)))
      have q5 : wrap64 (4 * s * x) = 4 * s * x := by (apply Ev.e; repeat' (first | with_reducible assumption | with_reducible apply Ev.wrap | with_reducible apply Ev.mul | with_reducible apply Ev.add | with_reducible apply Ev.sub | with_reducible apply Ev.neg | exact Ev.lit _ | (decide +kernel)))
      have q6 : wrap64 (x * x - 4 * s * x) = x * x - 4 * s * x := by (apply Ev.e; repeat' (first | with_reducible assumption | with_reducible apply Ev.wrap | with_reducible apply Ev.mul | with_reducible apply Ev.add | with_reducible apply Ev.sub | with_reducible apply Ev.neg | exact Ev.lit _ | (decide +kernel)))
      have q7 : wrap64 (6 * s) = 6 * s := by (apply Ev.e; repeat' (first | with_reducible assumption | with_reducible apply Ev.wrap | with_reducible apply Ev.mul | with_reducible apply Ev.add | with_reducible apply Ev.sub | with_reducible apply Ev.neg | exact Ev.lit _ | (decide +kernel)))
      have q8 : wrap64 (6 * s * s) = 6 * s * s := by (apply Ev.e; repeat' (first | with_reducible assumption | with_reducible apply Ev.wrap | with_reducible apply Ev.mul | with_reducible apply Ev.add | with_reducible apply Ev.sub | with_reducible apply Ev.neg | exact Ev.lit _ | (decide +kernel)))
      have q9 : wrap64 (x * x - 4 * s * x + 6 * s * s) = x * x - 4 * s * x + 6 * s * s := by (apply Ev.e; repeat' (first | with_reducible assumption | with_reducible apply Ev.wrap | with_reducible apply Ev.mul | with_reducible apply Ev.add | with_reducible apply Ev.sub | with_reducible apply Ev.neg | exact Ev.lit _ | (decide +kernel)))
      have q10 : wrap64 (S * x * x * (x * x - 4 * s * x + 6 * s * s)) = S * x * x * (x * x - 4 * s * x + 6 * s * s) := by (apply Ev.e; repeat' (first | with_reducible assumption | with_reducible apply Ev.wrap | with_reducible apply Ev.mul | with_reducible apply Ev.add | with_reducible apply Ev.sub | with_reducible apply Ev.neg | exact Ev.lit _ | (decide +kernel)))
      have q11 : wrap64 (rk + S * x * x * (x * x - 4 * s * x + 6 * s * s)) = rk + S * x * x * (x * x - 4 * s * x + 6 * s * s) := by (apply Ev.e; repeat' (first | with_reducible assumption | with_reducible apply Ev.wrap | with_reducible apply Ev.mul | with_reducible apply Ev.add | with_reducible apply Ev.sub | with_reducible apply Ev.neg | exact Ev.lit _ | (decide +kernel)))
      clear E1 E2 E3 E4 E7 g1
      go_wp2
      go_ret
      exact ⟨ret_int (by rw [HRK.out]; first | rfl | exact q11), HBW.out⟩
theorem rsag_any {b : Bm} {A : Option Addr} {n c : Nat} {S x : Int} {l : List Pt} (hb : BmOk b) (hl : WtOk b.s l S) (x0 : 0 ≤ x) (x1 : x ≤ b.s) (w : World) (h : PtRow w A n l) :
    Calls Try.prog 108 #[bmV b, buV A n c S, .int .i64 x] w fun e w' => e = .returned (.int .i64 (sag b l S x)) ∧ Below w.heap.size w w' := by
  have e0 := hb.e0
  obtain ⟨s, ww, t, en⟩ := b
  simp only at e0 hl x1
  rcases e0 with rfl | rfl
  · exact rsag0_any hb hl x0 x1 w h
  · exact rsag1_any hb hl x0 x1 w h
set_option maxHeartbeats 1000000 in
theorem runder_any {b : Bm} {E : Int} (hb : BmOk b) (h0 : 1 ≤ E) (h1 : E ≤ 30000) (w : World) : Calls Try.prog 109 #[bmV b, .int .i64 E] w fun e w' => e = .returned (.int .i64 (sgD b E)) ∧ Below w.heap.size w w' := by
  obtain ⟨s, ww, t, en⟩ := b
  obtain ⟨s0, s1, w0, w1, t0, t1, e0⟩ := hb
  simp only at s0 s1 w0 w1 t0 t1
  unfold bmV sgD
  simp only
  have E1 : Ev s s 2000 := .of (by omega)
  have E2 : Ev ww ww 1000 := .of (by omega)
  have E3 : Ev t t 300 := .of (by omega)
  have E4 : Ev E E 30000 := .of (by omega)
  have q0 : wrap64 (2 * s) = 2 * s := by (apply Ev.e; repeat' (first | with_reducible assumption | with_reducible apply Ev.wrap | with_reducible apply Ev.mul | with_reducible apply Ev.add | with_reducible apply Ev.sub | with_reducible apply Ev.neg | exact Ev.lit _ | (decide +kernel)))
  have q1 : wrap64 (2 * s * E) = 2 * s * E := by (apply Ev.e; repeat' (first | with_reducible assumption | with_reducible apply Ev.wrap | with_reducible apply Ev.mul | with_reducible apply Ev.add | with_reducible apply Ev.sub | with_reducible apply Ev.neg | exact Ev.lit _ | (decide +kernel)))
  have q2 : wrap64 (2 * s * E * ww) = 2 * s * E * ww := by (apply Ev.e; repeat' (first | with_reducible assumption | with_reducible apply Ev.wrap | with_reducible apply Ev.mul | with_reducible apply Ev.add | with_reducible apply Ev.sub | with_reducible apply Ev.neg | exact Ev.lit _ | (decide +kernel)))
  have q3 : wrap64 (2 * s * E * ww * t) = 2 * s * E * ww * t := by (apply Ev.e; repeat' (first | with_reducible assumption | with_reducible apply Ev.wrap | with_reducible apply Ev.mul | with_reducible apply Ev.add | with_reducible apply Ev.sub | with_reducible apply Ev.neg | exact Ev.lit _ | (decide +kernel)))
  have q4 : wrap64 (2 * s * E * ww * t * t) = 2 * s * E * ww * t * t := by (apply Ev.e; repeat' (first | with_reducible assumption | with_reducible apply Ev.wrap | with_reducible apply Ev.mul | with_reducible apply Ev.add | with_reducible apply Ev.sub | with_reducible apply Ev.neg | exact Ev.lit _ | (decide +kernel)))
  have q5 : wrap64 (2 * s * E * ww * t * t * t) = 2 * s * E * ww * t * t * t := by (apply Ev.e; repeat' (first | with_reducible assumption | with_reducible apply Ev.wrap | with_reducible apply Ev.mul | with_reducible apply Ev.add | with_reducible apply Ev.sub | with_reducible apply Ev.neg | exact Ev.lit _ | (decide +kernel)))
  clear E1 E2 E3 E4
  go_enter Try.func109, Try.ntmps109
  go_wp2
  go_ret
  exact ⟨ret_int (by first | rfl | exact q5), (Below.refl _ _).alloc (Nat.le_refl _) _⟩
end Go.Proofs.Ytablphoicidlkaa
namespace Go.Proofs.Ytablphoicidlkaa
open Go.RowKit

set_option maxHeartbeats 4000000 in
set_option maxRecDepth 20000 in
theorem rSag_any {b : Bm} {A : Option Addr} {n c : Nat} {S E x : Int} {l : List Pt} (hb : BmOk b) (hl : WtOk b.s l S) (h0 : 1 ≤ E) (h1 : E ≤ 30000) (x0 : 0 ≤ x) (x1 : x ≤ b.s) (w : World) (h : PtRow w A n l) :
    Calls Try.prog 43 #[bmV b, .int .i64 E, buV A n c S, .int .i64 x] w fun e w' => e = .returned (frV (sag b l S x) (sgD b E)) ∧ Below w.heap.size w w' := by
  have MO := Lib.hid (fun wx (hx : Below w.heap.size w wx) => rsag_any (c := c) hb hl x0 x1 wx (h.below hx))
  have UN := fun wx => Lib.hid (runder_any hb h0 h1 wx)
  have k2 := sag_bd hb hl x0 x1
  have d1 := sgD_bd hb h0 h1
  have LO := Lib.hid (fun wx => lowest_any (n := sag b l S x) (d := sgD b E) (by omega) (by omega) (by omega) wx)
  obtain ⟨s, ww, t, en⟩ := b
  unfold bmV buV at *
  simp only at MO LO UN ⊢
  clear h hb hl x0 x1 k2 h0 h1 d1
  generalize sag ⟨s, ww, t, en⟩ l S x = nu at *
  generalize sgD ⟨s, ww, t, en⟩ E = dd at *
  unfold frV at *
  generalize lowN nu dd = nn at *
  generalize lowD nu dd = de at *
  go_enter Try.func43, Try.ntmps43
  go_wp2
  obtain ⟨w0, hw0⟩ : ∃ w0, (((w.alloc (.cells #[.int .i64 s, .int .i64 ww, .int .i64 t, .int .i64 en] 23)).alloc (.cells #[.slice A n c, .int .i64 S] 26)).alloc (.cells #[.int .i64 0, .int .i64 0] 30)) = w0 := ⟨_, rfl⟩
  have HB0 : Hid (Below w.heap.size w w0) := Lib.hid (by rw [← hw0]; exact ((((Below.refl _ _).alloc (Nat.le_refl _) _).alloc (by simp; try omega) _).alloc (by simp; try omega) _))
  have HC := Lib.hid (fun wx (hb : Below w0.heap.size w0 wx) => (show wx.cell? ⟨w.heap.size, 0, none⟩ = some (.int .i64 s) ∧ wx.cell? ⟨w.heap.size, 1, none⟩ = some (.int .i64 ww) ∧ wx.cell? ⟨w.heap.size, 2, none⟩ = some (.int .i64 t) ∧ wx.cell? ⟨w.heap.size, 3, none⟩ = some (.int .i64 en) ∧ wx.cell? ⟨w.heap.size + 1, 0, none⟩ = some (.slice A n c) ∧ wx.cell? ⟨w.heap.size + 1, 1, none⟩ = some (.int .i64 S) ∧ wx.cell? ⟨w.heap.size + 2, 0, none⟩ = some (.int .i64 0) ∧ wx.cell? ⟨w.heap.size + 2, 1, none⟩ = some (.int .i64 0) ∧ wx.frozen? ⟨w.heap.size + 2, 0, none⟩ = false ∧ wx.frozen? ⟨w.heap.size + 2, 1, none⟩ = false from by
    subst hw0
    obtain ⟨k, kf⟩ := bcell hb
    exact ⟨(k _ _ (by simp; try omega)).trans (by simp [go_sem]), (k _ _ (by simp; try omega)).trans (by simp [go_sem]), (k _ _ (by simp; try omega)).trans (by simp [go_sem]), (k _ _ (by simp; try omega)).trans (by simp [go_sem]), (k _ _ (by simp; try omega)).trans (by simp [go_sem]), (k _ _ (by simp; try omega)).trans (by simp [go_sem]), (k _ _ (by simp; try omega)).trans (by simp [go_sem]), (k _ _ (by simp; try omega)).trans (by simp [go_sem]), (kf _ _ (by simp; try omega)).trans (by simp [go_sem]), (kf _ _ (by simp; try omega)).trans (by simp [go_sem])⟩))
  rw [hw0]
  clear hw0
  refine wp_region_rkt [9, 10, 11, 12, 13, 14, 15, 16] [rEq (.agg #[.int .i64 s, .int .i64 ww, .int .i64 t, .int .i64 en]), rEq (.agg #[.slice A n c, .int .i64 S]), rEq (.int .i64 x), rEq (.int .i64 nu), rEq (.agg #[.int .i64 s, .int .i64 ww, .int .i64 t, .int .i64 en]), rEq (.int .i64 E), rEq (.int .i64 dd), rEq (.agg #[.int .i64 nn, .int .i64 de])] (by kernel_rfl) (by kernel_rfl) (by decide) rfl ⟨?_, ?_, ?_, ?_, ?_, ?_, ?_, ?_, trivial⟩ ?_
  · intro ac wx hf hb hd -- 0
    have f4 : ac.tmps[4]?.getD undef = .pointer (some ⟨w.heap.size, 0, none⟩) := by rw [← Array.getD_eq_getD_getElem?]; exact hf.same 4 (by decide)
    obtain ⟨c0, c1, c2, c3, c4, c5, c6, c7, z2_0, z2_1⟩ := HC.out wx hb
    exact rstep_eq (by simp [execOp, Act.eval, f4, c0, c1, c2, c3, go_sem]) rfl
  · intro ac wx hf hb hd -- 1
    have f6 : ac.tmps[6]?.getD undef = .pointer (some ⟨w.heap.size + 1, 0, none⟩) := by rw [← Array.getD_eq_getD_getElem?]; exact hf.same 6 (by decide)
    obtain ⟨c0, c1, c2, c3, c4, c5, c6, c7, z2_0, z2_1⟩ := HC.out wx hb
    exact rstep_eq (by simp [execOp, Act.eval, f6, c4, c5, go_sem]) rfl
  · intro ac wx hf hb hd -- 2
    have f3 : ac.tmps[3]?.getD undef = .int .i64 x := by rw [← Array.getD_eq_getD_getElem?]; exact hf.same 3 (by decide)
    exact rstep_eq (by simp [execOp, Act.eval, f3, go_sem]) rfl
  · intro ac wx hf hb hd -- 3
    have d0 : ac.tmps[9]?.getD undef = .agg #[.int .i64 s, .int .i64 ww, .int .i64 t, .int .i64 en] := by rw [← Array.getD_eq_getD_getElem?]; exact hd 0 (by decide)
    have d1 : ac.tmps[10]?.getD undef = .agg #[.slice A n c, .int .i64 S] := by rw [← Array.getD_eq_getD_getElem?]; exact hd 1 (by decide)
    have d2 : ac.tmps[11]?.getD undef = .int .i64 x := by rw [← Array.getD_eq_getD_getElem?]; exact hd 2 (by decide)
    refine rstep_call (f := 108) (args := #[.agg #[.int .i64 s, .int .i64 ww, .int .i64 t, .int .i64 en], .agg #[.slice A n c, .int .i64 S], .int .i64 x]) (by simp [Act.eval, d0, d1, d2, go_sem]) ?_ rfl
    exact MO.out wx (HB0.out.trans (hb.mono HB0.out.size))
  · intro ac wx hf hb hd -- 4
    have f4 : ac.tmps[4]?.getD undef = .pointer (some ⟨w.heap.size, 0, none⟩) := by rw [← Array.getD_eq_getD_getElem?]; exact hf.same 4 (by decide)
    obtain ⟨c0, c1, c2, c3, c4, c5, c6, c7, z2_0, z2_1⟩ := HC.out wx hb
    exact rstep_eq (by simp [execOp, Act.eval, f4, c0, c1, c2, c3, go_sem]) rfl
  · intro ac wx hf hb hd -- 5
    have f1 : ac.tmps[1]?.getD undef = .int .i64 E := by rw [← Array.getD_eq_getD_getElem?]; exact hf.same 1 (by decide)
    exact rstep_eq (by simp [execOp, Act.eval, f1, go_sem]) rfl
  · intro ac wx hf hb hd -- 6
    have d4 : ac.tmps[13]?.getD undef = .agg #[.int .i64 s, .int .i64 ww, .int .i64 t, .int .i64 en] := by rw [← Array.getD_eq_getD_getElem?]; exact hd 4 (by decide)
    have d5 : ac.tmps[14]?.getD undef = .int .i64 E := by rw [← Array.getD_eq_getD_getElem?]; exact hd 5 (by decide)
    refine rstep_call (f := 109) (args := #[.agg #[.int .i64 s, .int .i64 ww, .int .i64 t, .int .i64 en], .int .i64 E]) (by simp [Act.eval, d4, d5, go_sem]) ?_ rfl
    exact (UN wx).out
  · intro ac wx hf hb hd -- 7
    have d3 : ac.tmps[12]?.getD undef = .int .i64 nu := by rw [← Array.getD_eq_getD_getElem?]; exact hd 3 (by decide)
    have d6 : ac.tmps[15]?.getD undef = .int .i64 dd := by rw [← Array.getD_eq_getD_getElem?]; exact hd 6 (by decide)
    refine rstep_call (f := 89) (args := #[.int .i64 nu, .int .i64 dd]) (by simp [Act.eval, d3, d6, go_sem]) ?_ rfl
    exact (LO.out wx)
  rintro ⟨⟨ll⟩, df⟩ wx hf hb hall
  have hdf : df = [] := hf.defers
  subst hdf
  have hsz : ll.length = 17 := hf.size
  obtain ⟨x0, ll0, rfl, hsz0⟩ := cons_of hsz
  obtain ⟨x1, ll1, rfl, hsz1⟩ := cons_of hsz0
  obtain ⟨x2, ll2, rfl, hsz2⟩ := cons_of hsz1
  obtain ⟨x3, ll3, rfl, hsz3⟩ := cons_of hsz2
  obtain ⟨x4, ll4, rfl, hsz4⟩ := cons_of hsz3
  obtain ⟨x5, ll5, rfl, hsz5⟩ := cons_of hsz4
  obtain ⟨x6, ll6, rfl, hsz6⟩ := cons_of hsz5
  obtain ⟨x7, ll7, rfl, hsz7⟩ := cons_of hsz6
  obtain ⟨x8, ll8, rfl, hsz8⟩ := cons_of hsz7
  obtain ⟨x9, ll9, rfl, hsz9⟩ := cons_of hsz8
  obtain ⟨x10, ll10, rfl, hsz10⟩ := cons_of hsz9
  obtain ⟨x11, ll11, rfl, hsz11⟩ := cons_of hsz10
  obtain ⟨x12, ll12, rfl, hsz12⟩ := cons_of hsz11
  obtain ⟨x13, ll13, rfl, hsz13⟩ := cons_of hsz12
  obtain ⟨x14, ll14, rfl, hsz14⟩ := cons_of hsz13
  obtain ⟨x15, ll15, rfl, hsz15⟩ := cons_of hsz14
  obtain ⟨x16, ll16, rfl, hsz16⟩ := cons_of hsz15
  obtain rfl := List.eq_nil_of_length_eq_zero hsz16
  obtain rfl : x1 = .int .i64 E := hf.same 1 (by decide)
  obtain rfl : x3 = .int .i64 x := hf.same 3 (by decide)
  obtain rfl : x4 = .pointer (some ⟨w.heap.size, 0, none⟩) := hf.same 4 (by decide)
  obtain rfl : x6 = .pointer (some ⟨w.heap.size + 1, 0, none⟩) := hf.same 6 (by decide)
  obtain rfl : x8 = .pointer (some ⟨w.heap.size + 2, 0, none⟩) := hf.same 8 (by decide)
  obtain rfl : x9 = .agg #[.int .i64 s, .int .i64 ww, .int .i64 t, .int .i64 en] := hall 0 9 rfl
  obtain rfl : x10 = .agg #[.slice A n c, .int .i64 S] := hall 1 10 rfl
  obtain rfl : x11 = .int .i64 x := hall 2 11 rfl
  obtain rfl : x12 = .int .i64 nu := hall 3 12 rfl
  obtain rfl : x13 = .agg #[.int .i64 s, .int .i64 ww, .int .i64 t, .int .i64 en] := hall 4 13 rfl
  obtain rfl : x14 = .int .i64 E := hall 5 14 rfl
  obtain rfl : x15 = .int .i64 dd := hall 6 15 rfl
  obtain rfl : x16 = .agg #[.int .i64 nn, .int .i64 de] := hall 7 16 rfl
  clear hall hf
  intro o ho
  have ho2 : _ = o := Option.some.inj ho
  subst ho2
  clear ho
  obtain ⟨c0, c1, c2, c3, c4, c5, c6, c7, z2_0, z2_1⟩ := HC.out wx hb
  simp [Oper.wp, Oper.upon, execOp, Act.eval, go_sem, c6, c7, z2_0, z2_1]
  go_wp2
  refine bodyPost_ret (v := .agg #[.int .i64 nn, .int .i64 de]) (by simp [results, Try.results43, go_sem, c6, c7]) rfl ⟨rfl, ?_⟩
  exact ((HB0.out.trans (hb.mono HB0.out.size)).setCell (p := ⟨w.heap.size + 2, 0, none⟩) (by simp) _).setCell (p := ⟨w.heap.size + 2, 1, none⟩) (by simp) _
/-- The greatest one is one of them. -/
theorem grP_at {g : Nat → Int} : ∀ n : Nat, (grP g (n + 1)).1 ≤ n ∧ (grP g (n + 1)).2 = g (grP g (n + 1)).1
  | 0 => by
    by_cases hl : absI 0 < absI (g 0)
    · rw [grP_succ_lt (show grP g 0 = (0, 0) from rfl) hl]; exact ⟨Nat.le_refl _, rfl⟩
    · rw [grP_succ_ge (show grP g 0 = (0, 0) from rfl) hl]
      refine ⟨Nat.le_refl _, ?_⟩
      show (0 : Int) = g 0
      have h0 : absI 0 = 0 := rfl
      unfold absI at hl h0
      omega
  | n + 1 => by
    have ih := grP_at (g := g) n
    rcases e : grP g (n + 1) with ⟨p, m⟩
    rw [e] at ih
    by_cases hl : absI m < absI (g (n + 1))
    · rw [grP_succ_lt e hl]; exact ⟨Nat.le_refl _, rfl⟩
    · rw [grP_succ_ge e hl]; exact ⟨Nat.le_succ_of_le ih.1, ih.2⟩
set_option maxHeartbeats 8000000 in
set_option maxRecDepth 20000 in
theorem rGreatestSag_any {b : Bm} {A : Option Addr} {n c : Nat} {S E : Int} {l : List Pt} (hb : BmOk b) (hl : WtOk b.s l S) (h0 : 1 ≤ E) (h1 : E ≤ 30000) (w : World) (h : PtRow w A n l) :
    Calls Try.prog 42 #[bmV b, .int .i64 E, buV A n c S] w fun e w' => e = .returned (.tuple #[.int .i64 ((gS b l S).1 : Nat), frV (gS b l S).2 (sgD b E)]) ∧ Below w.heap.size w w' := by
  obtain ⟨s, ww, t, en⟩ := b
  have hs0 := hb.s0; have hs1 := hb.s1
  simp only at hs0 hs1 hl
  obtain ⟨N, rfl⟩ : ∃ N : Nat, s = (N : Int) := ⟨s.toNat, by omega⟩
  unfold gS
  simp only [Int.toNat_natCast]
  have SG := Lib.hid (fun (k : Nat) (hk : k ≤ N) wx (hx : Below w.heap.size w wx) => rsag_any (b := ⟨N, ww, t, en⟩) (x := (k : Int)) (c := c) hb hl (by omega) (by simp only; omega) wx (h.below hx))
  have RS := Lib.hid (fun (k : Nat) (hk : k ≤ N) wx (hx : Below w.heap.size w wx) => rSag_any (b := ⟨N, ww, t, en⟩) (x := (k : Int)) (c := c) hb hl h0 h1 (by omega) (by simp only; omega) wx (h.below hx))
  have BD := Lib.hid (fun (k : Nat) (hk : k ≤ N) => sag_bd (b := ⟨N, ww, t, en⟩) (x := (k : Int)) hb hl (by omega) (by simp only; omega))
  have HN : Hid (N ≤ 2000 ∧ 1 ≤ N) := Lib.hid (by omega)
  clear h hb hl hs0 hs1 h0 h1
  unfold bmV buV at *
  simp only at SG RS ⊢
  obtain ⟨g, hg⟩ : ∃ g : Nat → Int, g = fun k : Nat => sag ⟨N, ww, t, en⟩ l S k := ⟨_, rfl⟩
  have HGE : Hid (∀ k : Nat, sag ⟨N, ww, t, en⟩ l S k = g k) := Lib.hid (fun k => by rw [hg])
  rw [← hg]
  clear hg
  simp only [HGE.out] at SG RS BD
  clear HGE
  generalize sgD ⟨N, ww, t, en⟩ E = dd at *
  unfold frV at *
  have GA := Lib.hid (grP_at (g := g))
  go_enter Try.func42, Try.ntmps42
  go_upto_region 1 with fail
  obtain ⟨w0, hw0⟩ : ∃ w0, (((w.alloc (.cells #[.int .i64 (N : Int), .int .i64 ww, .int .i64 t, .int .i64 en] 23)).alloc (.cells #[.slice A n c, .int .i64 S] 26)).alloc (.cells #[.int .i64 0, .int .i64 0] 30)) = w0 := ⟨_, rfl⟩
  have HB0 : Hid (Below w.heap.size w w0) := Lib.hid (by rw [← hw0]; exact ((((Below.refl _ _).alloc (Nat.le_refl _) _).alloc (by simp; try omega) _).alloc (by simp; try omega) _))
  have HC := Lib.hid (fun wx (hb : Below w0.heap.size w0 wx) => (show wx.cell? ⟨w.heap.size, 0, none⟩ = some (.int .i64 (N : Int)) ∧ wx.cell? ⟨w.heap.size, 1, none⟩ = some (.int .i64 ww) ∧ wx.cell? ⟨w.heap.size, 2, none⟩ = some (.int .i64 t) ∧ wx.cell? ⟨w.heap.size, 3, none⟩ = some (.int .i64 en) ∧ wx.cell? ⟨w.heap.size + 1, 0, none⟩ = some (.slice A n c) ∧ wx.cell? ⟨w.heap.size + 1, 1, none⟩ = some (.int .i64 S) ∧ wx.cell? ⟨w.heap.size + 2, 0, none⟩ = some (.int .i64 0) ∧ wx.cell? ⟨w.heap.size + 2, 1, none⟩ = some (.int .i64 0) ∧ wx.frozen? ⟨w.heap.size + 2, 0, none⟩ = false ∧ wx.frozen? ⟨w.heap.size + 2, 1, none⟩ = false from by
    subst hw0
    obtain ⟨k, kf⟩ := bcell hb
    exact ⟨(k _ _ (by simp; try omega)).trans (by simp [go_sem]), (k _ _ (by simp; try omega)).trans (by simp [go_sem]), (k _ _ (by simp; try omega)).trans (by simp [go_sem]), (k _ _ (by simp; try omega)).trans (by simp [go_sem]), (k _ _ (by simp; try omega)).trans (by simp [go_sem]), (k _ _ (by simp; try omega)).trans (by simp [go_sem]), (k _ _ (by simp; try omega)).trans (by simp [go_sem]), (k _ _ (by simp; try omega)).trans (by simp [go_sem]), (kf _ _ (by simp; try omega)).trans (by simp [go_sem]), (kf _ _ (by simp; try omega)).trans (by simp [go_sem])⟩))
  rw [hw0]
  clear hw0
  have HZ0 := Lib.hid (Below.refl w0.heap.size w0)
  go_wp2
  go_loopw [8, 9] (fun p i wr => ∃ (k pl : Nat) (m : Int), k ≤ N ∧ i = .int .i64 ((k + 1 : Nat) : Int) ∧ p = .int .i64 pl ∧ grP g (k + 1) = (pl, m) ∧ Below w0.heap.size w0 wr) (fun _ i _ => N + 1 - (intOf i).toNat)
  case atStart => exact ⟨0, 0, (grP g 1).2, Nat.zero_le _, rfl, rfl, Prod.ext (by have := (GA.out 0).1; show (grP g (0 + 1)).1 = 0; omega) rfl, HZ0.out⟩
  case round =>
    obtain ⟨k0, pl, m0, hk, rfl, rfl, hgr0, hbw⟩ := hrel
    have hgr : (grP g (k0 + 1)).1 = pl := by rw [hgr0]
    clear hgr0
    obtain ⟨k, hke⟩ : ∃ k, k0 + 1 = k := ⟨_, rfl⟩
    have HK := Lib.hid hke
    rw [hke] at hgr ⊢
    have HB := Lib.hid hbw
    have HBW := Lib.hid (HB0.out.trans (hbw.mono HB0.out.size))
    have hpl : pl < k := by have := (GA.out k0).1; rw [hke, hgr] at this; omega
    have hgv : (grP g k).2 = g pl := by have := (GA.out k0).2; rw [hke, hgr] at this; exact this
    have HGR := Lib.hid (show grP g k = (pl, g pl) from Prod.ext hgr hgv)
    clear hgr hgv
    obtain ⟨c0, c1, c2, c3, c4, c5, c6, c7, z2_0, z2_1⟩ := HC.out wr hbw
    clear hbw
    have hN := HN.out
    by_cases hlt : k ≤ N
    · have hki : (k : Int) ≤ (N : Int) := by omega
      have hkp : pl ≤ N := by omega
      have S1 := Lib.hid (SG.out k hlt)
      have S2 := Lib.hid (SG.out pl hkp)
      have b1 := BD.out k hlt
      have b2 := BD.out pl hkp
      obtain ⟨v1, hv1⟩ : ∃ v, g k = v := ⟨_, rfl⟩
      obtain ⟨v2, hv2⟩ : ∃ v, g pl = v := ⟨_, rfl⟩
      have HV1 := Lib.hid hv1
      have HV2 := Lib.hid hv2
      rw [hv1] at S1 b1
      rw [hv2] at S2 b2
      clear hv1 hv2
      have A1 := fun wx => Lib.hid (rabs_any (n := v1) (by omega) (by omega) wx)
      have A2 := fun wx => Lib.hid (rabs_any (n := v2) (by omega) (by omega) wx)
      by_cases hl : absI v2 < absI v1
      · have HS := Lib.hid (grP_succ_lt HGR.out (by rw [HV1.out, HV2.out]; exact hl))
        generalize absI v1 = a1 at *
        generalize absI v2 = a2 at *
        go_wp2
        have HCR := Lib.hid (fun wx (hy : Below wr.heap.size wr wx) => HC.out wx (HB.out.trans (hy.mono HB.out.size)))
        refine wp_region_rk [16, 17, 18, 19, 20, 21, 22, 23, 24, 25, 26] [rEq (.agg #[.int .i64 (N : Int), .int .i64 ww, .int .i64 t, .int .i64 en]), rEq (.agg #[.slice A n c, .int .i64 S]), rEq (.int .i64 (k : Int)), rEq (.int .i64 v1), rEq (.int .i64 a1), rEq (.agg #[.int .i64 (N : Int), .int .i64 ww, .int .i64 t, .int .i64 en]), rEq (.agg #[.slice A n c, .int .i64 S]), rEq (.int .i64 (pl : Int)), rEq (.int .i64 v2), rEq (.int .i64 a2), rEq (.bool true)] (by kernel_rfl) (by kernel_rfl) (by decide) rfl ⟨?_, ?_, ?_, ?_, ?_, ?_, ?_, ?_, ?_, ?_, ?_, trivial⟩ ?_
        · intro ac wx hf hb hd -- 0
          have f3 : ac.tmps[3]?.getD undef = .pointer (some ⟨w.heap.size, 0, none⟩) := by rw [← Array.getD_eq_getD_getElem?]; exact hf.same 3 (by decide)
          obtain ⟨c0, c1, c2, c3, c4, c5, c6, c7, z2_0, z2_1⟩ := HCR.out wx hb
          exact rstep_eq (by simp [execOp, Act.eval, f3, c0, c1, c2, c3, go_sem]) rfl
        · intro ac wx hf hb hd -- 1
          have f5 : ac.tmps[5]?.getD undef = .pointer (some ⟨w.heap.size + 1, 0, none⟩) := by rw [← Array.getD_eq_getD_getElem?]; exact hf.same 5 (by decide)
          obtain ⟨c0, c1, c2, c3, c4, c5, c6, c7, z2_0, z2_1⟩ := HCR.out wx hb
          exact rstep_eq (by simp [execOp, Act.eval, f5, c4, c5, go_sem]) rfl
        · intro ac wx hf hb hd -- 2
          have f9 : ac.tmps[9]?.getD undef = .int .i64 (k : Int) := by rw [← Array.getD_eq_getD_getElem?]; exact hf.same 9 (by decide)
          exact rstep_eq (by simp [execOp, Act.eval, f9, go_sem]) rfl
        · intro ac wx hf hb hd -- 3
          have d0 : ac.tmps[16]?.getD undef = .agg #[.int .i64 (N : Int), .int .i64 ww, .int .i64 t, .int .i64 en] := by rw [← Array.getD_eq_getD_getElem?]; exact hd 0 (by decide)
          have d1 : ac.tmps[17]?.getD undef = .agg #[.slice A n c, .int .i64 S] := by rw [← Array.getD_eq_getD_getElem?]; exact hd 1 (by decide)
          have d2 : ac.tmps[18]?.getD undef = .int .i64 (k : Int) := by rw [← Array.getD_eq_getD_getElem?]; exact hd 2 (by decide)
          refine rstep_call (f := 108) (args := #[.agg #[.int .i64 (N : Int), .int .i64 ww, .int .i64 t, .int .i64 en], .agg #[.slice A n c, .int .i64 S], .int .i64 (k : Int)]) (by simp [Act.eval, d0, d1, d2, go_sem]) ?_ rfl
          exact S1.out wx (HB0.out.trans ((HB.out.trans (hb.mono HB.out.size)).mono HB0.out.size))
        · intro ac wx hf hb hd -- 4
          have d3 : ac.tmps[19]?.getD undef = .int .i64 v1 := by rw [← Array.getD_eq_getD_getElem?]; exact hd 3 (by decide)
          refine rstep_call (f := 104) (args := #[.int .i64 v1]) (by simp [Act.eval, d3, go_sem]) ?_ rfl
          exact (A1 wx).out.mono fun e w' ⟨he, hw⟩ => ⟨he, hw ▸ Below.refl _ _⟩
        · intro ac wx hf hb hd -- 5
          have f3 : ac.tmps[3]?.getD undef = .pointer (some ⟨w.heap.size, 0, none⟩) := by rw [← Array.getD_eq_getD_getElem?]; exact hf.same 3 (by decide)
          obtain ⟨c0, c1, c2, c3, c4, c5, c6, c7, z2_0, z2_1⟩ := HCR.out wx hb
          exact rstep_eq (by simp [execOp, Act.eval, f3, c0, c1, c2, c3, go_sem]) rfl
        · intro ac wx hf hb hd -- 6
          have f5 : ac.tmps[5]?.getD undef = .pointer (some ⟨w.heap.size + 1, 0, none⟩) := by rw [← Array.getD_eq_getD_getElem?]; exact hf.same 5 (by decide)
          obtain ⟨c0, c1, c2, c3, c4, c5, c6, c7, z2_0, z2_1⟩ := HCR.out wx hb
          exact rstep_eq (by simp [execOp, Act.eval, f5, c4, c5, go_sem]) rfl
        · intro ac wx hf hb hd -- 7
          have f8 : ac.tmps[8]?.getD undef = .int .i64 (pl : Int) := by rw [← Array.getD_eq_getD_getElem?]; exact hf.same 8 (by decide)
          exact rstep_eq (by simp [execOp, Act.eval, f8, go_sem]) rfl
        · intro ac wx hf hb hd -- 8
          have d5 : ac.tmps[21]?.getD undef = .agg #[.int .i64 (N : Int), .int .i64 ww, .int .i64 t, .int .i64 en] := by rw [← Array.getD_eq_getD_getElem?]; exact hd 5 (by decide)
          have d6 : ac.tmps[22]?.getD undef = .agg #[.slice A n c, .int .i64 S] := by rw [← Array.getD_eq_getD_getElem?]; exact hd 6 (by decide)
          have d7 : ac.tmps[23]?.getD undef = .int .i64 (pl : Int) := by rw [← Array.getD_eq_getD_getElem?]; exact hd 7 (by decide)
          refine rstep_call (f := 108) (args := #[.agg #[.int .i64 (N : Int), .int .i64 ww, .int .i64 t, .int .i64 en], .agg #[.slice A n c, .int .i64 S], .int .i64 (pl : Int)]) (by simp [Act.eval, d5, d6, d7, go_sem]) ?_ rfl
          exact S2.out wx (HB0.out.trans ((HB.out.trans (hb.mono HB.out.size)).mono HB0.out.size))
        · intro ac wx hf hb hd -- 9
          have d8 : ac.tmps[24]?.getD undef = .int .i64 v2 := by rw [← Array.getD_eq_getD_getElem?]; exact hd 8 (by decide)
          refine rstep_call (f := 104) (args := #[.int .i64 v2]) (by simp [Act.eval, d8, go_sem]) ?_ rfl
          exact (A2 wx).out.mono fun e w' ⟨he, hw⟩ => ⟨he, hw ▸ Below.refl _ _⟩
        · intro ac wx hf hb hd -- 10
          have d4 : ac.tmps[20]?.getD undef = .int .i64 a1 := by rw [← Array.getD_eq_getD_getElem?]; exact hd 4 (by decide)
          have d9 : ac.tmps[25]?.getD undef = .int .i64 a2 := by rw [← Array.getD_eq_getD_getElem?]; exact hd 9 (by decide)
          exact rstep_eq (by simp [execOp, Act.eval, d4, d9, hl, go_sem]) rfl
        rintro ⟨⟨ll⟩, df⟩ wx hf hb hall
        have hdf : df = [] := hf.defers
        subst hdf
        have hsz : ll.length = 34 := hf.size
        obtain ⟨x0, ll0, rfl, hsz0⟩ := cons_of hsz
        obtain ⟨x1, ll1, rfl, hsz1⟩ := cons_of hsz0
        obtain ⟨x2, ll2, rfl, hsz2⟩ := cons_of hsz1
        obtain ⟨x3, ll3, rfl, hsz3⟩ := cons_of hsz2
        obtain ⟨x4, ll4, rfl, hsz4⟩ := cons_of hsz3
        obtain ⟨x5, ll5, rfl, hsz5⟩ := cons_of hsz4
        obtain ⟨x6, ll6, rfl, hsz6⟩ := cons_of hsz5
        obtain ⟨x7, ll7, rfl, hsz7⟩ := cons_of hsz6
        obtain ⟨x8, ll8, rfl, hsz8⟩ := cons_of hsz7
        obtain ⟨x9, ll9, rfl, hsz9⟩ := cons_of hsz8
        obtain ⟨x10, ll10, rfl, hsz10⟩ := cons_of hsz9
        obtain ⟨x11, ll11, rfl, hsz11⟩ := cons_of hsz10
        obtain ⟨x12, ll12, rfl, hsz12⟩ := cons_of hsz11
        obtain ⟨x13, ll13, rfl, hsz13⟩ := cons_of hsz12
        obtain ⟨x14, ll14, rfl, hsz14⟩ := cons_of hsz13
        obtain ⟨x15, ll15, rfl, hsz15⟩ := cons_of hsz14
        obtain ⟨x16, ll16, rfl, hsz16⟩ := cons_of hsz15
        obtain ⟨x17, ll17, rfl, hsz17⟩ := cons_of hsz16
        obtain ⟨x18, ll18, rfl, hsz18⟩ := cons_of hsz17
        obtain ⟨x19, ll19, rfl, hsz19⟩ := cons_of hsz18
        obtain ⟨x20, ll20, rfl, hsz20⟩ := cons_of hsz19
        obtain ⟨x21, ll21, rfl, hsz21⟩ := cons_of hsz20
        obtain ⟨x22, ll22, rfl, hsz22⟩ := cons_of hsz21
        obtain ⟨x23, ll23, rfl, hsz23⟩ := cons_of hsz22
        obtain ⟨x24, ll24, rfl, hsz24⟩ := cons_of hsz23
        obtain ⟨x25, ll25, rfl, hsz25⟩ := cons_of hsz24
        obtain ⟨x26, ll26, rfl, hsz26⟩ := cons_of hsz25
        obtain ⟨x27, ll27, rfl, hsz27⟩ := cons_of hsz26
        obtain ⟨x28, ll28, rfl, hsz28⟩ := cons_of hsz27
        obtain ⟨x29, ll29, rfl, hsz29⟩ := cons_of hsz28
        obtain ⟨x30, ll30, rfl, hsz30⟩ := cons_of hsz29
        obtain ⟨x31, ll31, rfl, hsz31⟩ := cons_of hsz30
        obtain ⟨x32, ll32, rfl, hsz32⟩ := cons_of hsz31
        obtain ⟨x33, ll33, rfl, hsz33⟩ := cons_of hsz32
        obtain rfl := List.eq_nil_of_length_eq_zero hsz33
        obtain rfl : x0 = _ := hf.same 0 (by decide)
        obtain rfl : x1 = .int .i64 E := hf.same 1 (by decide)
        obtain rfl : x2 = _ := hf.same 2 (by decide)
        obtain rfl : x3 = .pointer (some ⟨w.heap.size, 0, none⟩) := hf.same 3 (by decide)
        obtain rfl : x4 = _ := hf.same 4 (by decide)
        obtain rfl : x5 = .pointer (some ⟨w.heap.size + 1, 0, none⟩) := hf.same 5 (by decide)
        obtain rfl : x6 = _ := hf.same 6 (by decide)
        obtain rfl : x7 = .pointer (some ⟨w.heap.size + 2, 0, none⟩) := hf.same 7 (by decide)
        obtain rfl : x8 = .int .i64 (pl : Int) := hf.same 8 (by decide)
        obtain rfl : x9 = .int .i64 (k : Int) := hf.same 9 (by decide)
        obtain rfl : x10 = _ := hf.same 10 (by decide)
        obtain rfl : x11 = _ := hf.same 11 (by decide)
        obtain rfl : x12 = _ := hf.same 12 (by decide)
        obtain rfl : x13 = _ := hf.same 13 (by decide)
        obtain rfl : x14 = _ := hf.same 14 (by decide)
        obtain rfl : x15 = _ := hf.same 15 (by decide)
        obtain rfl : x16 = .agg #[.int .i64 (N : Int), .int .i64 ww, .int .i64 t, .int .i64 en] := hall 0 16 rfl
        obtain rfl : x17 = .agg #[.slice A n c, .int .i64 S] := hall 1 17 rfl
        obtain rfl : x18 = .int .i64 (k : Int) := hall 2 18 rfl
        obtain rfl : x19 = .int .i64 v1 := hall 3 19 rfl
        obtain rfl : x20 = .int .i64 a1 := hall 4 20 rfl
        obtain rfl : x21 = .agg #[.int .i64 (N : Int), .int .i64 ww, .int .i64 t, .int .i64 en] := hall 5 21 rfl
        obtain rfl : x22 = .agg #[.slice A n c, .int .i64 S] := hall 6 22 rfl
        obtain rfl : x23 = .int .i64 (pl : Int) := hall 7 23 rfl
        obtain rfl : x24 = .int .i64 v2 := hall 8 24 rfl
        obtain rfl : x25 = .int .i64 a2 := hall 9 25 rfl
        obtain rfl : x26 = .bool true := hall 10 26 rfl
        obtain rfl : x27 = _ := hf.same 27 (by decide)
        obtain rfl : x28 = _ := hf.same 28 (by decide)
        obtain rfl : x29 = _ := hf.same 29 (by decide)
        obtain rfl : x30 = _ := hf.same 30 (by decide)
        obtain rfl : x31 = _ := hf.same 31 (by decide)
        obtain rfl : x32 = _ := hf.same 32 (by decide)
        obtain rfl : x33 = _ := hf.same 33 (by decide)
        clear hall hf
        have HB1 := Lib.hid (HB.out.trans (hb.mono HB.out.size))
        clear hb
        go_wp2
        go_roundw
        case rel => exact ⟨k, hlt, rfl, k, rfl, ⟨_, HS.out⟩, HB1.out⟩
        case measure => simp [intOf]; omega
      · have HS := Lib.hid (grP_succ_ge HGR.out (by rw [HV1.out, HV2.out]; exact hl))
        generalize absI v1 = a1 at *
        generalize absI v2 = a2 at *
        go_wp2
        have HCR := Lib.hid (fun wx (hy : Below wr.heap.size wr wx) => HC.out wx (HB.out.trans (hy.mono HB.out.size)))
        refine wp_region_rk [16, 17, 18, 19, 20, 21, 22, 23, 24, 25, 26] [rEq (.agg #[.int .i64 (N : Int), .int .i64 ww, .int .i64 t, .int .i64 en]), rEq (.agg #[.slice A n c, .int .i64 S]), rEq (.int .i64 (k : Int)), rEq (.int .i64 v1), rEq (.int .i64 a1), rEq (.agg #[.int .i64 (N : Int), .int .i64 ww, .int .i64 t, .int .i64 en]), rEq (.agg #[.slice A n c, .int .i64 S]), rEq (.int .i64 (pl : Int)), rEq (.int .i64 v2), rEq (.int .i64 a2), rEq (.bool false)] (by kernel_rfl) (by kernel_rfl) (by decide) rfl ⟨?_, ?_, ?_, ?_, ?_, ?_, ?_, ?_, ?_, ?_, ?_, trivial⟩ ?_
        · intro ac wx hf hb hd -- 0
          have f3 : ac.tmps[3]?.getD undef = .pointer (some ⟨w.heap.size, 0, none⟩) := by rw [← Array.getD_eq_getD_getElem?]; exact hf.same 3 (by decide)
          obtain ⟨c0, c1, c2, c3, c4, c5, c6, c7, z2_0, z2_1⟩ := HCR.out wx hb
          exact rstep_eq (by simp [execOp, Act.eval, f3, c0, c1, c2, c3, go_sem]) rfl
        · intro ac wx hf hb hd -- 1
          have f5 : ac.tmps[5]?.getD undef = .pointer (some ⟨w.heap.size + 1, 0, none⟩) := by rw [← Array.getD_eq_getD_getElem?]; exact hf.same 5 (by decide)
          obtain ⟨c0, c1, c2, c3, c4, c5, c6, c7, z2_0, z2_1⟩ := HCR.out wx hb
          exact rstep_eq (by simp [execOp, Act.eval, f5, c4, c5, go_sem]) rfl
        · intro ac wx hf hb hd -- 2
          have f9 : ac.tmps[9]?.getD undef = .int .i64 (k : Int) := by rw [← Array.getD_eq_getD_getElem?]; exact hf.same 9 (by decide)
          exact rstep_eq (by simp [execOp, Act.eval, f9, go_sem]) rfl
        · intro ac wx hf hb hd -- 3
          have d0 : ac.tmps[16]?.getD undef = .agg #[.int .i64 (N : Int), .int .i64 ww, .int .i64 t, .int .i64 en] := by rw [← Array.getD_eq_getD_getElem?]; exact hd 0 (by decide)
          have d1 : ac.tmps[17]?.getD undef = .agg #[.slice A n c, .int .i64 S] := by rw [← Array.getD_eq_getD_getElem?]; exact hd 1 (by decide)
          have d2 : ac.tmps[18]?.getD undef = .int .i64 (k : Int) := by rw [← Array.getD_eq_getD_getElem?]; exact hd 2 (by decide)
          refine rstep_call (f := 108) (args := #[.agg #[.int .i64 (N : Int), .int .i64 ww, .int .i64 t, .int .i64 en], .agg #[.slice A n c, .int .i64 S], .int .i64 (k : Int)]) (by simp [Act.eval, d0, d1, d2, go_sem]) ?_ rfl
          exact S1.out wx (HB0.out.trans ((HB.out.trans (hb.mono HB.out.size)).mono HB0.out.size))
        · intro ac wx hf hb hd -- 4
          have d3 : ac.tmps[19]?.getD undef = .int .i64 v1 := by rw [← Array.getD_eq_getD_getElem?]; exact hd 3 (by decide)
          refine rstep_call (f := 104) (args := #[.int .i64 v1]) (by simp [Act.eval, d3, go_sem]) ?_ rfl
          exact (A1 wx).out.mono fun e w' ⟨he, hw⟩ => ⟨he, hw ▸ Below.refl _ _⟩
        · intro ac wx hf hb hd -- 5
          have f3 : ac.tmps[3]?.getD undef = .pointer (some ⟨w.heap.size, 0, none⟩) := by rw [← Array.getD_eq_getD_getElem?]; exact hf.same 3 (by decide)
          obtain ⟨c0, c1, c2, c3, c4, c5, c6, c7, z2_0, z2_1⟩ := HCR.out wx hb
          exact rstep_eq (by simp [execOp, Act.eval, f3, c0, c1, c2, c3, go_sem]) rfl
        · intro ac wx hf hb hd -- 6
          have f5 : ac.tmps[5]?.getD undef = .pointer (some ⟨w.heap.size + 1, 0, none⟩) := by rw [← Array.getD_eq_getD_getElem?]; exact hf.same 5 (by decide)
          obtain ⟨c0, c1, c2, c3, c4, c5, c6, c7, z2_0, z2_1⟩ := HCR.out wx hb
          exact rstep_eq (by simp [execOp, Act.eval, f5, c4, c5, go_sem]) rfl
        · intro ac wx hf hb hd -- 7
          have f8 : ac.tmps[8]?.getD undef = .int .i64 (pl : Int) := by rw [← Array.getD_eq_getD_getElem?]; exact hf.same 8 (by decide)
          exact rstep_eq (by simp [execOp, Act.eval, f8, go_sem]) rfl
        · intro ac wx hf hb hd -- 8
          have d5 : ac.tmps[21]?.getD undef = .agg #[.int .i64 (N : Int), .int .i64 ww, .int .i64 t, .int .i64 en] := by rw [← Array.getD_eq_getD_getElem?]; exact hd 5 (by decide)
          have d6 : ac.tmps[22]?.getD undef = .agg #[.slice A n c, .int .i64 S] := by rw [← Array.getD_eq_getD_getElem?]; exact hd 6 (by decide)
          have d7 : ac.tmps[23]?.getD undef = .int .i64 (pl : Int) := by rw [← Array.getD_eq_getD_getElem?]; exact hd 7 (by decide)
          refine rstep_call (f := 108) (args := #[.agg #[.int .i64 (N : Int), .int .i64 ww, .int .i64 t, .int .i64 en], .agg #[.slice A n c, .int .i64 S], .int .i64 (pl : Int)]) (by simp [Act.eval, d5, d6, d7, go_sem]) ?_ rfl
          exact S2.out wx (HB0.out.trans ((HB.out.trans (hb.mono HB.out.size)).mono HB0.out.size))
        · intro ac wx hf hb hd -- 9
          have d8 : ac.tmps[24]?.getD undef = .int .i64 v2 := by rw [← Array.getD_eq_getD_getElem?]; exact hd 8 (by decide)
          refine rstep_call (f := 104) (args := #[.int .i64 v2]) (by simp [Act.eval, d8, go_sem]) ?_ rfl
          exact (A2 wx).out.mono fun e w' ⟨he, hw⟩ => ⟨he, hw ▸ Below.refl _ _⟩
        · intro ac wx hf hb hd -- 10
          have d4 : ac.tmps[20]?.getD undef = .int .i64 a1 := by rw [← Array.getD_eq_getD_getElem?]; exact hd 4 (by decide)
          have d9 : ac.tmps[25]?.getD undef = .int .i64 a2 := by rw [← Array.getD_eq_getD_getElem?]; exact hd 9 (by decide)
          exact rstep_eq (by simp [execOp, Act.eval, d4, d9, hl, go_sem]) rfl
        rintro ⟨⟨ll⟩, df⟩ wx hf hb hall
        have hdf : df = [] := hf.defers
        subst hdf
        have hsz : ll.length = 34 := hf.size
        obtain ⟨x0, ll0, rfl, hsz0⟩ := cons_of hsz
        obtain ⟨x1, ll1, rfl, hsz1⟩ := cons_of hsz0
        obtain ⟨x2, ll2, rfl, hsz2⟩ := cons_of hsz1
        obtain ⟨x3, ll3, rfl, hsz3⟩ := cons_of hsz2
        obtain ⟨x4, ll4, rfl, hsz4⟩ := cons_of hsz3
        obtain ⟨x5, ll5, rfl, hsz5⟩ := cons_of hsz4
        obtain ⟨x6, ll6, rfl, hsz6⟩ := cons_of hsz5
        obtain ⟨x7, ll7, rfl, hsz7⟩ := cons_of hsz6
        obtain ⟨x8, ll8, rfl, hsz8⟩ := cons_of hsz7
        obtain ⟨x9, ll9, rfl, hsz9⟩ := cons_of hsz8
        obtain ⟨x10, ll10, rfl, hsz10⟩ := cons_of hsz9
        obtain ⟨x11, ll11, rfl, hsz11⟩ := cons_of hsz10
        obtain ⟨x12, ll12, rfl, hsz12⟩ := cons_of hsz11
        obtain ⟨x13, ll13, rfl, hsz13⟩ := cons_of hsz12
        obtain ⟨x14, ll14, rfl, hsz14⟩ := cons_of hsz13
        obtain ⟨x15, ll15, rfl, hsz15⟩ := cons_of hsz14
        obtain ⟨x16, ll16, rfl, hsz16⟩ := cons_of hsz15
        obtain ⟨x17, ll17, rfl, hsz17⟩ := cons_of hsz16
        obtain ⟨x18, ll18, rfl, hsz18⟩ := cons_of hsz17
        obtain ⟨x19, ll19, rfl, hsz19⟩ := cons_of hsz18
        obtain ⟨x20, ll20, rfl, hsz20⟩ := cons_of hsz19
        obtain ⟨x21, ll21, rfl, hsz21⟩ := cons_of hsz20
        obtain ⟨x22, ll22, rfl, hsz22⟩ := cons_of hsz21
        obtain ⟨x23, ll23, rfl, hsz23⟩ := cons_of hsz22
        obtain ⟨x24, ll24, rfl, hsz24⟩ := cons_of hsz23
        obtain ⟨x25, ll25, rfl, hsz25⟩ := cons_of hsz24
        obtain ⟨x26, ll26, rfl, hsz26⟩ := cons_of hsz25
        obtain ⟨x27, ll27, rfl, hsz27⟩ := cons_of hsz26
        obtain ⟨x28, ll28, rfl, hsz28⟩ := cons_of hsz27
        obtain ⟨x29, ll29, rfl, hsz29⟩ := cons_of hsz28
        obtain ⟨x30, ll30, rfl, hsz30⟩ := cons_of hsz29
        obtain ⟨x31, ll31, rfl, hsz31⟩ := cons_of hsz30
        obtain ⟨x32, ll32, rfl, hsz32⟩ := cons_of hsz31
        obtain ⟨x33, ll33, rfl, hsz33⟩ := cons_of hsz32
        obtain rfl := List.eq_nil_of_length_eq_zero hsz33
        obtain rfl : x0 = _ := hf.same 0 (by decide)
        obtain rfl : x1 = .int .i64 E := hf.same 1 (by decide)
        obtain rfl : x2 = _ := hf.same 2 (by decide)
        obtain rfl : x3 = .pointer (some ⟨w.heap.size, 0, none⟩) := hf.same 3 (by decide)
        obtain rfl : x4 = _ := hf.same 4 (by decide)
        obtain rfl : x5 = .pointer (some ⟨w.heap.size + 1, 0, none⟩) := hf.same 5 (by decide)
        obtain rfl : x6 = _ := hf.same 6 (by decide)
        obtain rfl : x7 = .pointer (some ⟨w.heap.size + 2, 0, none⟩) := hf.same 7 (by decide)
        obtain rfl : x8 = .int .i64 (pl : Int) := hf.same 8 (by decide)
        obtain rfl : x9 = .int .i64 (k : Int) := hf.same 9 (by decide)
        obtain rfl : x10 = _ := hf.same 10 (by decide)
        obtain rfl : x11 = _ := hf.same 11 (by decide)
        obtain rfl : x12 = _ := hf.same 12 (by decide)
        obtain rfl : x13 = _ := hf.same 13 (by decide)
        obtain rfl : x14 = _ := hf.same 14 (by decide)
        obtain rfl : x15 = _ := hf.same 15 (by decide)
        obtain rfl : x16 = .agg #[.int .i64 (N : Int), .int .i64 ww, .int .i64 t, .int .i64 en] := hall 0 16 rfl
        obtain rfl : x17 = .agg #[.slice A n c, .int .i64 S] := hall 1 17 rfl
        obtain rfl : x18 = .int .i64 (k : Int) := hall 2 18 rfl
        obtain rfl : x19 = .int .i64 v1 := hall 3 19 rfl
        obtain rfl : x20 = .int .i64 a1 := hall 4 20 rfl
        obtain rfl : x21 = .agg #[.int .i64 (N : Int), .int .i64 ww, .int .i64 t, .int .i64 en] := hall 5 21 rfl
        obtain rfl : x22 = .agg #[.slice A n c, .int .i64 S] := hall 6 22 rfl
        obtain rfl : x23 = .int .i64 (pl : Int) := hall 7 23 rfl
        obtain rfl : x24 = .int .i64 v2 := hall 8 24 rfl
        obtain rfl : x25 = .int .i64 a2 := hall 9 25 rfl
        obtain rfl : x26 = .bool false := hall 10 26 rfl
        obtain rfl : x27 = _ := hf.same 27 (by decide)
        obtain rfl : x28 = _ := hf.same 28 (by decide)
        obtain rfl : x29 = _ := hf.same 29 (by decide)
        obtain rfl : x30 = _ := hf.same 30 (by decide)
        obtain rfl : x31 = _ := hf.same 31 (by decide)
        obtain rfl : x32 = _ := hf.same 32 (by decide)
        obtain rfl : x33 = _ := hf.same 33 (by decide)
        clear hall hf
        have HB1 := Lib.hid (HB.out.trans (hb.mono HB.out.size))
        clear hb
        go_wp2
        go_roundw
        case rel => exact ⟨k, hlt, rfl, pl, rfl, ⟨_, HS.out⟩, HB1.out⟩
        case measure => simp [intOf]; omega
    · obtain rfl : k = N + 1 := by omega
      have hki : ¬ ((N + 1 : Nat) : Int) ≤ (N : Int) := by omega
      have RS1 := Lib.hid (RS.out pl (by omega))
      obtain ⟨nn, hnn⟩ : ∃ v, lowN (g pl) dd = v := ⟨_, rfl⟩
      obtain ⟨de, hde⟩ : ∃ v, lowD (g pl) dd = v := ⟨_, rfl⟩
      have HNN := Lib.hid hnn
      have HDE := Lib.hid hde
      rw [hnn, hde] at RS1
      clear hnn hde
      go_wp2_with (go_at_call 43; (refine Calls.mono (RS1.out _ HBW.out) ?_); rintro e w2 ⟨rfl, hb2⟩; have HB2 := Lib.hid (HB.out.trans (hb2.mono HB.out.size)); clear hb2; obtain ⟨d0, d1, d2, d3, d4, d5, d6, d7, y2_0, y2_1⟩ := HC.out w2 HB2.out)
      refine bodyPost_ret (v := .tuple #[.int .i64 (pl : Int), .agg #[.int .i64 nn, .int .i64 de]]) (by simp [results, Try.results42, go_sem, d6, d7]) rfl ⟨by rw [HGR.out]; simp only; rw [HNN.out, HDE.out], ?_⟩
      exact ((HB0.out.trans (HB2.out.mono HB0.out.size)).setCell (p := ⟨w.heap.size + 2, 0, none⟩) (by simp) _).setCell (p := ⟨w.heap.size + 2, 1, none⟩) (by simp) _
end Go.Proofs.Ytablphoicidlkaa
