/- Heavier weights: the number on both sides. -/
import Derived.Test.YtageiimcmnebmaaDK
namespace Go.Proofs.Ytageiimcmnebmaa
open Go.RowKit

/-- A weight multiplied by thousandths, rounded away from 0. -/
def hvI (n p : Int) : Int := if n < 0 then -((-n * p + 999) / 1000) else (n * p + 999) / 1000
theorem hv_bd {n p : Int} (hn : n.natAbs ≤ 20000) (p0 : 0 ≤ p) (p1 : p ≤ 5000) : (n * p).natAbs ≤ 100000000 :=
  ev_bd (Ev.mul (Ev.of hn) (Ev.of (N := 5000) (by omega))) (by decide +kernel)
set_option maxHeartbeats 1000000 in
theorem roundedUp_any {a b : Int} (ha : 0 ≤ a) (ha' : a ≤ 1000000000000000000) (hb : 0 < b) (hb' : b ≤ 1000000000000000000) (w : World) :
    Calls Try.prog 136 #[.int .i64 a, .int .i64 b] w fun e w' => e = .returned (.int .i64 ((a + b - 1).tdiv b)) ∧ w = w' := by
  have q1 : wrap64 (a + b) = a + b := w64 (by omega)
  have q2 : wrap64 (a + b - 1) = a + b - 1 := w64 (by omega)
  have h3 : 0 ≤ (a + b - 1).tdiv b := Int.tdiv_nonneg (by omega) (by omega)
  have h4 : (a + b - 1).tdiv b ≤ a + b - 1 := Int.tdiv_le_self b (by omega)
  have q3 : wrap64 ((a + b - 1).tdiv b) = (a + b - 1).tdiv b := w64 (by omega)
  have z1 : (b == 0) = false := by simp; omega
  have z2 : ¬ b = 0 := by omega
  clear h3 h4 ha ha' hb hb'
  go_enter Try.func136, Try.ntmps136
  go_wp2
  go_ret
  exact ⟨ret_int (by first | rfl | exact q3), rfl⟩
set_option maxHeartbeats 1000000 in
theorem multiplied_any {n p : Int} (hn : n.natAbs ≤ 20000) (p0 : 0 ≤ p) (p1 : p ≤ 5000) (w : World) :
    Calls Try.prog 111 #[.int .i64 n, .int .i64 p] w fun e w' => e = .returned (.int .i64 (hvI n p)) ∧ w = w' := by
  have hb := hv_bd hn p0 p1
  have ha : absI n * p = absI (n * p) := by
    unfold absI
    rw [Int.natAbs_mul, Int.natCast_mul]
    congr 1
    omega
  have a0 : 0 ≤ absI (n * p) ∧ absI (n * p) ≤ 100000000 := by unfold absI; omega
  have AB := fun wx => Lib.hid (abs_any (n := n) (by omega) (by omega) wx)
  have RU := fun wx => Lib.hid (roundedUp_any (a := absI (n * p)) (b := 1000) (by omega) (by omega) (by omega) (by omega) wx)
  have q1 : wrap64 (absI n * p) = absI (n * p) := by rw [ha]; exact w64 (by omega)
  have h5 : (absI (n * p) + 1000 - 1).tdiv 1000 = (absI (n * p) + 1000 - 1) / 1000 := Int.tdiv_eq_ediv_of_nonneg (by omega)
  rw [h5] at RU
  by_cases h0 : n < 0
  · have e1 : absI (n * p) = -n * p := by
      have : n * p ≤ 0 := Int.mul_nonpos_of_nonpos_of_nonneg (by omega) p0
      unfold absI
      rw [Int.neg_mul]
      omega
    have HV : Hid (hvI n p = -((absI (n * p) + 1000 - 1) / 1000)) := Lib.hid (by unfold hvI; rw [if_pos h0, e1]; generalize -n * p = m; omega)
    have q2 : wrap64 (-((absI (n * p) + 1000 - 1) / 1000)) = -((absI (n * p) + 1000 - 1) / 1000) := w64 (by omega)
    clear h5 ha e1 hb hn
    generalize absI (n * p) = m at *
    generalize (m + 1000 - 1) / 1000 = k at *
    generalize absI n = an at *
    go_enter Try.func111, Try.ntmps111
    go_wp2_with (first | (go_at_call 144; (refine Calls.mono (AB _).out ?_); rintro e w1 ⟨rfl, rfl⟩) | (go_at_call 136; (refine Calls.mono (RU _).out ?_); rintro e w1 ⟨rfl, rfl⟩) | fail)
    go_ret
    exact ⟨ret_int (by rw [HV.out]; first | rfl | exact q2), rfl⟩
  · have e1 : absI (n * p) = n * p := by
      have : 0 ≤ n * p := Int.mul_nonneg (by omega) p0
      unfold absI
      omega
    have HV : Hid (hvI n p = (absI (n * p) + 1000 - 1) / 1000) := Lib.hid (by unfold hvI; rw [if_neg h0, e1]; generalize n * p = m; omega)
    clear h5 ha e1 hb hn
    generalize absI (n * p) = m at *
    generalize (m + 1000 - 1) / 1000 = k at *
    generalize absI n = an at *
    go_enter Try.func111, Try.ntmps111
    go_wp2_with (first | (go_at_call 144; (refine Calls.mono (AB _).out ?_); rintro e w1 ⟨rfl, rfl⟩) | (go_at_call 136; (refine Calls.mono (RU _).out ?_); rintro e w1 ⟨rfl, rfl⟩) | fail)
    go_ret
    exact ⟨ret_int (by rw [HV.out]), rfl⟩
set_option maxHeartbeats 1000000 in
theorem rceil_any {n d : Int} (hd : 0 < d) (hb : n.natAbs + d.natAbs ≤ 9200000000000000000) (hd' : d ≤ 9000000000000000000) (w : World) :
    Calls Try.prog 138 #[.int .i64 n, .int .i64 d] w fun e w' => e = .returned (.int .i64 (-((-n) / d))) ∧ w = w' := by
  have FL := fun wx => Lib.hid (floor_any (n := -n) hd (by omega) hd' wx)
  have h6 : ((-n) / d).natAbs ≤ 9200000000000000000 := by
    have h1 := Int.emod_nonneg (-n) (by omega : d ≠ 0)
    have h2 := Int.emod_lt_of_pos (-n) hd
    have h3 := Int.mul_ediv_add_emod (-n) d
    have e1 := congrArg Int.natAbs (show -n - (-n) % d = d * ((-n) / d) by omega)
    rw [Int.natAbs_mul] at e1
    have e2 : 1 * ((-n) / d).natAbs ≤ d.natAbs * ((-n) / d).natAbs := Nat.mul_le_mul_right _ (by omega)
    omega
  have q1 : wrap64 (-n) = -n := w64 (by omega)
  generalize (-n) / d = k at *
  have q2 : wrap64 (-k) = -k := w64 (by omega)
  clear hb hd hd' h6
  go_enter Try.func138, Try.ntmps138
  go_wp2_with (go_at_call 114; (refine Calls.mono (FL _).out ?_); rintro e w1 ⟨rfl, rfl⟩)
  go_ret
  exact ⟨ret_int (by first | rfl | exact q2), rfl⟩
set_option maxHeartbeats 1000000 in
theorem rheavy_any {n p : Int} (hn : n.natAbs ≤ 20000) (p0 : 0 ≤ p) (p1 : p ≤ 5000) (w : World) :
    Calls Try.prog 112 #[.int .i64 n, .int .i64 p] w fun e w' => e = .returned (.int .i64 (hvI n p)) ∧ w = w' := by
  have hb := hv_bd hn p0 p1
  have q1 : wrap64 (n * p) = n * p := w64 (by omega)
  have FL := fun wx => Lib.hid (floor_any (n := n * p) (d := 1000) (by omega) (by omega) (by omega) wx)
  have CE := fun wx => Lib.hid (rceil_any (n := n * p) (d := 1000) (by omega) (by omega) (by omega) wx)
  by_cases h0 : n < 0
  · have HV : Hid (hvI n p = n * p / 1000) := Lib.hid (by unfold hvI; rw [if_pos h0, Int.neg_mul]; omega)
    clear hb hn
    go_enter Try.func112, Try.ntmps112
    go_wp2_with (go_at_call 114; (refine Calls.mono (FL _).out ?_); rintro e w1 ⟨rfl, rfl⟩)
    go_ret
    exact ⟨ret_int (by rw [HV.out]), rfl⟩
  · have HV : Hid (hvI n p = -(-(n * p) / 1000)) := Lib.hid (by unfold hvI; rw [if_neg h0]; omega)
    clear hb hn
    go_enter Try.func112, Try.ntmps112
    go_wp2_with (go_at_call 138; (refine Calls.mono (CE _).out ?_); rintro e w1 ⟨rfl, rfl⟩)
    go_ret
    exact ⟨ret_int (by rw [HV.out]), rfl⟩
end Go.Proofs.Ytageiimcmnebmaa
