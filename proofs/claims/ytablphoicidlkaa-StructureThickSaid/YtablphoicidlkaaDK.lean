/- The reference's comparison of fractions. -/
import Derived.BigQuiet
import Derived.BigRegion
import Derived.Test.YtablphoicidlkaaBA
import Derived.Test.YtablphoicidlkaaBB
namespace Go.Proofs.Ytablphoicidlkaa
open Go.RowKit

theorem mod_is {n d r : Int} (hd : 0 < d) (h : n.tmod d = r) : (r < 0 → n % d = r + d) ∧ (0 ≤ r → n % d = r) ∧ -d < r ∧ r < d := by
  have h1 := Int.mul_tdiv_add_tmod n d
  have h2 := Int.tmod_lt_of_pos n hd
  have h3 : -d < n.tmod d := Int.lt_tmod_of_pos n hd
  rw [h] at h1 h2 h3
  generalize n.tdiv d = q at h1
  refine ⟨fun hr => ?_, fun hr => ?_, h3, h2⟩
  · exact ((Int.ediv_emod_unique (q := q - 1) hd).2 ⟨by rw [Int.mul_sub]; omega, by omega, by omega⟩).2
  · exact ((Int.ediv_emod_unique (q := q) hd).2 ⟨by omega, by omega, by omega⟩).2
set_option maxHeartbeats 1000000 in
theorem mod_any {n d : Int} (hd : 0 < d) (hd' : d ≤ 9000000000000000000) (w : World) :
    Calls Try.prog 152 #[.int .i64 n, .int .i64 d] w fun e w' => e = .returned (.int .i64 (n % d)) ∧ w = w' := by
  obtain ⟨r, hr⟩ : ∃ r, n.tmod d = r := ⟨_, rfl⟩
  obtain ⟨m1, m2, m3, m4⟩ := mod_is hd hr
  have hne : (d == 0) = false := by simp; omega
  have hne2 : ¬ d = 0 := by omega
  have hwr : wrap64 r = r := w64 (by omega)
  by_cases h0 : r < 0
  · have HM := Lib.hid (m1 h0)
    have hw : wrap64 (r + d) = r + d := w64 (by omega)
    clear m1 m2
    go_enter Try.func152, Try.ntmps152
    go_wp2
    go_ret
    exact ⟨ret_int (by rw [HM.out]), rfl⟩
  · have HM := Lib.hid (m2 (by omega))
    clear m1 m2
    go_enter Try.func152, Try.ntmps152
    go_wp2
    go_ret
    exact ⟨ret_int (by rw [HM.out]), rfl⟩
set_option maxHeartbeats 1000000 in
theorem floor_any {n d : Int} (hd : 0 < d) (hb : n.natAbs + d.natAbs ≤ 9200000000000000000) (hd' : d ≤ 9000000000000000000) (w : World) :
    Calls Try.prog 114 #[.int .i64 n, .int .i64 d] w fun e w' => e = .returned (.int .i64 (n / d)) ∧ w = w' := by
  have MO := fun wx => Lib.hid (mod_any (n := n) hd hd' wx)
  have h1 := Int.emod_nonneg n (by omega : d ≠ 0)
  have h2 := Int.emod_lt_of_pos n hd
  have h3 := Int.mul_ediv_add_emod n d
  have h4 : n - n % d = d * (n / d) := by omega
  have h5 : (n - n % d).tdiv d = n / d := by rw [h4]; exact Int.mul_tdiv_cancel_left _ (by omega)
  generalize n % d = m at *
  have hw : wrap64 (n - m) = n - m := w64 (by omega)
  have h6 : (n / d).natAbs ≤ 9200000000000000000 := by
    have e1 := congrArg Int.natAbs h4
    rw [Int.natAbs_mul] at e1
    have e2 : 1 * (n / d).natAbs ≤ d.natAbs * (n / d).natAbs := Nat.mul_le_mul_right _ (by omega)
    omega
  have hw2 : wrap64 (n / d) = n / d := w64 (by omega)
  have HQ := Lib.hid h5
  generalize n / d = q at *
  have hne : (d == 0) = false := by simp; omega
  have hne2 : ¬ d = 0 := by omega
  clear h1 h2 h3 h4 h6 hd hb hd'
  go_enter Try.func114, Try.ntmps114
  go_wp2_with (go_at_call 152; (refine Calls.mono (MO _).out ?_); rintro e w1 ⟨rfl, rfl⟩)
  go_ret
  exact ⟨ret_int (by first | rfl | (rw [HQ.out]; done) | (rw [HQ.out]; exact hw2) | exact hw2), rfl⟩
end Go.Proofs.Ytablphoicidlkaa
