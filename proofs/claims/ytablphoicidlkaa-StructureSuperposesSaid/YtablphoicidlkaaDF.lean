/- Sums of fractions over one denominator. -/
import Derived.BigQuiet
import Derived.Test.YtablphoicidlkaaDA
import Derived.Test.YtablphoicidlkaaSB
import Derived.Test.YtablphoicidlkaaSX
namespace Go.Proofs.Ytablphoicidlkaa
open Go.RowKit

theorem tdiv_in {u d : Int} (hu : 0 ≤ u) (hu' : u ≤ 9223372036854775807) (hd : 1 ≤ d) : 0 ≤ u.tdiv d ∧ u.tdiv d ≤ 9223372036854775807 := by
  refine ⟨Int.tdiv_nonneg hu (by omega), ?_⟩
  have h1 := Int.tdiv_le_self d hu
  omega
set_option maxHeartbeats 4000000 in
set_option maxRecDepth 20000 in
theorem plus_any {an ad bn bd cn cd u x y z : Int} (ha : 1 ≤ ad) (hb : 1 ≤ bd) (hc : 1 ≤ cd) (hu : 0 ≤ u) (hu' : u ≤ 9223372036854775807)
    (ma : u.tmod ad = 0) (mb : u.tmod bd = 0) (mc : u.tmod cd = 0) (ea : an * u.tdiv ad = x) (eb : bn * u.tdiv bd = y) (ec : cn * u.tdiv cd = z) (hs : x + y = z) (w : World) :
    Calls Try.prog 88 #[.agg #[.int .i64 an, .int .i64 ad], .agg #[.int .i64 bn, .int .i64 bd], .agg #[.int .i64 cn, .int .i64 cd], .int .i64 u] w fun e w' => e = .returned (.bool true) ∧ Below w.heap.size w w' := by
  have ta := tdiv_in hu hu' ha
  have tb := tdiv_in hu hu' hb
  have tc := tdiv_in hu hu' hc
  have wa : wrap64 (u.tdiv ad) = u.tdiv ad := w64 (by omega)
  have wb : wrap64 (u.tdiv bd) = u.tdiv bd := w64 (by omega)
  have wc : wrap64 (u.tdiv cd) = u.tdiv cd := w64 (by omega)
  have HEQ : Hid (wrap64 (wrap64 (an * u.tdiv ad) + wrap64 (bn * u.tdiv bd)) = wrap64 (cn * u.tdiv cd)) := Lib.hid (by rw [wrap_add_l, wrap_add_r, ea, eb, ec, hs])
  clear ea eb ec hs hu hu' ta tb tc x y z
  have n1 : ¬ ad < 1 := by omega
  have n2 : ¬ bd < 1 := by omega
  have n3 : ¬ cd < 1 := by omega
  have f1 : decide (ad < 1) = false := decide_eq_false n1
  have f2 : decide (bd < 1) = false := decide_eq_false n2
  have f3 : decide (cd < 1) = false := decide_eq_false n3
  have z1 : (ad == 0) = false := by simp; omega
  have z2 : (bd == 0) = false := by simp; omega
  have z3 : (cd == 0) = false := by simp; omega
  have y1 : ¬ ad = 0 := by omega
  have y2 : ¬ bd = 0 := by omega
  have y3 : ¬ cd = 0 := by omega
  go_enter Try.func88, Try.ntmps88
  go_upto_region 3 with fail
  go_quiet (fail)
  go_wp2
  go_ret
  exact ⟨ret_bool (by rw [HEQ.out]; simp), below_drewN ((((Below.refl _ _).alloc (Nat.le_refl _) _).alloc (by simp) _).alloc (by simp; try omega) _) _⟩
end Go.Proofs.Ytablphoicidlkaa
