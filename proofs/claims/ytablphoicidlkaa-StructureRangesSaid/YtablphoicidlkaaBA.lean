/- The reference of beams: fractions in lowest terms. -/
import Derived.Test.YtablphoicidlkaaSX
namespace Go.Proofs.Ytablphoicidlkaa
open Go.RowKit

theorem rabs_any {n : Int} (hn : -9223372036854775807 ≤ n) (hn' : n ≤ 9223372036854775807) (w : World) :
    Calls Try.prog 104 #[.int .i64 n] w fun e w' => e = .returned (.int .i64 (absI n)) ∧ w = w' := by
  go_enter Try.func104, Try.ntmps104
  go_wp2
  all_goals
    go_ret
    exact ⟨ret_int (by first | (rw [absI_neg (by omega)]; done) | (rw [absI_neg (by omega)]; exact w64 (by omega)) | rw [absI_nn (by omega)]), rfl⟩
set_option maxHeartbeats 1000000 in
theorem rgcd_any {n d : Int} (hn : n.natAbs ≤ 9223372036854775807) (hd : d.natAbs ≤ 9223372036854775807) (w : World) :
    Calls Try.prog 139 #[.int .i64 n, .int .i64 d] w fun e w' => e = .returned (.int .i64 (lowG n d)) ∧ ∃ m, w' = w.drewN m := by
  have A1 := fun wx => Lib.hid (rabs_any (n := n) (by omega) (by omega) wx)
  have A2 := fun wx => Lib.hid (rabs_any (n := d) (by omega) (by omega) wx)
  have HG : Hid ((Nat.gcd n.natAbs d.natAbs : Nat) = lowG n d) := Lib.hid rfl
  unfold absI at A1 A2
  generalize n.natAbs = a at *
  generalize d.natAbs = b at *
  have HA := Lib.hid hn; have HB := Lib.hid hd
  clear hn hd
  go_enter Try.func139, Try.ntmps139
  go_wp2_with (first | (go_at_call 104; (with_reducible refine Calls.mono (A1 _).out ?_); rintro e w9 ⟨rfl, rfl⟩) | (go_at_call 104; (with_reducible refine Calls.mono (A2 _).out ?_); rintro e w9 ⟨rfl, rfl⟩))
  go_loopw [0, 1] (fun p q wr => ∃ x y n : Nat, x ≤ 9223372036854775807 ∧ y ≤ 9223372036854775807 ∧ Nat.gcd x y = Nat.gcd a b ∧ p = .int .i64 x ∧ q = .int .i64 y ∧ wr = w.drewN n) (fun _ q _ => (intOf q).toNat)
  case atStart => exact ⟨a, b, 0, HA.out, HB.out, rfl, rfl, rfl, rfl⟩
  case round =>
    obtain ⟨x, y, n, hx, hy, hg, rfl, rfl, rfl⟩ := hrel
    have HG2 := Lib.hid hg
    clear hg
    by_cases h0 : y = 0
    · subst h0
      have hz : ¬ (0 : Int) < ((0 : Nat) : Int) := by decide
      go_wp2
      go_ret
      exact ⟨ret_int (by rw [← HG.out, ← HG2.out]; simp), n, rfl⟩
    · have hpos : 0 < y := Nat.pos_of_ne_zero h0
      have hposi : (0 : Int) < (y : Int) := by omega
      have hne : ((y : Int) == 0) = false := by simp; omega
      have hne' : ((y : Int) != 0) = true := by simp; omega
      have ht : (x : Int).tmod (y : Int) = ((x % y : Nat) : Int) := rfl
      have HLT := Lib.hid (Nat.mod_lt x (Nat.pos_of_ne_zero h0))
      go_wp2
      go_region
      go_wp2
      go_roundw
      case rel => exact ⟨y, x % y, n + 1, hy, by have := HLT.out; omega, by rw [← HG2.out, Nat.gcd_comm y, Nat.gcd_comm x y]; exact (Nat.gcd_rec y x).symm, rfl, by simp, rfl⟩
      case measure => have := HLT.out; simp [intOf]; omega
set_option maxHeartbeats 1000000 in
theorem lowest_any {n d : Int} (hn : n.natAbs ≤ 9223372036854775807) (hd : 0 < d) (hd' : d ≤ 9223372036854775807) (w : World) :
    Calls Try.prog 89 #[.int .i64 n, .int .i64 d] w fun e w' => e = .returned (frV n d) ∧ Below w.heap.size w w' := by
  have G := fun wx => Lib.hid (rgcd_any (n := n) (d := d) hn (by omega) wx)
  have hg0 : 0 < lowG n d := lowG_pos hd
  have hgl : (lowG n d : Int) ≤ d := lowG_le hd
  have F1 : Hid (n.tdiv (lowG n d : Int) = lowN n d) := Lib.hid rfl
  have F2 : Hid (d.tdiv (lowG n d : Int) = lowD n d) := Lib.hid rfl
  have B1 := lowN_bd (n := n) hd
  have B2 := lowD_pos (n := n) hd
  have B3 := lowD_le (n := n) hd
  unfold frV
  generalize lowN n d = nn at *
  generalize lowD n d = dd at *
  generalize lowG n d = g at *
  have hgi : (0 : Int) < (g : Int) := by omega
  have hgn : ((g : Int) == 0) = false := by simp; omega
  have hne : ¬ g = 0 := by omega
  have hdn : ¬ d < 0 := by omega
  have w1 : IntKind.i64.wrap nn = nn := IntWalk.i64_in _ (by omega)
  have w2 : IntKind.i64.wrap dd = dd := IntWalk.i64_in _ (by omega)
  have hbe : Hid (Below w.heap.size w (w.alloc (.cells #[.int .i64 0, .int .i64 0] 30))) := Lib.hid ((Below.refl _ _).alloc (Nat.le_refl _) _)
  go_enter Try.func89, Try.ntmps89
  go_wp2_with (go_at_call 139; (refine Calls.mono (G _).out ?_); rintro e w3 ⟨rfl, m, rfl⟩)
  go_region
  go_wp2
  have e1 : n.tdiv (g : Int) = nn := F1.out
  have e2 : d / (g : Int) = dd := by rw [← F2.out]; exact (Int.tdiv_eq_ediv_of_nonneg (by omega)).symm
  refine bodyPost_ret (v := .agg #[.int .i64 (n.tdiv (g : Int)), .int .i64 (d / (g : Int))]) (by simp [results, Try.results89, go_sem]) rfl ⟨by rw [e1, e2], ?_⟩
  exact ((below_drewN hbe.out _).setCell (Nat.le_refl _) _).setCell (Nat.le_refl _) _
end Go.Proofs.Ytablphoicidlkaa
