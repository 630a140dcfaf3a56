/- Walks over the fits: the library's binary search. -/
import Derived.Test.YtffmaoalnilkkaaFG
namespace Go.Proofs.Ytffmaoalnilkkaa
open Go.RowKit Go.Maps

/-- What a search hands back: the answer changes there. -/
def Found (N : Nat) (q : Nat → Bool) (r : Nat) : Prop := r ≤ N ∧ (r = 0 ∨ q (r - 1) = false) ∧ (r = N ∨ q r = true)
set_option maxHeartbeats 8000000 in
set_option maxRecDepth 20000 in
theorem search_any {N : Nat} (hN : N ≤ 1000000) {q : Nat → Bool} {a b c : Addr} (w : World)
    (hF : ∀ (wx : World) (m : Nat), m < N → Below w.heap.size w wx → Calls Try.prog 105 #[.int .i64 m, .pointer (some a), .pointer (some b), .pointer (some c)] wx fun e w' => e = .returned (.bool (q m)) ∧ Below wx.heap.size wx w') :
    Calls Try.prog 104 #[.int .i64 N, .func (.func 105) #[] #[.pointer (some a), .pointer (some b), .pointer (some c)]] w
      fun e w' => ∃ r, e = .returned (.int .i64 (r : Nat)) ∧ Found N q r ∧ Below w.heap.size w w' := by
  have HF := Lib.hid hF
  clear hF
  go_enter Try.func104, Try.ntmps104
  go_wp2
  go_loopw [5, 6] (fun i j wr => ∃ x y : Nat, x ≤ y ∧ y ≤ N ∧ i = .int .i64 x ∧ j = .int .i64 y ∧ (x = 0 ∨ q (x - 1) = false) ∧ (y = N ∨ q y = true) ∧ Below w.heap.size w wr) (fun i j _ => (intOf j).toNat - (intOf i).toNat)
  case atStart => exact ⟨0, N, Nat.zero_le _, Nat.le_refl _, rfl, rfl, .inl rfl, .inl rfl, Below.refl _ _⟩
  case round =>
    obtain ⟨x, y, hxy, hy, rfl, rfl, hq1, hq2, hbw⟩ := hrel
    have HB := Lib.hid hbw
    have H1 := Lib.hid hq1; have H2 := Lib.hid hq2
    clear hbw hq1 hq2
    by_cases hlt : x < y
    · obtain ⟨m, hm⟩ : ∃ m, (x + y) / 2 = m := ⟨_, rfl⟩
      have hc : ((m : Nat) : Int) = ((x : Int) + (y : Int)) / 2 := by omega
      have hm1 : x ≤ m := by omega
      have hm2 : m < y := by omega
      have HC := Lib.hid hc
      clear hm
      cases hq : q m
      · have HQ := Lib.hid hq
        have CF : Hid _ := Lib.hid (HF.out wr m (by omega) HB.out)
        rw [hc, hq] at CF
        clear hq hc
        go_wp2_with (go_at_call 105; (refine Calls.mono CF.out ?_); rintro e w1 ⟨rfl, hb1⟩)
        go_roundw
        case rel => exact ⟨m + 1, y, by omega, hy, by rw [← HC.out]; go_num, rfl, .inr (by simpa using HQ.out), H2.out, HB.out.trans (hb1.mono HB.out.size)⟩
        case measure => simp [intOf]; omega
      · have HQ := Lib.hid hq
        have CF : Hid _ := Lib.hid (HF.out wr m (by omega) HB.out)
        rw [hc, hq] at CF
        clear hq hc
        go_wp2_with (go_at_call 105; (refine Calls.mono CF.out ?_); rintro e w1 ⟨rfl, hb1⟩)
        go_roundw
        case rel => exact ⟨x, m, by omega, by omega, rfl, by rw [← HC.out], H1.out, .inr HQ.out, HB.out.trans (hb1.mono HB.out.size)⟩
        case measure => simp [intOf]; omega
    · have he : x = y := by omega
      subst he
      go_wp2
      go_ret
      exact ⟨x, rfl, ⟨hy, H1.out, H2.out⟩, HB.out⟩
end Go.Proofs.Ytffmaoalnilkkaa
