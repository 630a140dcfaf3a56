/- Walks over the timber seat: tables, the reference. -/
import Derived.Test.YtnjbhidncicfiaaT1
import Derived.Deep.RegionHeld3
import Derived.Deep.QuietTactic
import Derived.BigQuiet
namespace Go.Proofs.Ytnjbhidncicfiaa
open Go.RowKit

theorem below_drewN {B : Nat} {a w : World} (h : Below B a w) (n : Nat) : Below B a (w.drewN n) := ⟨h.os, h.tape, h.output, h.size, h.block⟩

set_option maxHeartbeats 2000000 in
theorem rcheckTable_any {A : Option Addr} {n cp : Nat} {ks : List Kn} {c : Int} (hc : tabCode ks = c) (w : World) (hr : KnRow w A n ks) (hn : n ≤ maxLen) :
    Calls Try.prog 61 #[.slice A n cp] w fun e w' => e = .returned (.int .i64 c) ∧ Below w.heap.size w w' := by
  obtain ⟨hl, hrow⟩ := hr
  have hn' : n ≤ 9223372036854775807 := hn
  by_cases h0 : n = 0
  · have HC : Hid (c = 12) := Lib.hid (by rw [← hc]; unfold tabCode; rw [decide_eq_true (by omega)]; rfl)
    clear hc hrow hl
    subst h0
    go_enter Try.func61, Try.ntmps61
    go_wp2
    go_ret
    exact ⟨ret_int HC.out.symm, Below.refl _ _⟩
  · by_cases h50 : 50 < n
    · have HC : Hid (c = 8) := Lib.hid (by rw [← hc]; unfold tabCode; rw [decide_eq_false (by omega), decide_eq_true (by omega)]; rfl)
      clear hc hrow hl
      go_enter Try.func61, Try.ntmps61
      go_wp2
      go_ret
      exact ⟨ret_int HC.out.symm, Below.refl _ _⟩
    · obtain ⟨blk, off, rfl, hblk, hx⟩ := hrow (by omega)
      have HX := Lib.hid hx
      have HC : Hid (tabFrom (lastAt ks 0) (ks.drop 0) = c) := Lib.hid (by rw [← hc]; unfold tabCode; rw [decide_eq_false (by omega), decide_eq_false (by omega)]; rfl)
      have hz : ((n : Int) == 0) = false := by rw [beq_eq_false_iff_ne]; omega
      have hz5 : decide (50 < (n : Int)) = false := decide_eq_false (by omega)
      clear hc hx hrow
      go_enter Try.func61, Try.ntmps61
      go_wp2
      go_loopw [3] (fun i wr => ∃ k : Nat, k ≤ n ∧ tabFrom (lastAt ks k) (ks.drop k) = c ∧ i = .int .i64 k ∧ Below w.heap.size w wr) (fun i _ => n - (intOf i).toNat)
      case atStart => exact ⟨0, Nat.zero_le _, HC.out, rfl, Below.refl _ _⟩
      case round =>
        obtain ⟨k, hk, ht, rfl, hbw⟩ := hrel
        have HT := Lib.hid ht
        have HB := Lib.hid hbw
        clear ht
        by_cases hlt : k < n
        · have hkl : k < ks.length := by omega
          obtain ⟨c1, c2⟩ := (HX.out k hkl).below hbw hblk
          have HS := Lib.hid (tab_step hkl)
          obtain ⟨a, ha⟩ : ∃ x, ks[k].1 = x := ⟨_, rfl⟩
          obtain ⟨v, hv⟩ : ∃ x, ks[k].2 = x := ⟨_, rfl⟩
          rw [ha] at c1 HS
          rw [hv] at c2 HS
          cases h1 : inB 0 1000 a
          · have X1 := Lib.hid h1
            have HV : Hid (c = 2) := Lib.hid (by rw [← HT.out, HS.out, h1]; rfl)
            clear h1 ha hv hbw
            go_wp2_with (go_at_call 39; (with_reducible refine (rwithin_any X1.out _).mono ?_); rintro e w1 ⟨rfl, rfl⟩)
            go_ret
            exact ⟨ret_int HV.out.symm, HB.out⟩
          · have X1 := Lib.hid h1
            cases h2 : inB 0 400 v
            · have X2 := Lib.hid h2
              have HV : Hid (c = 2) := Lib.hid (by rw [← HT.out, HS.out, h1, h2]; rfl)
              clear h1 h2 ha hv hbw
              go_wp2_with (first | (go_at_call 39; (with_reducible refine (rwithin_any X1.out _).mono ?_); rintro e w1 ⟨rfl, rfl⟩) | (go_at_call 41; (with_reducible refine (moisture_any X2.out _).mono ?_); rintro e w1 ⟨rfl, rfl⟩))
              go_ret
              exact ⟨ret_int HV.out.symm, HB.out⟩
            · have X2 := Lib.hid h2
              have ha0 := (inB_iff.1 h1).1
              have HS2 : Hid (c = bif decide (a ≤ lastAt ks k) then 9 else tabFrom (lastAt ks (k + 1)) (ks.drop (k + 1))) := Lib.hid (by rw [← HT.out, HS.out, h1, h2]; rfl)
              clear h1 h2
              by_cases hk0 : k = 0
              · have HV : Hid (tabFrom (lastAt ks (k + 1)) (ks.drop (k + 1)) = c) := Lib.hid (by rw [HS2.out, decide_eq_false (show ¬ a ≤ lastAt ks k by rw [hk0]; show ¬ a ≤ -1; omega)]; rfl)
                have hkz : decide (0 < k) = false := decide_eq_false (by omega)
                clear ha hv hbw hk0
                go_wp2_with (first | (go_at_call 39; (with_reducible refine (rwithin_any X1.out _).mono ?_); rintro e w1 ⟨rfl, rfl⟩) | (go_at_call 41; (with_reducible refine (moisture_any X2.out _).mono ?_); rintro e w1 ⟨rfl, rfl⟩))
                go_quiet (fail)
                go_wp2
                go_roundw
                case rel => exact ⟨k + 1, by omega, HV.out, by go_num, below_drewN HB.out _⟩
                case measure => simp [intOf]; omega
              · obtain ⟨j, hj⟩ : ∃ j, k = j + 1 := ⟨k - 1, by omega⟩
                have hjl : j < ks.length := by omega
                have cj := ((HX.out j hjl).below hbw hblk).1
                have hla : lastAt ks k = ks[j].1 := by rw [hj]; exact lastAt_succ hjl
                obtain ⟨b, hb⟩ : ∃ x, ks[j].1 = x := ⟨_, rfl⟩
                rw [hb] at cj hla
                rw [hla] at HS2
                have hkz : decide (0 < k) = true := decide_eq_true (by omega)
                have hkp : (0 : Int) < (k : Int) := by omega
                have hkj : (k : Int) - 1 = (j : Int) := by omega
                have hjn : (j : Int) < (n : Int) := by omega
                have hkn : (k : Int) < (n : Int) := by omega
                by_cases h3 : a ≤ b
                · have HV : Hid (c = 9) := Lib.hid (by rw [HS2.out, decide_eq_true h3]; rfl)
                  clear ha hv hbw hla hb hk0 hj hjl
                  go_wp2_with (first | (go_at_call 39; (with_reducible refine (rwithin_any X1.out _).mono ?_); rintro e w1 ⟨rfl, rfl⟩) | (go_at_call 41; (with_reducible refine (moisture_any X2.out _).mono ?_); rintro e w1 ⟨rfl, rfl⟩))
                  go_quiet (fail)
                  go_wp2
                  go_ret
                  exact ⟨ret_int HV.out.symm, below_drewN HB.out _⟩
                · have HV : Hid (tabFrom (lastAt ks (k + 1)) (ks.drop (k + 1)) = c) := Lib.hid (by rw [HS2.out, decide_eq_false h3]; rfl)
                  clear ha hv hbw hla hb hk0 hj hjl
                  go_wp2_with (first | (go_at_call 39; (with_reducible refine (rwithin_any X1.out _).mono ?_); rintro e w1 ⟨rfl, rfl⟩) | (go_at_call 41; (with_reducible refine (moisture_any X2.out _).mono ?_); rintro e w1 ⟨rfl, rfl⟩))
                  go_quiet (fail)
                  go_wp2
                  go_roundw
                  case rel => exact ⟨k + 1, by omega, HV.out, by go_num, below_drewN HB.out _⟩
                  case measure => simp [intOf]; omega
        · have hk' : k = n := by omega
          have HV : Hid (c = 0) := Lib.hid (by rw [← HT.out, tab_end (by omega)])
          subst hk'
          go_wp2
          go_ret
          exact ⟨ret_int HV.out.symm, HB.out⟩
end Go.Proofs.Ytnjbhidncicfiaa
