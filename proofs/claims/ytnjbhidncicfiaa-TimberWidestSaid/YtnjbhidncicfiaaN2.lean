/- Walks over the timber seat: the reference's names. -/
import Derived.Test.YtnjbhidncicfiaaN1
namespace Go.Proofs.Ytnjbhidncicfiaa
open Go.RowKit

theorem letB_no {c : Int} (h : c < 65 ∨ (90 < c ∧ c < 97) ∨ 122 < c) : letB c = false := by unfold letB; simp; omega
theorem letB_yes {c : Int} (h : (65 ≤ c ∧ c ≤ 90) ∨ (97 ≤ c ∧ c ≤ 122)) : letB c = true := by unfold letB; simp; omega
theorem restB_no {c : Int} (h : c < 45 ∨ (46 ≤ c ∧ c ≤ 47) ∨ (58 ≤ c ∧ c ≤ 64) ∨ (91 ≤ c ∧ c ≤ 96) ∨ 123 ≤ c) : restB c = false := by unfold restB letB digB; simp; omega
theorem restB_yes {c : Int} (h : (45 ≤ c ∧ c ≤ 45) ∨ (48 ≤ c ∧ c ≤ 57) ∨ (65 ≤ c ∧ c ≤ 90) ∨ (97 ≤ c ∧ c ≤ 122)) : restB c = true := by unfold restB letB digB; simp; omega
set_option maxHeartbeats 2000000 in
theorem rname_any {s : ByteArray} {v : Bool} (hv : nameB s = v) (hs : s.size ≤ maxLen) (w : World) :
    Calls Try.prog 93 #[.string s] w fun e w' => e = .returned (.bool v) ∧ w = w' := by
  have V := Lib.hid hv
  clear hv
  have hs' : s.size ≤ 9223372036854775807 := hs
  go_enter Try.func93, Try.ntmps93
  go_wp2
  go_loop [3] (fun i => ∃ k : Nat, k ≤ s.size ∧ preB s k = true ∧ i = .int .i64 k) (fun i => s.size - (intOf i).toNat)
  case atStart => exact ⟨0, Nat.zero_le _, rfl, rfl⟩
  case round =>
    obtain ⟨k, hk, hp, rfl⟩ := hrel
    have HP := Lib.hid hp
    clear hp
    by_cases hlt : k < s.size
    · by_cases k0 : k = 0
      · subst k0
        have hc : (s[0].toNat : Int) ≤ 255 := by have := s[0].toNat_lt; omega
        have NX : Hid (letB (s[0].toNat : Int) = true → preB s 1 = true) := Lib.hid (fun h => by show (preB s 0 && okAt s 0) = true; rw [okAt_zero, byteAt_eq hlt, h]; rfl)
        have VB : Hid (letB (s[0].toNat : Int) = false → nameB s = false) := Lib.hid (fun h => name_bad (k := 0) (by rw [okAt_zero, byteAt_eq hlt, h]) hlt)
        rcases (show (0 ≤ (s[0].toNat : Int) ∧ (s[0].toNat : Int) ≤ 44) ∨ (45 ≤ (s[0].toNat : Int) ∧ (s[0].toNat : Int) ≤ 45) ∨ (46 ≤ (s[0].toNat : Int) ∧ (s[0].toNat : Int) ≤ 47) ∨ (48 ≤ (s[0].toNat : Int) ∧ (s[0].toNat : Int) ≤ 57) ∨ (58 ≤ (s[0].toNat : Int) ∧ (s[0].toNat : Int) ≤ 64) ∨ (65 ≤ (s[0].toNat : Int) ∧ (s[0].toNat : Int) ≤ 90) ∨ (91 ≤ (s[0].toNat : Int) ∧ (s[0].toNat : Int) ≤ 96) ∨ (97 ≤ (s[0].toNat : Int) ∧ (s[0].toNat : Int) ≤ 122) ∨ (123 ≤ (s[0].toNat : Int) ∧ (s[0].toNat : Int) ≤ 255) by omega) with ⟨h, h'⟩ | ⟨h, h'⟩ | ⟨h, h'⟩ | ⟨h, h'⟩ | ⟨h, h'⟩ | ⟨h, h'⟩ | ⟨h, h'⟩ | ⟨h, h'⟩ | ⟨h, h'⟩
        · have : decide (97 ≤ (s[0].toNat : Int)) = false := decide_eq_false (by omega)
          have : decide ((s[0].toNat : Int) ≤ 122) = true := decide_eq_true (by omega)
          have : decide (65 ≤ (s[0].toNat : Int)) = false := decide_eq_false (by omega)
          have : decide ((s[0].toNat : Int) ≤ 90) = true := decide_eq_true (by omega)
          have : decide ((s[0].toNat : Int) < 48) = true := decide_eq_true (by omega)
          have : decide (57 < (s[0].toNat : Int)) = false := decide_eq_false (by omega)
          have : ((s[0].toNat : Int) == 45) = false := by rw [beq_eq_false_iff_ne]; omega
          have : ((s[0].toNat : Int) != 45) = true := by rw [bne_iff_ne]; omega
          go_wp2
          go_ret; exact ⟨ret_bool ((VB.out (letB_no (by omega))).symm.trans V.out), rfl⟩
        · have : decide (97 ≤ (s[0].toNat : Int)) = false := decide_eq_false (by omega)
          have : decide ((s[0].toNat : Int) ≤ 122) = true := decide_eq_true (by omega)
          have : decide (65 ≤ (s[0].toNat : Int)) = false := decide_eq_false (by omega)
          have : decide ((s[0].toNat : Int) ≤ 90) = true := decide_eq_true (by omega)
          have : decide ((s[0].toNat : Int) < 48) = true := decide_eq_true (by omega)
          have : decide (57 < (s[0].toNat : Int)) = false := decide_eq_false (by omega)
          have : ((s[0].toNat : Int) == 45) = true := by rw [beq_iff_eq]; omega
          have : ((s[0].toNat : Int) != 45) = false := by rw [bne_eq_false_iff_eq]; omega
          go_wp2
          go_ret; exact ⟨ret_bool ((VB.out (letB_no (by omega))).symm.trans V.out), rfl⟩
        · have : decide (97 ≤ (s[0].toNat : Int)) = false := decide_eq_false (by omega)
          have : decide ((s[0].toNat : Int) ≤ 122) = true := decide_eq_true (by omega)
          have : decide (65 ≤ (s[0].toNat : Int)) = false := decide_eq_false (by omega)
          have : decide ((s[0].toNat : Int) ≤ 90) = true := decide_eq_true (by omega)
          have : decide ((s[0].toNat : Int) < 48) = true := decide_eq_true (by omega)
          have : decide (57 < (s[0].toNat : Int)) = false := decide_eq_false (by omega)
          have : ((s[0].toNat : Int) == 45) = false := by rw [beq_eq_false_iff_ne]; omega
          have : ((s[0].toNat : Int) != 45) = true := by rw [bne_iff_ne]; omega
          go_wp2
          go_ret; exact ⟨ret_bool ((VB.out (letB_no (by omega))).symm.trans V.out), rfl⟩
        · have : decide (97 ≤ (s[0].toNat : Int)) = false := decide_eq_false (by omega)
          have : decide ((s[0].toNat : Int) ≤ 122) = true := decide_eq_true (by omega)
          have : decide (65 ≤ (s[0].toNat : Int)) = false := decide_eq_false (by omega)
          have : decide ((s[0].toNat : Int) ≤ 90) = true := decide_eq_true (by omega)
          have : decide ((s[0].toNat : Int) < 48) = false := decide_eq_false (by omega)
          have : decide (57 < (s[0].toNat : Int)) = false := decide_eq_false (by omega)
          have : ((s[0].toNat : Int) == 45) = false := by rw [beq_eq_false_iff_ne]; omega
          have : ((s[0].toNat : Int) != 45) = true := by rw [bne_iff_ne]; omega
          go_wp2
          go_ret; exact ⟨ret_bool ((VB.out (letB_no (by omega))).symm.trans V.out), rfl⟩
        · have : decide (97 ≤ (s[0].toNat : Int)) = false := decide_eq_false (by omega)
          have : decide ((s[0].toNat : Int) ≤ 122) = true := decide_eq_true (by omega)
          have : decide (65 ≤ (s[0].toNat : Int)) = false := decide_eq_false (by omega)
          have : decide ((s[0].toNat : Int) ≤ 90) = true := decide_eq_true (by omega)
          have : decide ((s[0].toNat : Int) < 48) = false := decide_eq_false (by omega)
          have : decide (57 < (s[0].toNat : Int)) = true := decide_eq_true (by omega)
          have : ((s[0].toNat : Int) == 45) = false := by rw [beq_eq_false_iff_ne]; omega
          have : ((s[0].toNat : Int) != 45) = true := by rw [bne_iff_ne]; omega
          go_wp2
          go_ret; exact ⟨ret_bool ((VB.out (letB_no (by omega))).symm.trans V.out), rfl⟩
        · have : decide (97 ≤ (s[0].toNat : Int)) = false := decide_eq_false (by omega)
          have : decide ((s[0].toNat : Int) ≤ 122) = true := decide_eq_true (by omega)
          have : decide (65 ≤ (s[0].toNat : Int)) = true := decide_eq_true (by omega)
          have : decide ((s[0].toNat : Int) ≤ 90) = true := decide_eq_true (by omega)
          have : decide ((s[0].toNat : Int) < 48) = false := decide_eq_false (by omega)
          have : decide (57 < (s[0].toNat : Int)) = true := decide_eq_true (by omega)
          have : ((s[0].toNat : Int) == 45) = false := by rw [beq_eq_false_iff_ne]; omega
          have : ((s[0].toNat : Int) != 45) = true := by rw [bne_iff_ne]; omega
          go_wp2
          go_round
          case rel => exact ⟨1, by omega, NX.out (letB_yes (by omega)), by go_num⟩
          case measure => simp [intOf]; omega
        · have : decide (97 ≤ (s[0].toNat : Int)) = false := decide_eq_false (by omega)
          have : decide ((s[0].toNat : Int) ≤ 122) = true := decide_eq_true (by omega)
          have : decide (65 ≤ (s[0].toNat : Int)) = true := decide_eq_true (by omega)
          have : decide ((s[0].toNat : Int) ≤ 90) = false := decide_eq_false (by omega)
          have : decide ((s[0].toNat : Int) < 48) = false := decide_eq_false (by omega)
          have : decide (57 < (s[0].toNat : Int)) = true := decide_eq_true (by omega)
          have : ((s[0].toNat : Int) == 45) = false := by rw [beq_eq_false_iff_ne]; omega
          have : ((s[0].toNat : Int) != 45) = true := by rw [bne_iff_ne]; omega
          go_wp2
          go_ret; exact ⟨ret_bool ((VB.out (letB_no (by omega))).symm.trans V.out), rfl⟩
        · have : decide (97 ≤ (s[0].toNat : Int)) = true := decide_eq_true (by omega)
          have : decide ((s[0].toNat : Int) ≤ 122) = true := decide_eq_true (by omega)
          have : decide (65 ≤ (s[0].toNat : Int)) = true := decide_eq_true (by omega)
          have : decide ((s[0].toNat : Int) ≤ 90) = false := decide_eq_false (by omega)
          have : decide ((s[0].toNat : Int) < 48) = false := decide_eq_false (by omega)
          have : decide (57 < (s[0].toNat : Int)) = true := decide_eq_true (by omega)
          have : ((s[0].toNat : Int) == 45) = false := by rw [beq_eq_false_iff_ne]; omega
          have : ((s[0].toNat : Int) != 45) = true := by rw [bne_iff_ne]; omega
          go_wp2
          go_round
          case rel => exact ⟨1, by omega, NX.out (letB_yes (by omega)), by go_num⟩
          case measure => simp [intOf]; omega
        · have : decide (97 ≤ (s[0].toNat : Int)) = true := decide_eq_true (by omega)
          have : decide ((s[0].toNat : Int) ≤ 122) = false := decide_eq_false (by omega)
          have : decide (65 ≤ (s[0].toNat : Int)) = true := decide_eq_true (by omega)
          have : decide ((s[0].toNat : Int) ≤ 90) = false := decide_eq_false (by omega)
          have : decide ((s[0].toNat : Int) < 48) = false := decide_eq_false (by omega)
          have : decide (57 < (s[0].toNat : Int)) = true := decide_eq_true (by omega)
          have : ((s[0].toNat : Int) == 45) = false := by rw [beq_eq_false_iff_ne]; omega
          have : ((s[0].toNat : Int) != 45) = true := by rw [bne_iff_ne]; omega
          go_wp2
          go_ret; exact ⟨ret_bool ((VB.out (letB_no (by omega))).symm.trans V.out), rfl⟩
      · have hc : (s[k].toNat : Int) ≤ 255 := by have := s[k].toNat_lt; omega
        have NX : Hid (restB (s[k].toNat : Int) = true → preB s (k + 1) = true) := Lib.hid (fun h => by show (preB s k && okAt s k) = true; rw [HP.out, okAt_pos k0, byteAt_eq hlt, h]; rfl)
        have VB : Hid (restB (s[k].toNat : Int) = false → nameB s = false) := Lib.hid (fun h => name_bad (k := k) (by rw [okAt_pos k0, byteAt_eq hlt, h]) hlt)
        rcases (show (0 ≤ (s[k].toNat : Int) ∧ (s[k].toNat : Int) ≤ 44) ∨ (45 ≤ (s[k].toNat : Int) ∧ (s[k].toNat : Int) ≤ 45) ∨ (46 ≤ (s[k].toNat : Int) ∧ (s[k].toNat : Int) ≤ 47) ∨ (48 ≤ (s[k].toNat : Int) ∧ (s[k].toNat : Int) ≤ 57) ∨ (58 ≤ (s[k].toNat : Int) ∧ (s[k].toNat : Int) ≤ 64) ∨ (65 ≤ (s[k].toNat : Int) ∧ (s[k].toNat : Int) ≤ 90) ∨ (91 ≤ (s[k].toNat : Int) ∧ (s[k].toNat : Int) ≤ 96) ∨ (97 ≤ (s[k].toNat : Int) ∧ (s[k].toNat : Int) ≤ 122) ∨ (123 ≤ (s[k].toNat : Int) ∧ (s[k].toNat : Int) ≤ 255) by omega) with ⟨h, h'⟩ | ⟨h, h'⟩ | ⟨h, h'⟩ | ⟨h, h'⟩ | ⟨h, h'⟩ | ⟨h, h'⟩ | ⟨h, h'⟩ | ⟨h, h'⟩ | ⟨h, h'⟩
        · have : decide (97 ≤ (s[k].toNat : Int)) = false := decide_eq_false (by omega)
          have : decide ((s[k].toNat : Int) ≤ 122) = true := decide_eq_true (by omega)
          have : decide (65 ≤ (s[k].toNat : Int)) = false := decide_eq_false (by omega)
          have : decide ((s[k].toNat : Int) ≤ 90) = true := decide_eq_true (by omega)
          have : decide ((s[k].toNat : Int) < 48) = true := decide_eq_true (by omega)
          have : decide (57 < (s[k].toNat : Int)) = false := decide_eq_false (by omega)
          have : ((s[k].toNat : Int) == 45) = false := by rw [beq_eq_false_iff_ne]; omega
          have : ((s[k].toNat : Int) != 45) = true := by rw [bne_iff_ne]; omega
          go_wp2
          go_ret; exact ⟨ret_bool ((VB.out (restB_no (by omega))).symm.trans V.out), rfl⟩
        · have : decide (97 ≤ (s[k].toNat : Int)) = false := decide_eq_false (by omega)
          have : decide ((s[k].toNat : Int) ≤ 122) = true := decide_eq_true (by omega)
          have : decide (65 ≤ (s[k].toNat : Int)) = false := decide_eq_false (by omega)
          have : decide ((s[k].toNat : Int) ≤ 90) = true := decide_eq_true (by omega)
          have : decide ((s[k].toNat : Int) < 48) = true := decide_eq_true (by omega)
          have : decide (57 < (s[k].toNat : Int)) = false := decide_eq_false (by omega)
          have : ((s[k].toNat : Int) == 45) = true := by rw [beq_iff_eq]; omega
          have : ((s[k].toNat : Int) != 45) = false := by rw [bne_eq_false_iff_eq]; omega
          go_wp2
          go_round
          case rel => exact ⟨k + 1, by omega, NX.out (restB_yes (by omega)), by go_num⟩
          case measure => simp [intOf]; omega
        · have : decide (97 ≤ (s[k].toNat : Int)) = false := decide_eq_false (by omega)
          have : decide ((s[k].toNat : Int) ≤ 122) = true := decide_eq_true (by omega)
          have : decide (65 ≤ (s[k].toNat : Int)) = false := decide_eq_false (by omega)
          have : decide ((s[k].toNat : Int) ≤ 90) = true := decide_eq_true (by omega)
          have : decide ((s[k].toNat : Int) < 48) = true := decide_eq_true (by omega)
          have : decide (57 < (s[k].toNat : Int)) = false := decide_eq_false (by omega)
          have : ((s[k].toNat : Int) == 45) = false := by rw [beq_eq_false_iff_ne]; omega
          have : ((s[k].toNat : Int) != 45) = true := by rw [bne_iff_ne]; omega
          go_wp2
          go_ret; exact ⟨ret_bool ((VB.out (restB_no (by omega))).symm.trans V.out), rfl⟩
        · have : decide (97 ≤ (s[k].toNat : Int)) = false := decide_eq_false (by omega)
          have : decide ((s[k].toNat : Int) ≤ 122) = true := decide_eq_true (by omega)
          have : decide (65 ≤ (s[k].toNat : Int)) = false := decide_eq_false (by omega)
          have : decide ((s[k].toNat : Int) ≤ 90) = true := decide_eq_true (by omega)
          have : decide ((s[k].toNat : Int) < 48) = false := decide_eq_false (by omega)
          have : decide (57 < (s[k].toNat : Int)) = false := decide_eq_false (by omega)
          have : ((s[k].toNat : Int) == 45) = false := by rw [beq_eq_false_iff_ne]; omega
          have : ((s[k].toNat : Int) != 45) = true := by rw [bne_iff_ne]; omega
          go_wp2
          go_round
          case rel => exact ⟨k + 1, by omega, NX.out (restB_yes (by omega)), by go_num⟩
          case measure => simp [intOf]; omega
        · have : decide (97 ≤ (s[k].toNat : Int)) = false := decide_eq_false (by omega)
          have : decide ((s[k].toNat : Int) ≤ 122) = true := decide_eq_true (by omega)
          have : decide (65 ≤ (s[k].toNat : Int)) = false := decide_eq_false (by omega)
          have : decide ((s[k].toNat : Int) ≤ 90) = true := decide_eq_true (by omega)
          have : decide ((s[k].toNat : Int) < 48) = false := decide_eq_false (by omega)
          have : decide (57 < (s[k].toNat : Int)) = true := decide_eq_true (by omega)
          have : ((s[k].toNat : Int) == 45) = false := by rw [beq_eq_false_iff_ne]; omega
          have : ((s[k].toNat : Int) != 45) = true := by rw [bne_iff_ne]; omega
          go_wp2
          go_ret; exact ⟨ret_bool ((VB.out (restB_no (by omega))).symm.trans V.out), rfl⟩
        · have : decide (97 ≤ (s[k].toNat : Int)) = false := decide_eq_false (by omega)
          have : decide ((s[k].toNat : Int) ≤ 122) = true := decide_eq_true (by omega)
          have : decide (65 ≤ (s[k].toNat : Int)) = true := decide_eq_true (by omega)
          have : decide ((s[k].toNat : Int) ≤ 90) = true := decide_eq_true (by omega)
          have : decide ((s[k].toNat : Int) < 48) = false := decide_eq_false (by omega)
          have : decide (57 < (s[k].toNat : Int)) = true := decide_eq_true (by omega)
          have : ((s[k].toNat : Int) == 45) = false := by rw [beq_eq_false_iff_ne]; omega
          have : ((s[k].toNat : Int) != 45) = true := by rw [bne_iff_ne]; omega
          go_wp2
          go_round
          case rel => exact ⟨k + 1, by omega, NX.out (restB_yes (by omega)), by go_num⟩
          case measure => simp [intOf]; omega
        · have : decide (97 ≤ (s[k].toNat : Int)) = false := decide_eq_false (by omega)
          have : decide ((s[k].toNat : Int) ≤ 122) = true := decide_eq_true (by omega)
          have : decide (65 ≤ (s[k].toNat : Int)) = true := decide_eq_true (by omega)
          have : decide ((s[k].toNat : Int) ≤ 90) = false := decide_eq_false (by omega)
          have : decide ((s[k].toNat : Int) < 48) = false := decide_eq_false (by omega)
          have : decide (57 < (s[k].toNat : Int)) = true := decide_eq_true (by omega)
          have : ((s[k].toNat : Int) == 45) = false := by rw [beq_eq_false_iff_ne]; omega
          have : ((s[k].toNat : Int) != 45) = true := by rw [bne_iff_ne]; omega
          go_wp2
          go_ret; exact ⟨ret_bool ((VB.out (restB_no (by omega))).symm.trans V.out), rfl⟩
        · have : decide (97 ≤ (s[k].toNat : Int)) = true := decide_eq_true (by omega)
          have : decide ((s[k].toNat : Int) ≤ 122) = true := decide_eq_true (by omega)
          have : decide (65 ≤ (s[k].toNat : Int)) = true := decide_eq_true (by omega)
          have : decide ((s[k].toNat : Int) ≤ 90) = false := decide_eq_false (by omega)
          have : decide ((s[k].toNat : Int) < 48) = false := decide_eq_false (by omega)
          have : decide (57 < (s[k].toNat : Int)) = true := decide_eq_true (by omega)
          have : ((s[k].toNat : Int) == 45) = false := by rw [beq_eq_false_iff_ne]; omega
          have : ((s[k].toNat : Int) != 45) = true := by rw [bne_iff_ne]; omega
          go_wp2
          go_round
          case rel => exact ⟨k + 1, by omega, NX.out (restB_yes (by omega)), by go_num⟩
          case measure => simp [intOf]; omega
        · have : decide (97 ≤ (s[k].toNat : Int)) = true := decide_eq_true (by omega)
          have : decide ((s[k].toNat : Int) ≤ 122) = false := decide_eq_false (by omega)
          have : decide (65 ≤ (s[k].toNat : Int)) = true := decide_eq_true (by omega)
          have : decide ((s[k].toNat : Int) ≤ 90) = false := decide_eq_false (by omega)
          have : decide ((s[k].toNat : Int) < 48) = false := decide_eq_false (by omega)
          have : decide (57 < (s[k].toNat : Int)) = true := decide_eq_true (by omega)
          have : ((s[k].toNat : Int) == 45) = false := by rw [beq_eq_false_iff_ne]; omega
          have : ((s[k].toNat : Int) != 45) = true := by rw [bne_iff_ne]; omega
          go_wp2
          go_ret; exact ⟨ret_bool ((VB.out (restB_no (by omega))).symm.trans V.out), rfl⟩
    · have hk' : k = s.size := by omega
      subst hk'
      have VG : Hid (nameB s = (decide (1 ≤ s.size) && decide (s.size ≤ 12))) := Lib.hid (by unfold nameB; rw [HP.out, Bool.and_true])
      go_wp2
      all_goals
        go_ret
        refine ⟨ret_bool ?_, rfl⟩
        rw [← V.out, VG.out, Bool.eq_iff_iff]
        simp
        omega
end Go.Proofs.Ytnjbhidncicfiaa
