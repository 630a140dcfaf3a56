/- Walks over the timber seat: names. -/
import Derived.Test.YtnjbhidncicfiaaW2
import Derived.Test.YtnjbhidncicfiaaMN
namespace Go.Proofs.Ytnjbhidncicfiaa
open Go.RowKit

set_option maxHeartbeats 400000 in
theorem isLetter_any {c : Int} {v : Bool} (hv : letB c = v) (w : World) :
    Calls Try.prog 125 #[.int .u8 c] w fun e w' => e = .returned (.bool v) ∧ w = w' := by
  have V := Lib.hid hv
  clear hv
  go_enter Try.func125, Try.ntmps125
  go_wp2
  all_goals (go_ret; refine ⟨ret_bool ?_, rfl⟩; rw [← V.out]; unfold letB; rw [Bool.eq_iff_iff]; simp; omega)
set_option maxHeartbeats 400000 in
theorem isDigit_any {c : Int} {v : Bool} (hv : digB c = v) (w : World) :
    Calls Try.prog 126 #[.int .u8 c] w fun e w' => e = .returned (.bool v) ∧ w = w' := by
  have V := Lib.hid hv
  clear hv
  go_enter Try.func126, Try.ntmps126
  go_wp2
  all_goals (go_ret; refine ⟨ret_bool ?_, rfl⟩; rw [← V.out]; unfold digB; rw [Bool.eq_iff_iff]; simp; omega)
theorem isEmpty_of {s : ByteArray} (h : 1 ≤ s.size) : s.toList.isEmpty = false := by
  rw [ByteArray.toList_eq]
  have e : s.data.toList.length = s.size := Array.length_toList
  cases hl : s.data.toList with
  | nil => rw [hl] at e; simp at e; omega
  | cons a r => rfl
theorem okAt_split {s : ByteArray} {k : Nat} (h0 : okAt s 0 = true) : okAt s k = (letB (byteAt s k) || (digB (byteAt s k) || byteAt s k == 45)) := okAt_rest h0
set_option maxHeartbeats 2000000 in
theorem isName_any {s : ByteArray} {v : Bool} (hv : nameB s = v) (hs : s.size ≤ maxLen) (w : World) :
    Calls Try.prog 113 #[.string s] w fun e w' => e = .returned (.bool v) ∧ w = w' := by
  have V := Lib.hid hv
  clear hv
  by_cases h0 : s.size = 0
  · have V0 := Lib.hid (name_empty h0)
    have hse : s = ByteArray.empty := ByteArray.size_eq_zero_iff.1 h0
    subst hse
    go_enter Try.func113, Try.ntmps113
    go_wp2
    go_ret
    exact ⟨ret_bool (V0.out.symm.trans V.out), rfl⟩
  · have h1 : 1 ≤ s.size := by omega
    have hne := isEmpty_of h1
    by_cases hl : s.size ≤ 12
    · have b0 := byteAt_eq (show 0 < s.size by omega)
      cases hk : letB (byteAt s 0)
      · have VB := Lib.hid (name_bad (s := s) (k := 0) (by rw [okAt_zero]; exact hk) (by omega))
        have L := fun wx => Lib.hid (isLetter_any (w := wx) hk)
        rw [b0] at L
        clear hk b0
        go_enter Try.func113, Try.ntmps113
        go_wp2_with (go_at_call 125; (refine Calls.mono (L _).out ?_); rintro e w' ⟨rfl, rfl⟩)
        go_ret
        exact ⟨ret_bool (VB.out.symm.trans V.out), rfl⟩
      · have L := fun wx => Lib.hid (isLetter_any (w := wx) hk)
        have K0 := Lib.hid ((okAt_zero s).trans hk)
        rw [b0] at L
        clear hk b0
        go_enter Try.func113, Try.ntmps113
        go_wp2_with (go_at_call 125; (refine Calls.mono (L _).out ?_); rintro e w' ⟨rfl, rfl⟩)
        go_loop [3, 19] (fun _ i => ∃ k : Nat, k ≤ s.size ∧ preB s k = true ∧ i = .int .i64 k) (fun _ i => s.size - (intOf i).toNat)
        case atStart => exact ⟨0, Nat.zero_le _, rfl, rfl⟩
        case round =>
          obtain ⟨k, hk, hp, rfl⟩ := hrel
          have HP := Lib.hid hp
          clear hp
          by_cases hlt : k < s.size
          · have bk := byteAt_eq hlt
            have OK := okAt_split (k := k) K0.out
            cases h2 : letB (byteAt s k)
            · cases h3 : digB (byteAt s k)
              · cases h4 : byteAt s k == 45
                · have VB := Lib.hid (name_bad (s := s) (k := k) (by rw [OK, h2, h3, h4]; rfl) hlt)
                  have L2 := fun wx => Lib.hid (isLetter_any (w := wx) h2)
                  have L3 := fun wx => Lib.hid (isDigit_any (w := wx) h3)
                  have h4' : ((s[k].toNat : Int) == 45) = false := by rw [← bk]; exact h4
                  rw [bk] at L2 L3
                  clear h2 h3 h4 bk OK L
                  go_wp2_with (first | (go_at_call 125; (refine Calls.mono (L2 _).out ?_); rintro e w' ⟨rfl, rfl⟩) | (go_at_call 126; (refine Calls.mono (L3 _).out ?_); rintro e w' ⟨rfl, rfl⟩))
                  go_ret
                  exact ⟨ret_bool (VB.out.symm.trans V.out), rfl⟩
                · have NX := Lib.hid (show preB s (k + 1) = true by show (preB s k && okAt s k) = true; rw [HP.out, OK, h2, h3, h4]; rfl)
                  have L2 := fun wx => Lib.hid (isLetter_any (w := wx) h2)
                  have L3 := fun wx => Lib.hid (isDigit_any (w := wx) h3)
                  have h4' : ((s[k].toNat : Int) == 45) = true := by rw [← bk]; exact h4
                  rw [bk] at L2 L3
                  clear h2 h3 h4 bk OK L
                  go_wp2_with (first | (go_at_call 125; (refine Calls.mono (L2 _).out ?_); rintro e w' ⟨rfl, rfl⟩) | (go_at_call 126; (refine Calls.mono (L3 _).out ?_); rintro e w' ⟨rfl, rfl⟩))
                  go_round
                  case rel => exact ⟨k + 1, by omega, NX.out, by go_num⟩
                  case measure => simp [intOf]; omega
              · have NX := Lib.hid (show preB s (k + 1) = true by show (preB s k && okAt s k) = true; rw [HP.out, OK, h2, h3]; rfl)
                have L2 := fun wx => Lib.hid (isLetter_any (w := wx) h2)
                have L3 := fun wx => Lib.hid (isDigit_any (w := wx) h3)
                rw [bk] at L2 L3
                clear h2 h3 bk OK L
                go_wp2_with (first | (go_at_call 125; (refine Calls.mono (L2 _).out ?_); rintro e w' ⟨rfl, rfl⟩) | (go_at_call 126; (refine Calls.mono (L3 _).out ?_); rintro e w' ⟨rfl, rfl⟩))
                go_round
                case rel => exact ⟨k + 1, by omega, NX.out, by go_num⟩
                case measure => simp [intOf]; omega
            · have NX := Lib.hid (show preB s (k + 1) = true by show (preB s k && okAt s k) = true; rw [HP.out, OK, h2]; rfl)
              have L2 := fun wx => Lib.hid (isLetter_any (w := wx) h2)
              rw [bk] at L2
              clear h2 bk OK L
              go_wp2_with (go_at_call 125; (refine Calls.mono (L2 _).out ?_); rintro e w' ⟨rfl, rfl⟩)
              go_round
              case rel => exact ⟨k + 1, by omega, NX.out, by go_num⟩
              case measure => simp [intOf]; omega
          · have VG := Lib.hid (name_good h1 hl (by have := HP.out; rwa [show k = s.size by omega] at this))
            go_wp2
            go_ret
            exact ⟨ret_bool (VG.out.symm.trans V.out), rfl⟩
    · have VL := Lib.hid (name_long (s := s) (by omega))
      go_enter Try.func113, Try.ntmps113
      go_wp2
      go_ret
      exact ⟨ret_bool (VL.out.symm.trans V.out), rfl⟩
end Go.Proofs.Ytnjbhidncicfiaa
