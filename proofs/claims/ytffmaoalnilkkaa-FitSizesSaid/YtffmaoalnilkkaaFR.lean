/- Walks over the fits: names. -/
import Derived.Test.YtffmaoalnilkkaaFB
namespace Go.Proofs.Ytffmaoalnilkkaa
open Go.RowKit

theorem getD_at {α : Type} {l : List α} {k : Nat} {d : α} (h : k < l.length) : l.getD k d = l[k] := by
  rw [List.getD_eq_getElem?_getD, List.getElem?_eq_getElem h]; rfl
def letB (c : Int) : Bool := (decide (65 ≤ c) && decide (c ≤ 90)) || (decide (97 ≤ c) && decide (c ≤ 122))
def digB (c : Int) : Bool := decide (48 ≤ c) && decide (c ≤ 57)
def byteAt (s : ByteArray) (k : Nat) : Int := if h : k < s.size then ((s[k]'h).toNat : Int) else 0
theorem byteAt_eq {s : ByteArray} {k : Nat} (h : k < s.size) : byteAt s k = ((s[k]'h).toNat : Int) := dif_pos h
theorem byteAt_bd (s : ByteArray) (k : Nat) : 0 ≤ byteAt s k ∧ byteAt s k ≤ 255 := by
  unfold byteAt
  split
  · have := (s[k]).toNat_lt; omega
  · omega
/-- A byte behind the first one. -/
def restB (c : Int) : Bool := letB c || (digB c || c == 45)
def okAt (s : ByteArray) (k : Nat) : Bool := letB (byteAt s k) || (k != 0 && (digB (byteAt s k) || byteAt s k == 45))
def preB (s : ByteArray) : Nat → Bool
  | 0 => true
  | k + 1 => preB s k && okAt s k
def nameB (s : ByteArray) : Bool := decide (1 ≤ s.size) && (decide (s.size ≤ 12) && preB s s.size)
theorem pre_false {s : ByteArray} {k : Nat} (h : okAt s k = false) : ∀ n, k < n → preB s n = false
  | 0, hn => absurd hn (by omega)
  | n + 1, hn => by
    show (preB s n && okAt s n) = false
    by_cases e : k = n
    · subst e; rw [h, Bool.and_false]
    · rw [pre_false h n (by omega), Bool.false_and]
theorem okAt_zero (s : ByteArray) : okAt s 0 = letB (byteAt s 0) := by unfold okAt; simp
theorem okAt_pos {s : ByteArray} {k : Nat} (h : k ≠ 0) : okAt s k = restB (byteAt s k) := by
  have e : (k != 0) = true := bne_iff_ne.2 h
  unfold okAt restB; rw [e, Bool.true_and]
theorem okAt_rest {s : ByteArray} {k : Nat} (h0 : okAt s 0 = true) : okAt s k = restB (byteAt s k) := by
  by_cases h : k = 0
  · subst h; rw [h0]; rw [okAt_zero] at h0; unfold restB; rw [h0]; rfl
  · exact okAt_pos h
theorem name_empty {s : ByteArray} (h : s.size = 0) : nameB s = false := by unfold nameB; simp [h]
theorem name_long {s : ByteArray} (h : 12 < s.size) : nameB s = false := by unfold nameB; simp; omega
theorem name_bad {s : ByteArray} {k : Nat} (h : okAt s k = false) (hk : k < s.size) : nameB s = false := by unfold nameB; rw [pre_false h _ hk]; simp
theorem name_good {s : ByteArray} (h1 : 1 ≤ s.size) (h2 : s.size ≤ 12) (h : preB s s.size = true) : nameB s = true := by unfold nameB; simp [h1, h2, h]
set_option maxHeartbeats 400000 in
theorem isLetter_any {c : Int} {v : Bool} (hv : letB c = v) (w : World) :
    Calls Try.prog 76 #[.int .u8 c] w fun e w' => e = .returned (.bool v) ∧ w = w' := by
  have V := Lib.hid hv
  clear hv
  go_enter Try.func76, Try.ntmps76
  go_wp2
  all_goals (go_ret; refine ⟨ret_bool ?_, rfl⟩; rw [← V.out]; unfold letB; rw [Bool.eq_iff_iff]; simp; omega)
theorem isEmpty_of {s : ByteArray} (h : 1 ≤ s.size) : s.toList.isEmpty = false := by
  rw [ByteArray.toList_eq]
  have e : s.data.toList.length = s.size := Array.length_toList
  cases hl : s.data.toList with
  | nil => rw [hl] at e; simp at e; omega
  | cons a r => rfl
theorem okAt_split {s : ByteArray} {k : Nat} (h0 : okAt s 0 = true) : okAt s k = (letB (byteAt s k) || (digB (byteAt s k) || byteAt s k == 45)) := okAt_rest h0
theorem letB_no {c : Int} (h : c < 65 ∨ (90 < c ∧ c < 97) ∨ 122 < c) : letB c = false := by unfold letB; simp; omega
theorem letB_yes {c : Int} (h : (65 ≤ c ∧ c ≤ 90) ∨ (97 ≤ c ∧ c ≤ 122)) : letB c = true := by unfold letB; simp; omega
theorem restB_no {c : Int} (h : c < 45 ∨ (46 ≤ c ∧ c ≤ 47) ∨ (58 ≤ c ∧ c ≤ 64) ∨ (91 ≤ c ∧ c ≤ 96) ∨ 123 ≤ c) : restB c = false := by unfold restB letB digB; simp; omega
theorem restB_yes {c : Int} (h : (45 ≤ c ∧ c ≤ 45) ∨ (48 ≤ c ∧ c ≤ 57) ∨ (65 ≤ c ∧ c ≤ 90) ∨ (97 ≤ c ∧ c ≤ 122)) : restB c = true := by unfold restB letB digB; simp; omega

set_option maxHeartbeats 4000000 in
theorem isName_any {s : ByteArray} {v : Bool} (hv : nameB s = v) (hs : s.size ≤ maxLen) (w : World) :
    Calls Try.prog 52 #[.string s] w fun e w' => e = .returned (.bool v) ∧ w = w' := by
  have V := Lib.hid hv
  clear hv
  by_cases h0 : s.size = 0
  · have V0 := Lib.hid (name_empty h0)
    have hse : s = ByteArray.empty := ByteArray.size_eq_zero_iff.1 h0
    subst hse
    go_enter Try.func52, Try.ntmps52
    go_wp2
    go_ret
    exact ⟨ret_bool (V0.out.symm.trans V.out), rfl⟩
  · have h1 : 1 ≤ s.size := by omega
    have hne := isEmpty_of h1
    by_cases hl : s.size ≤ 12
    · have b0 := byteAt_eq (show 0 < s.size by omega)
      cases hk : letB (byteAt s 0)
      · have VB := Lib.hid (name_bad (s := s) (k := 0) (by rw [okAt_zero]; exact hk) (by omega))
        have L := fun wx => Lib.hid (isLetter_any (w := wx) hk)
        rw [b0] at L
        clear hk b0
        go_enter Try.func52, Try.ntmps52
        go_wp2_with (go_at_call 76; (refine Calls.mono (L _).out ?_); rintro e w' ⟨rfl, rfl⟩)
        go_ret
        exact ⟨ret_bool (VB.out.symm.trans V.out), rfl⟩
      · have L := fun wx => Lib.hid (isLetter_any (w := wx) hk)
        have K0 := Lib.hid ((okAt_zero s).trans hk)
        rw [b0] at L
        clear hk b0
        go_enter Try.func52, Try.ntmps52
        go_wp2_with (go_at_call 76; (refine Calls.mono (L _).out ?_); rintro e w' ⟨rfl, rfl⟩)
        go_loop [3, 19] (fun _ i => ∃ k : Nat, k ≤ s.size ∧ preB s k = true ∧ i = .int .i64 k) (fun _ i => s.size - (intOf i).toNat)
        case atStart => exact ⟨0, Nat.zero_le _, rfl, rfl⟩
        case round =>
          obtain ⟨k, hk, hp, rfl⟩ := hrel
          have HP := Lib.hid hp
          clear hp L
          by_cases hlt : k < s.size
          · have bk := byteAt_eq hlt
            have OK := okAt_rest (k := k) K0.out
            have hc : (s[k].toNat : Int) ≤ 255 := by have := s[k].toNat_lt; omega
            have NXT : Hid (restB (s[k].toNat : Int) = true → preB s (k + 1) = true) := Lib.hid (fun h => by show (preB s k && okAt s k) = true; rw [HP.out, OK, bk, h]; rfl)
            have BAD : Hid (restB (s[k].toNat : Int) = false → nameB s = false) := Lib.hid (fun h => name_bad (k := k) (by rw [OK, bk, h]) hlt)
            cases h2 : letB (s[k].toNat : Int)
            · have L2 := fun wx => Lib.hid (isLetter_any (w := wx) h2)
              have hnl : ¬ (65 ≤ (s[k].toNat : Int) ∧ (s[k].toNat : Int) ≤ 90) ∧ ¬ (97 ≤ (s[k].toNat : Int) ∧ (s[k].toNat : Int) ≤ 122) := by unfold letB at h2; simp at h2; omega
              clear h2 OK bk
              rcases (show (0 ≤ (s[k].toNat : Int) ∧ (s[k].toNat : Int) ≤ 44) ∨ (45 ≤ (s[k].toNat : Int) ∧ (s[k].toNat : Int) ≤ 45) ∨ (46 ≤ (s[k].toNat : Int) ∧ (s[k].toNat : Int) ≤ 47) ∨ (48 ≤ (s[k].toNat : Int) ∧ (s[k].toNat : Int) ≤ 57) ∨ (58 ≤ (s[k].toNat : Int) ∧ (s[k].toNat : Int) ≤ 64) ∨ (91 ≤ (s[k].toNat : Int) ∧ (s[k].toNat : Int) ≤ 96) ∨ (123 ≤ (s[k].toNat : Int) ∧ (s[k].toNat : Int) ≤ 255) by omega) with ⟨h, h'⟩ | ⟨h, h'⟩ | ⟨h, h'⟩ | ⟨h, h'⟩ | ⟨h, h'⟩ | ⟨h, h'⟩ | ⟨h, h'⟩
              ·
                have d1 : decide ((s[k].toNat : Int) < 48) = true := decide_eq_true (by omega)
                have d2 : decide (57 < (s[k].toNat : Int)) = false := decide_eq_false (by omega)
                have d3 : ((s[k].toNat : Int) == 45) = false := by rw [beq_eq_false_iff_ne]; omega
                have d4 : ((s[k].toNat : Int) != 45) = true := by rw [bne_iff_ne]; omega
                have VB := Lib.hid (BAD.out (restB_no (by omega)))
                go_wp2_with (go_at_call 76; (refine Calls.mono (L2 _).out ?_); rintro e w' ⟨rfl, rfl⟩)
                go_ret
                exact ⟨ret_bool (VB.out.symm.trans V.out), rfl⟩
              ·
                have d1 : decide ((s[k].toNat : Int) < 48) = true := decide_eq_true (by omega)
                have d2 : decide (57 < (s[k].toNat : Int)) = false := decide_eq_false (by omega)
                have d3 : ((s[k].toNat : Int) == 45) = true := by rw [beq_iff_eq]; omega
                have d4 : ((s[k].toNat : Int) != 45) = false := by rw [bne_eq_false_iff_eq]; omega
                have NX := Lib.hid (NXT.out (restB_yes (by omega)))
                go_wp2_with (go_at_call 76; (refine Calls.mono (L2 _).out ?_); rintro e w' ⟨rfl, rfl⟩)
                go_round
                case rel => exact ⟨k + 1, by omega, NX.out, by go_num⟩
                case measure => simp [intOf]; omega
              ·
                have d1 : decide ((s[k].toNat : Int) < 48) = true := decide_eq_true (by omega)
                have d2 : decide (57 < (s[k].toNat : Int)) = false := decide_eq_false (by omega)
                have d3 : ((s[k].toNat : Int) == 45) = false := by rw [beq_eq_false_iff_ne]; omega
                have d4 : ((s[k].toNat : Int) != 45) = true := by rw [bne_iff_ne]; omega
                have VB := Lib.hid (BAD.out (restB_no (by omega)))
                go_wp2_with (go_at_call 76; (refine Calls.mono (L2 _).out ?_); rintro e w' ⟨rfl, rfl⟩)
                go_ret
                exact ⟨ret_bool (VB.out.symm.trans V.out), rfl⟩
              ·
                have d1 : decide ((s[k].toNat : Int) < 48) = false := decide_eq_false (by omega)
                have d2 : decide (57 < (s[k].toNat : Int)) = false := decide_eq_false (by omega)
                have d3 : ((s[k].toNat : Int) == 45) = false := by rw [beq_eq_false_iff_ne]; omega
                have d4 : ((s[k].toNat : Int) != 45) = true := by rw [bne_iff_ne]; omega
                have NX := Lib.hid (NXT.out (restB_yes (by omega)))
                go_wp2_with (go_at_call 76; (refine Calls.mono (L2 _).out ?_); rintro e w' ⟨rfl, rfl⟩)
                go_round
                case rel => exact ⟨k + 1, by omega, NX.out, by go_num⟩
                case measure => simp [intOf]; omega
              ·
                have d1 : decide ((s[k].toNat : Int) < 48) = false := decide_eq_false (by omega)
                have d2 : decide (57 < (s[k].toNat : Int)) = true := decide_eq_true (by omega)
                have d3 : ((s[k].toNat : Int) == 45) = false := by rw [beq_eq_false_iff_ne]; omega
                have d4 : ((s[k].toNat : Int) != 45) = true := by rw [bne_iff_ne]; omega
                have VB := Lib.hid (BAD.out (restB_no (by omega)))
                go_wp2_with (go_at_call 76; (refine Calls.mono (L2 _).out ?_); rintro e w' ⟨rfl, rfl⟩)
                go_ret
                exact ⟨ret_bool (VB.out.symm.trans V.out), rfl⟩
              ·
                have d1 : decide ((s[k].toNat : Int) < 48) = false := decide_eq_false (by omega)
                have d2 : decide (57 < (s[k].toNat : Int)) = true := decide_eq_true (by omega)
                have d3 : ((s[k].toNat : Int) == 45) = false := by rw [beq_eq_false_iff_ne]; omega
                have d4 : ((s[k].toNat : Int) != 45) = true := by rw [bne_iff_ne]; omega
                have VB := Lib.hid (BAD.out (restB_no (by omega)))
                go_wp2_with (go_at_call 76; (refine Calls.mono (L2 _).out ?_); rintro e w' ⟨rfl, rfl⟩)
                go_ret
                exact ⟨ret_bool (VB.out.symm.trans V.out), rfl⟩
              ·
                have d1 : decide ((s[k].toNat : Int) < 48) = false := decide_eq_false (by omega)
                have d2 : decide (57 < (s[k].toNat : Int)) = true := decide_eq_true (by omega)
                have d3 : ((s[k].toNat : Int) == 45) = false := by rw [beq_eq_false_iff_ne]; omega
                have d4 : ((s[k].toNat : Int) != 45) = true := by rw [bne_iff_ne]; omega
                have VB := Lib.hid (BAD.out (restB_no (by omega)))
                go_wp2_with (go_at_call 76; (refine Calls.mono (L2 _).out ?_); rintro e w' ⟨rfl, rfl⟩)
                go_ret
                exact ⟨ret_bool (VB.out.symm.trans V.out), rfl⟩
            · have L2 := fun wx => Lib.hid (isLetter_any (w := wx) h2)
              have NX := Lib.hid (NXT.out (by unfold restB; rw [h2]; rfl))
              clear h2 OK bk
              go_wp2_with (go_at_call 76; (refine Calls.mono (L2 _).out ?_); rintro e w' ⟨rfl, rfl⟩)
              go_round
              case rel => exact ⟨k + 1, by omega, NX.out, by go_num⟩
              case measure => simp [intOf]; omega
          · have VG := Lib.hid (name_good h1 hl (by have := HP.out; rwa [show k = s.size by omega] at this))
            go_wp2
            go_ret
            exact ⟨ret_bool (VG.out.symm.trans V.out), rfl⟩
    · have VL := Lib.hid (name_long (s := s) (by omega))
      go_enter Try.func52, Try.ntmps52
      go_wp2
      go_ret
      exact ⟨ret_bool (VL.out.symm.trans V.out), rfl⟩
set_option maxHeartbeats 2000000 in
theorem rname_any {s : ByteArray} {v : Bool} (hv : nameB s = v) (hs : s.size ≤ maxLen) (w : World) :
    Calls Try.prog 50 #[.string s] w fun e w' => e = .returned (.bool v) ∧ w = w' := by
  have V := Lib.hid hv
  clear hv
  have hs' : s.size ≤ 9223372036854775807 := hs
  go_enter Try.func50, Try.ntmps50
  go_wp2
  go_loop [3] (fun i => ∃ k : Nat, k ≤ s.size ∧ preB s k = true ∧ i = .int .i64 k) (fun i => s.size - (intOf i).toNat)
  case atStart => exact ⟨0, Nat.zero_le _, rfl, rfl⟩
  case round =>
    obtain ⟨k, hk, hp, rfl⟩ := hrel
    have HP := Lib.hid hp
    clear hp
    by_cases hlt : k < s.size
    · by_cases k0 : k = 0
      · subst k0
        have hc : (s[0].toNat : Int) ≤ 255 := by have := s[0].toNat_lt; omega
        have NX : Hid (letB (s[0].toNat : Int) = true → preB s 1 = true) := Lib.hid (fun h => by show (preB s 0 && okAt s 0) = true; rw [okAt_zero, byteAt_eq hlt, h]; rfl)
        have VB : Hid (letB (s[0].toNat : Int) = false → nameB s = false) := Lib.hid (fun h => name_bad (k := 0) (by rw [okAt_zero, byteAt_eq hlt, h]) hlt)
        rcases (show (0 ≤ (s[0].toNat : Int) ∧ (s[0].toNat : Int) ≤ 44) ∨ (45 ≤ (s[0].toNat : Int) ∧ (s[0].toNat : Int) ≤ 45) ∨ (46 ≤ (s[0].toNat : Int) ∧ (s[0].toNat : Int) ≤ 47) ∨ (48 ≤ (s[0].toNat : Int) ∧ (s[0].toNat : Int) ≤ 57) ∨ (58 ≤ (s[0].toNat : Int) ∧ (s[0].toNat : Int) ≤ 64) ∨ (65 ≤ (s[0].toNat : Int) ∧ (s[0].toNat : Int) ≤ 90) ∨ (91 ≤ (s[0].toNat : Int) ∧ (s[0].toNat : Int) ≤ 96) ∨ (97 ≤ (s[0].toNat : Int) ∧ (s[0].toNat : Int) ≤ 122) ∨ (123 ≤ (s[0].toNat : Int) ∧ (s[0].toNat : Int) ≤ 255) by omega) with ⟨h, h'⟩ | ⟨h, h'⟩ | ⟨h, h'⟩ | ⟨h, h'⟩ | ⟨h, h'⟩ | ⟨h, h'⟩ | ⟨h, h'⟩ | ⟨h, h'⟩ | ⟨h, h'⟩
        · have : decide (97 ≤ (s[0].toNat : Int)) = false := decide_eq_false (by omega)
          have : decide ((s[0].toNat : Int) ≤ 122) = true := decide_eq_true (by omega)
          have : decide (65 ≤ (s[0].toNat : Int)) = false := decide_eq_false (by omega)
          have : decide ((s[0].toNat : Int) ≤ 90) = true := decide_eq_true (by omega)
          have : decide ((s[0].toNat : Int) < 48) = true := decide_eq_true (by omega)
          have : decide (57 < (s[0].toNat : Int)) = false := decide_eq_false (by omega)
          have : ((s[0].toNat : Int) == 45) = false := by rw [beq_eq_false_iff_ne]; omega
          have : ((s[0].toNat : Int) != 45) = true := by rw [bne_iff_ne]; omega
          go_wp2
          go_ret; exact ⟨ret_bool ((VB.out (letB_no (by omega))).symm.trans V.out), rfl⟩
        · have : decide (97 ≤ (s[0].toNat : Int)) = false := decide_eq_false (by omega)
          have : decide ((s[0].toNat : Int) ≤ 122) = true := decide_eq_true (by omega)
          have : decide (65 ≤ (s[0].toNat : Int)) = false := decide_eq_false (by omega)
          have : decide ((s[0].toNat : Int) ≤ 90) = true := decide_eq_true (by omega)
          have : decide ((s[0].toNat : Int) < 48) = true := decide_eq_true (by omega)
          have : decide (57 < (s[0].toNat : Int)) = false := decide_eq_false (by omega)
          have : ((s[0].toNat : Int) == 45) = true := by rw [beq_iff_eq]; omega
          have : ((s[0].toNat : Int) != 45) = false := by rw [bne_eq_false_iff_eq]; omega
          go_wp2
          go_ret; exact ⟨ret_bool ((VB.out (letB_no (by omega))).symm.trans V.out), rfl⟩
        · have : decide (97 ≤ (s[0].toNat : Int)) = false := decide_eq_false (by omega)
          have : decide ((s[0].toNat : Int) ≤ 122) = true := decide_eq_true (by omega)
          have : decide (65 ≤ (s[0].toNat : Int)) = false := decide_eq_false (by omega)
          have : decide ((s[0].toNat : Int) ≤ 90) = true := decide_eq_true (by omega)
          have : decide ((s[0].toNat : Int) < 48) = true := decide_eq_true (by omega)
          have : decide (57 < (s[0].toNat : Int)) = false := decide_eq_false (by omega)
          have : ((s[0].toNat : Int) == 45) = false := by rw [beq_eq_false_iff_ne]; omega
          have : ((s[0].toNat : Int) != 45) = true := by rw [bne_iff_ne]; omega
          go_wp2
          go_ret; exact ⟨ret_bool ((VB.out (letB_no (by omega))).symm.trans V.out), rfl⟩
        · have : decide (97 ≤ (s[0].toNat : Int)) = false := decide_eq_false (by omega)
          have : decide ((s[0].toNat : Int) ≤ 122) = true := decide_eq_true (by omega)
          have : decide (65 ≤ (s[0].toNat : Int)) = false := decide_eq_false (by omega)
          have : decide ((s[0].toNat : Int) ≤ 90) = true := decide_eq_true (by omega)
          have : decide ((s[0].toNat : Int) < 48) = false := decide_eq_false (by omega)
          have : decide (57 < (s[0].toNat : Int)) = false := decide_eq_false (by omega)
          have : ((s[0].toNat : Int) == 45) = false := by rw [beq_eq_false_iff_ne]; omega
          have : ((s[0].toNat : Int) != 45) = true := by rw [bne_iff_ne]; omega
          go_wp2
          go_ret; exact ⟨ret_bool ((VB.out (letB_no (by omega))).symm.trans V.out), rfl⟩
        · have : decide (97 ≤ (s[0].toNat : Int)) = false := decide_eq_false (by omega)
          have : decide ((s[0].toNat : Int) ≤ 122) = true := decide_eq_true (by omega)
          have : decide (65 ≤ (s[0].toNat : Int)) = false := decide_eq_false (by omega)
          have : decide ((s[0].toNat : Int) ≤ 90) = true := decide_eq_true (by omega)
          have : decide ((s[0].toNat : Int) < 48) = false := decide_eq_false (by omega)
          have : decide (57 < (s[0].toNat : Int)) = true := decide_eq_true (by omega)
          have : ((s[0].toNat : Int) == 45) = false := by rw [beq_eq_false_iff_ne]; omega
          have : ((s[0].toNat : Int) != 45) = true := by rw [bne_iff_ne]; omega
          go_wp2
          go_ret; exact ⟨ret_bool ((VB.out (letB_no (by omega))).symm.trans V.out), rfl⟩
        · have : decide (97 ≤ (s[0].toNat : Int)) = false := decide_eq_false (by omega)
          have : decide ((s[0].toNat : Int) ≤ 122) = true := decide_eq_true (by omega)
          have : decide (65 ≤ (s[0].toNat : Int)) = true := decide_eq_true (by omega)
          have : decide ((s[0].toNat : Int) ≤ 90) = true := decide_eq_true (by omega)
          have : decide ((s[0].toNat : Int) < 48) = false := decide_eq_false (by omega)
          have : decide (57 < (s[0].toNat : Int)) = true := decide_eq_true (by omega)
          have : ((s[0].toNat : Int) == 45) = false := by rw [beq_eq_false_iff_ne]; omega
          have : ((s[0].toNat : Int) != 45) = true := by rw [bne_iff_ne]; omega
          go_wp2
          go_round
          case rel => exact ⟨1, by omega, NX.out (letB_yes (by omega)), by go_num⟩
          case measure => simp [intOf]; omega
        · have : decide (97 ≤ (s[0].toNat : Int)) = false := decide_eq_false (by omega)
          have : decide ((s[0].toNat : Int) ≤ 122) = true := decide_eq_true (by omega)
          have : decide (65 ≤ (s[0].toNat : Int)) = true := decide_eq_true (by omega)
          have : decide ((s[0].toNat : Int) ≤ 90) = false := decide_eq_false (by omega)
          have : decide ((s[0].toNat : Int) < 48) = false := decide_eq_false (by omega)
          have : decide (57 < (s[0].toNat : Int)) = true := decide_eq_true (by omega)
          have : ((s[0].toNat : Int) == 45) = false := by rw [beq_eq_false_iff_ne]; omega
          have : ((s[0].toNat : Int) != 45) = true := by rw [bne_iff_ne]; omega
          go_wp2
          go_ret; exact ⟨ret_bool ((VB.out (letB_no (by omega))).symm.trans V.out), rfl⟩
        · have : decide (97 ≤ (s[0].toNat : Int)) = true := decide_eq_true (by omega)
          have : decide ((s[0].toNat : Int) ≤ 122) = true := decide_eq_true (by omega)
          have : decide (65 ≤ (s[0].toNat : Int)) = true := decide_eq_true (by omega)
          have : decide ((s[0].toNat : Int) ≤ 90) = false := decide_eq_false (by omega)
          have : decide ((s[0].toNat : Int) < 48) = false := decide_eq_false (by omega)
          have : decide (57 < (s[0].toNat : Int)) = true := decide_eq_true (by omega)
          have : ((s[0].toNat : Int) == 45) = false := by rw [beq_eq_false_iff_ne]; omega
          have : ((s[0].toNat : Int) != 45) = true := by rw [bne_iff_ne]; omega
          go_wp2
          go_round
          case rel => exact ⟨1, by omega, NX.out (letB_yes (by omega)), by go_num⟩
          case measure => simp [intOf]; omega
        · have : decide (97 ≤ (s[0].toNat : Int)) = true := decide_eq_true (by omega)
          have : decide ((s[0].toNat : Int) ≤ 122) = false := decide_eq_false (by omega)
          have : decide (65 ≤ (s[0].toNat : Int)) = true := decide_eq_true (by omega)
          have : decide ((s[0].toNat : Int) ≤ 90) = false := decide_eq_false (by omega)
          have : decide ((s[0].toNat : Int) < 48) = false := decide_eq_false (by omega)
          have : decide (57 < (s[0].toNat : Int)) = true := decide_eq_true (by omega)
          have : ((s[0].toNat : Int) == 45) = false := by rw [beq_eq_false_iff_ne]; omega
          have : ((s[0].toNat : Int) != 45) = true := by rw [bne_iff_ne]; omega
          go_wp2
          go_ret; exact ⟨ret_bool ((VB.out (letB_no (by omega))).symm.trans V.out), rfl⟩
      · have hc : (s[k].toNat : Int) ≤ 255 := by have := s[k].toNat_lt; omega
        have NX : Hid (restB (s[k].toNat : Int) = true → preB s (k + 1) = true) := Lib.hid (fun h => by show (preB s k && okAt s k) = true; rw [HP.out, okAt_pos k0, byteAt_eq hlt, h]; rfl)
        have VB : Hid (restB (s[k].toNat : Int) = false → nameB s = false) := Lib.hid (fun h => name_bad (k := k) (by rw [okAt_pos k0, byteAt_eq hlt, h]) hlt)
        rcases (show (0 ≤ (s[k].toNat : Int) ∧ (s[k].toNat : Int) ≤ 44) ∨ (45 ≤ (s[k].toNat : Int) ∧ (s[k].toNat : Int) ≤ 45) ∨ (46 ≤ (s[k].toNat : Int) ∧ (s[k].toNat : Int) ≤ 47) ∨ (48 ≤ (s[k].toNat : Int) ∧ (s[k].toNat : Int) ≤ 57) ∨ (58 ≤ (s[k].toNat : Int) ∧ (s[k].toNat : Int) ≤ 64) ∨ (65 ≤ (s[k].toNat : Int) ∧ (s[k].toNat : Int) ≤ 90) ∨ (91 ≤ (s[k].toNat : Int) ∧ (s[k].toNat : Int) ≤ 96) ∨ (97 ≤ (s[k].toNat : Int) ∧ (s[k].toNat : Int) ≤ 122) ∨ (123 ≤ (s[k].toNat : Int) ∧ (s[k].toNat : Int) ≤ 255) by omega) with ⟨h, h'⟩ | ⟨h, h'⟩ | ⟨h, h'⟩ | ⟨h, h'⟩ | ⟨h, h'⟩ | ⟨h, h'⟩ | ⟨h, h'⟩ | ⟨h, h'⟩ | ⟨h, h'⟩
        · have : decide (97 ≤ (s[k].toNat : Int)) = false := decide_eq_false (by omega)
          have : decide ((s[k].toNat : Int) ≤ 122) = true := decide_eq_true (by omega)
          have : decide (65 ≤ (s[k].toNat : Int)) = false := decide_eq_false (by omega)
          have : decide ((s[k].toNat : Int) ≤ 90) = true := decide_eq_true (by omega)
          have : decide ((s[k].toNat : Int) < 48) = true := decide_eq_true (by omega)
          have : decide (57 < (s[k].toNat : Int)) = false := decide_eq_false (by omega)
          have : ((s[k].toNat : Int) == 45) = false := by rw [beq_eq_false_iff_ne]; omega
          have : ((s[k].toNat : Int) != 45) = true := by rw [bne_iff_ne]; omega
          go_wp2
          go_ret; exact ⟨ret_bool ((VB.out (restB_no (by omega))).symm.trans V.out), rfl⟩
        · have : decide (97 ≤ (s[k].toNat : Int)) = false := decide_eq_false (by omega)
          have : decide ((s[k].toNat : Int) ≤ 122) = true := decide_eq_true (by omega)
          have : decide (65 ≤ (s[k].toNat : Int)) = false := decide_eq_false (by omega)
          have : decide ((s[k].toNat : Int) ≤ 90) = true := decide_eq_true (by omega)
          have : decide ((s[k].toNat : Int) < 48) = true := decide_eq_true (by omega)
          have : decide (57 < (s[k].toNat : Int)) = false := decide_eq_false (by omega)
          have : ((s[k].toNat : Int) == 45) = true := by rw [beq_iff_eq]; omega
          have : ((s[k].toNat : Int) != 45) = false := by rw [bne_eq_false_iff_eq]; omega
          go_wp2
          go_round
          case rel => exact ⟨k + 1, by omega, NX.out (restB_yes (by omega)), by go_num⟩
          case measure => simp [intOf]; omega
        · have : decide (97 ≤ (s[k].toNat : Int)) = false := decide_eq_false (by omega)
          have : decide ((s[k].toNat : Int) ≤ 122) = true := decide_eq_true (by omega)
          have : decide (65 ≤ (s[k].toNat : Int)) = false := decide_eq_false (by omega)
          have : decide ((s[k].toNat : Int) ≤ 90) = true := decide_eq_true (by omega)
          have : decide ((s[k].toNat : Int) < 48) = true := decide_eq_true (by omega)
          have : decide (57 < (s[k].toNat : Int)) = false := decide_eq_false (by omega)
          have : ((s[k].toNat : Int) == 45) = false := by rw [beq_eq_false_iff_ne]; omega
          have : ((s[k].toNat : Int) != 45) = true := by rw [bne_iff_ne]; omega
          go_wp2
          go_ret; exact ⟨ret_bool ((VB.out (restB_no (by omega))).symm.trans V.out), rfl⟩
        · have : decide (97 ≤ (s[k].toNat : Int)) = false := decide_eq_false (by omega)
          have : decide ((s[k].toNat : Int) ≤ 122) = true := decide_eq_true (by omega)
          have : decide (65 ≤ (s[k].toNat : Int)) = false := decide_eq_false (by omega)
          have : decide ((s[k].toNat : Int) ≤ 90) = true := decide_eq_true (by omega)
          have : decide ((s[k].toNat : Int) < 48) = false := decide_eq_false (by omega)
          have : decide (57 < (s[k].toNat : Int)) = false := decide_eq_false (by omega)
          have : ((s[k].toNat : Int) == 45) = false := by rw [beq_eq_false_iff_ne]; omega
          have : ((s[k].toNat : Int) != 45) = true := by rw [bne_iff_ne]; omega
          go_wp2
          go_round
          case rel => exact ⟨k + 1, by omega, NX.out (restB_yes (by omega)), by go_num⟩
          case measure => simp [intOf]; omega
        · have : decide (97 ≤ (s[k].toNat : Int)) = false := decide_eq_false (by omega)
          have : decide ((s[k].toNat : Int) ≤ 122) = true := decide_eq_true (by omega)
          have : decide (65 ≤ (s[k].toNat : Int)) = false := decide_eq_false (by omega)
          have : decide ((s[k].toNat : Int) ≤ 90) = true := decide_eq_true (by omega)
          have : decide ((s[k].toNat : Int) < 48) = false := decide_eq_false (by omega)
          have : decide (57 < (s[k].toNat : Int)) = true := decide_eq_true (by omega)
          have : ((s[k].toNat : Int) == 45) = false := by rw [beq_eq_false_iff_ne]; omega
          have : ((s[k].toNat : Int) != 45) = true := by rw [bne_iff_ne]; omega
          go_wp2
          go_ret; exact ⟨ret_bool ((VB.out (restB_no (by omega))).symm.trans V.out), rfl⟩
        · have : decide (97 ≤ (s[k].toNat : Int)) = false := decide_eq_false (by omega)
          have : decide ((s[k].toNat : Int) ≤ 122) = true := decide_eq_true (by omega)
          have : decide (65 ≤ (s[k].toNat : Int)) = true := decide_eq_true (by omega)
          have : decide ((s[k].toNat : Int) ≤ 90) = true := decide_eq_true (by omega)
          have : decide ((s[k].toNat : Int) < 48) = false := decide_eq_false (by omega)
          have : decide (57 < (s[k].toNat : Int)) = true := decide_eq_true (by omega)
          have : ((s[k].toNat : Int) == 45) = false := by rw [beq_eq_false_iff_ne]; omega
          have : ((s[k].toNat : Int) != 45) = true := by rw [bne_iff_ne]; omega
          go_wp2
          go_round
          case rel => exact ⟨k + 1, by omega, NX.out (restB_yes (by omega)), by go_num⟩
          case measure => simp [intOf]; omega
        · have : decide (97 ≤ (s[k].toNat : Int)) = false := decide_eq_false (by omega)
          have : decide ((s[k].toNat : Int) ≤ 122) = true := decide_eq_true (by omega)
          have : decide (65 ≤ (s[k].toNat : Int)) = true := decide_eq_true (by omega)
          have : decide ((s[k].toNat : Int) ≤ 90) = false := decide_eq_false (by omega)
          have : decide ((s[k].toNat : Int) < 48) = false := decide_eq_false (by omega)
          have : decide (57 < (s[k].toNat : Int)) = true := decide_eq_true (by omega)
          have : ((s[k].toNat : Int) == 45) = false := by rw [beq_eq_false_iff_ne]; omega
          have : ((s[k].toNat : Int) != 45) = true := by rw [bne_iff_ne]; omega
          go_wp2
          go_ret; exact ⟨ret_bool ((VB.out (restB_no (by omega))).symm.trans V.out), rfl⟩
        · have : decide (97 ≤ (s[k].toNat : Int)) = true := decide_eq_true (by omega)
          have : decide ((s[k].toNat : Int) ≤ 122) = true := decide_eq_true (by omega)
          have : decide (65 ≤ (s[k].toNat : Int)) = true := decide_eq_true (by omega)
          have : decide ((s[k].toNat : Int) ≤ 90) = false := decide_eq_false (by omega)
          have : decide ((s[k].toNat : Int) < 48) = false := decide_eq_false (by omega)
          have : decide (57 < (s[k].toNat : Int)) = true := decide_eq_true (by omega)
          have : ((s[k].toNat : Int) == 45) = false := by rw [beq_eq_false_iff_ne]; omega
          have : ((s[k].toNat : Int) != 45) = true := by rw [bne_iff_ne]; omega
          go_wp2
          go_round
          case rel => exact ⟨k + 1, by omega, NX.out (restB_yes (by omega)), by go_num⟩
          case measure => simp [intOf]; omega
        · have : decide (97 ≤ (s[k].toNat : Int)) = true := decide_eq_true (by omega)
          have : decide ((s[k].toNat : Int) ≤ 122) = false := decide_eq_false (by omega)
          have : decide (65 ≤ (s[k].toNat : Int)) = true := decide_eq_true (by omega)
          have : decide ((s[k].toNat : Int) ≤ 90) = false := decide_eq_false (by omega)
          have : decide ((s[k].toNat : Int) < 48) = false := decide_eq_false (by omega)
          have : decide (57 < (s[k].toNat : Int)) = true := decide_eq_true (by omega)
          have : ((s[k].toNat : Int) == 45) = false := by rw [beq_eq_false_iff_ne]; omega
          have : ((s[k].toNat : Int) != 45) = true := by rw [bne_iff_ne]; omega
          go_wp2
          go_ret; exact ⟨ret_bool ((VB.out (restB_no (by omega))).symm.trans V.out), rfl⟩
    · have hk' : k = s.size := by omega
      subst hk'
      have VG : Hid (nameB s = (decide (1 ≤ s.size) && decide (s.size ≤ 12))) := Lib.hid (by unfold nameB; rw [HP.out, Bool.and_true])
      go_wp2
      all_goals
        go_ret
        refine ⟨ret_bool ?_, rfl⟩
        rw [← V.out, VG.out, Bool.eq_iff_iff]
        simp
        omega
end Go.Proofs.Ytffmaoalnilkkaa
