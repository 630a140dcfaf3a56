/- Walks over the fits: the law's bound on seasons. -/
import Derived.Test.YtcjhodlimpgegaaGreatFW
namespace Go.Proofs.YtcjhodlimpgegaaGreat
open Go.RowKit Go.Maps

/-- The law's bound on seasons. -/
def snBound (l : List Sn) : Bool := !(decide (5 < l.length) && decide (l.length ≤ 24)) && (decide (l.length ≤ 30) && l.all (fun s => decide (s.nm.size ≤ 30)))
theorem snBound_len {l : List Sn} (h : snBound l = true) : l.length ≤ 30 := by
  unfold snBound at h; simp only [Bool.and_eq_true, decide_eq_true_eq] at h; exact h.2.1
theorem snAll_succ {l : List Sn} {k : Nat} (h : k < l.length) : (l.take (k + 1)).all (fun s => decide (s.nm.size ≤ 30)) = ((l.take k).all (fun s => decide (s.nm.size ≤ 30)) && decide (l[k].nm.size ≤ 30)) := by
  rw [List.take_succ_eq_append_getElem h, List.all_append]; simp
set_option maxHeartbeats 1000000 in
theorem seasons_law {l : List Sn} {S : Option Addr} {m d : Nat} {v : Bool} (hv : snBound l = v) (hmm : m ≤ maxLen) (w : World) (hS : SnRow w S m l) :
    Calls Tryz.prog 23 #[.slice S m d] w fun e w' => e = .returned (.bool v) ∧ w = w' := by
  have hln := hS.1
  have hm' : m ≤ 9223372036854775807 := Nat.le_trans hmm (by decide)
  have HSR := Lib.hid hS
  have HV : Hid ((!(decide (5 < m) && decide (m ≤ 24)) && (decide (m ≤ 30) && l.all (fun s => decide (s.nm.size ≤ 30)))) = v) := Lib.hid (by rw [← hv]; unfold snBound; rw [hln])
  clear hS hv
  by_cases h30 : m ≤ 30
  · by_cases h5 : 5 < m ∧ m ≤ 24
    · obtain ⟨h5, h6⟩ := h5
      have HW : Hid (v = false) := Lib.hid (by rw [← HV.out, decide_eq_true h5, decide_eq_true h6]; rfl)
      go_enter Tryz.func23, Tryz.ntmps23
      go_wp2
      go_ret
      exact ⟨ret_bool HW.out.symm, rfl⟩
    · have d1 : decide (30 < (m : Int)) = false := decide_eq_false (by omega)
      have HW : Hid (l.all (fun s => decide (s.nm.size ≤ 30)) = v) := Lib.hid (by
        rw [← HV.out, decide_eq_true h30]
        have : (decide (5 < m) && decide (m ≤ 24)) = false := by rw [Bool.and_eq_false_iff]; simp; omega
        rw [this]; simp)
      clear HV
      go_enter Tryz.func23, Tryz.ntmps23
      go_wp2
      all_goals
        go_loopw [3] (fun i wr => ∃ k : Nat, k ≤ m ∧ i = .int .i64 k ∧ Hid ((l.take k).all (fun s => decide (s.nm.size ≤ 30)) = true) ∧ w = wr) (fun i _ => m - (intOf i).toNat)
        case atStart => exact ⟨0, Nat.zero_le _, rfl, Lib.hid rfl, rfl⟩
        case round =>
          obtain ⟨k, hk, rfl, HT, rfl⟩ := hrel
          by_cases hlt : k < m
          · have hkl : k < l.length := by omega
            obtain ⟨blk, off, rfl, hblk, hx⟩ := HSR.out.2 (by omega)
            obtain ⟨q0, -, -, hsz⟩ := hx k hkl
            have HS := Lib.hid (snAll_succ hkl)
            have HM := Lib.hid (List.getElem_mem hkl)
            clear hx
            obtain ⟨x, hx⟩ : ∃ x, l[k] = x := ⟨_, rfl⟩
            rw [hx] at q0 hsz HS HM
            clear hx
            have hsz' : x.nm.size ≤ 9223372036854775807 := Nat.le_trans hsz (by decide)
            by_cases hz : x.nm.size ≤ 30
            · have HT2 : Hid ((l.take (k + 1)).all (fun s => decide (s.nm.size ≤ 30)) = true) := Lib.hid (by rw [HS.out, HT.out, decide_eq_true hz]; rfl)
              go_wp2
              go_roundw
              case rel => exact ⟨k + 1, by omega, by go_num, HT2, by first | rfl | trivial⟩
              case measure => simp [intOf]; omega
            · have HF : Hid (v = false) := Lib.hid (by rw [← HW.out, List.all_eq_false]; exact ⟨_, HM.out, by simp; omega⟩)
              go_wp2
              go_ret
              exact ⟨ret_bool HF.out.symm, rfl⟩
          · have HF : Hid (v = true) := Lib.hid (by rw [← HW.out]; have := HT.out; rwa [List.take_of_length_le (by omega)] at this)
            go_wp2
            go_ret
            exact ⟨ret_bool HF.out.symm, rfl⟩
  · have d1 : decide (30 < (m : Int)) = true := decide_eq_true (by omega)
    have HW : Hid (v = false) := Lib.hid (by rw [← HV.out, decide_eq_false h30]; simp)
    go_enter Tryz.func23, Tryz.ntmps23
    go_wp2
    all_goals
      go_ret
      exact ⟨ret_bool HW.out.symm, rfl⟩
end Go.Proofs.YtcjhodlimpgegaaGreat
