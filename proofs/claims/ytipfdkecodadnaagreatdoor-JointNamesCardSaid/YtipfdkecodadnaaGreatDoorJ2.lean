/- Walks over the joint seat: the kind with a name. -/
import Derived.Test.YtipfdkecodadnaaGreatDoorJ1
namespace Go.Proofs.YtipfdkecodadnaaGreatDoor
open Go Go.RowKit

theorem string_eq {s t : ByteArray} : (s.toList == t.toList) = decide (s = t) := by
  rw [Bool.eq_iff_iff, beq_iff_eq, decide_eq_true_iff, ByteArray.toList_eq, ByteArray.toList_eq]
  constructor
  · intro h
    obtain ⟨⟨a⟩⟩ := s; obtain ⟨⟨b⟩⟩ := t
    simp only at h
    rw [h]
  · rintro rfl; rfl
theorem str_ne {s t : ByteArray} (h : s ≠ t) : (s.toList == t.toList) = false := by rw [string_eq, decide_eq_false_iff_not]; exact h
theorem str_eq {s t : ByteArray} (h : s = t) : (s.toList == t.toList) = true := by rw [string_eq, decide_eq_true_iff]; exact h
set_option maxHeartbeats 2000000 in
set_option maxRecDepth 100000 in
theorem kindOf_yes {s : ByteArray} {k : Nat} (hk : k < 11) (hs : nm k = s) (hlt : ∀ m, m < k → nm m ≠ s) (w : World) (hw : GV w) :
    Calls Tryz.prog 19 #[.string s] w fun e w' => e = .returned (.tuple #[.int .i64 k, .int .i64 0]) ∧ Below w.heap.size w w' := by
  have hg := Lib.hid hw.g0
  have hsz : (Tryz.prog.info? 93).map (·.size) = some gv0.size := by kernel_rfl
  have hix := Lib.hid fun (m : Nat) (hm : m < 11) wx => run_index93 rfl hm wx
  have HLT := Lib.hid hlt
  have HS := Lib.hid hs
  have HSZ := Lib.hid hsz
  clear hlt hs hw hsz
  generalize gv0 = A at *
  go_enter Tryz.func19, Tryz.ntmps19
  go_upto_region 1 with fail
  go_wp2_with (refine wpList_load_row rfl 93 _ rfl 0 rfl 93 A _ _ hg.out Tryz.underlying93 rfl HSZ.out ?_)
  obtain ⟨wo, rfl⟩ : ∃ wo : World, wo = w := ⟨_, rfl⟩
  go_loopw [7] (fun i wr => ∃ m : Nat, m ≤ k ∧ i = .int .i64 m ∧ Below wo.heap.size wo wr) (fun i _ => 11 - (intOf i).toNat)
  case atStart => exact ⟨0, by omega, rfl, Below.refl _ _⟩
  case round =>
    obtain ⟨m, hm, rfl, hb⟩ := hrel
    have hm11 : m < 11 := by omega
    have hm' : (m : Int) < 11 := by omega
    have hx := hix.out m hm11
    have hsz := hb.size
    by_cases hlt : m < k
    · have hne := str_ne (HLT.out m hlt)
      generalize nm m = a at *
      generalize mem m = a1 at *
      generalize lst m = a2 at *
      generalize eac m = a3 at *
      go_wp2_with fail
      go_roundw
      case rel => exact ⟨m + 1, by omega, by go_num, hb.alloc hsz _⟩
      case measure => simp [intOf]; omega
    · have hmk : m = k := by omega
      subst hmk
      have heq := str_eq HS.out
      generalize nm m = a at *
      generalize mem m = a1 at *
      generalize lst m = a2 at *
      generalize eac m = a3 at *
      go_wp2_with fail
      go_ret2
      exact ⟨rfl, hb.alloc hsz _⟩

set_option maxHeartbeats 2000000 in
set_option maxRecDepth 100000 in
theorem kindOf_no {s : ByteArray} (hlt : ∀ m, m < 11 → nm m ≠ s) (w : World) (hw : GV w) :
    Calls Tryz.prog 19 #[.string s] w fun e w' => e = .returned (.tuple #[.int .i64 0, .int .i64 6]) ∧ Below w.heap.size w w' := by
  have hg := Lib.hid hw.g0
  have hsz : (Tryz.prog.info? 93).map (·.size) = some gv0.size := by kernel_rfl
  have hix := Lib.hid fun (m : Nat) (hm : m < 11) wx => run_index93 rfl hm wx
  have HLT := Lib.hid hlt
  have HSZ := Lib.hid hsz
  clear hlt hw hsz
  generalize gv0 = A at *
  go_enter Tryz.func19, Tryz.ntmps19
  go_upto_region 1 with fail
  go_wp2_with (refine wpList_load_row rfl 93 _ rfl 0 rfl 93 A _ _ hg.out Tryz.underlying93 rfl HSZ.out ?_)
  obtain ⟨wo, rfl⟩ : ∃ wo : World, wo = w := ⟨_, rfl⟩
  go_loopw [7] (fun i wr => ∃ m : Nat, m ≤ 11 ∧ i = .int .i64 m ∧ Below wo.heap.size wo wr) (fun i _ => 11 - (intOf i).toNat)
  case atStart => exact ⟨0, by omega, rfl, Below.refl _ _⟩
  case round =>
    obtain ⟨m, hm, rfl, hb⟩ := hrel
    have hsz := hb.size
    by_cases hlt : m < 11
    · have hm' : (m : Int) < 11 := by omega
      have hx := hix.out m hlt
      have hne := str_ne (HLT.out m hlt)
      generalize nm m = a at *
      generalize mem m = a1 at *
      generalize lst m = a2 at *
      generalize eac m = a3 at *
      go_wp2_with fail
      go_roundw
      case rel => exact ⟨m + 1, by omega, by go_num, hb.alloc hsz _⟩
      case measure => simp [intOf]; omega
    · have hm1 : m = 11 := by omega
      subst hm1
      go_wp2_with fail
      go_ret2
      exact ⟨rfl, hb⟩

/-- The row that Names lays. -/
def nmA : Array Value := (names.map Value.string).toArray
theorem nmA_at {k : Nat} (h : k < 11) : nmA[k]? = some (.string (nm k)) := by
  rcases small h with rfl | rfl | rfl | rfl | rfl | rfl | rfl | rfl | rfl | rfl | rfl <;> rfl
theorem names_any (w : World) : Calls Tryz.prog 22 #[] w fun e w' => e = .returned (.slice (some ⟨w.heap.size, 0, none⟩) 11 11) ∧ w' = w.alloc (.cells nmA 9) := by
  go_enter Tryz.func22, Tryz.ntmps22
  go_wp2
  go_ret
  exact ⟨rfl, rfl⟩
set_option maxHeartbeats 2000000 in
set_option maxRecDepth 100000 in
theorem rkindOf_yes {s : ByteArray} {k : Nat} (hk : k < 11) (hs : nm k = s) (hlt : ∀ m, m < k → nm m ≠ s) (w : World) :
    Calls Tryz.prog 20 #[.string s] w fun e w' => e = .returned (.int .i64 k) ∧ Below w.heap.size w w' := by
  have NA := fun wx => Lib.hid (names_any wx)
  have hc := Lib.hid fun (m : Nat) (hm : m < 11) => nmA_at hm
  have HLT := Lib.hid hlt
  have HS := Lib.hid hs
  clear hlt hs
  generalize nmA = A at *
  go_enter Tryz.func20, Tryz.ntmps20
  go_upto_region 2 with (go_at_call 22; (refine Calls.mono (NA _).out ?_); rintro e w' ⟨rfl, rfl⟩)
  go_wp2_with fail
  have hb : Below w.heap.size w (w.alloc (.cells A 9)) := (Below.refl _ _).alloc (Nat.le_refl _) _
  have HB := Lib.hid hb
  clear hb
  go_loop [4] (fun i => ∃ m : Nat, m ≤ k ∧ i = .int .i64 m) (fun i => 11 - (intOf i).toNat)
  case atStart => exact ⟨0, by omega, rfl⟩
  case round =>
    obtain ⟨m, hm, rfl⟩ := hrel
    have hm11 : m < 11 := by omega
    have hm' : (m : Int) < 11 := by omega
    have hx : (w.alloc (.cells A 9)).cell? ⟨w.heap.size, m, none⟩ = some (.string (nm m)) := by simpa [World.cell?, World.alloc, -World.alloc_eq] using hc.out m hm11
    by_cases hlt : m < k
    · have hne := str_ne (HLT.out m hlt)
      generalize nm m = a at *
      go_wp2_with fail
      go_round
      case rel => exact ⟨m + 1, by omega, by go_num⟩
      case measure => simp [intOf]; omega
    · have hmk : m = k := by omega
      subst hmk
      have heq := str_eq HS.out
      generalize nm m = a at *
      go_wp2_with fail
      go_ret
      exact ⟨rfl, HB.out⟩
set_option maxHeartbeats 2000000 in
set_option maxRecDepth 100000 in
theorem rkindOf_no {s : ByteArray} (hlt : ∀ m, m < 11 → nm m ≠ s) (w : World) :
    Calls Tryz.prog 20 #[.string s] w fun e w' => e = .returned (.int .i64 (-1)) ∧ Below w.heap.size w w' := by
  have NA := fun wx => Lib.hid (names_any wx)
  have hc := Lib.hid fun (m : Nat) (hm : m < 11) => nmA_at hm
  have HLT := Lib.hid hlt
  clear hlt
  generalize nmA = A at *
  go_enter Tryz.func20, Tryz.ntmps20
  go_upto_region 2 with (go_at_call 22; (refine Calls.mono (NA _).out ?_); rintro e w' ⟨rfl, rfl⟩)
  go_wp2_with fail
  have hb : Below w.heap.size w (w.alloc (.cells A 9)) := (Below.refl _ _).alloc (Nat.le_refl _) _
  have HB := Lib.hid hb
  clear hb
  go_loop [4] (fun i => ∃ m : Nat, m ≤ 11 ∧ i = .int .i64 m) (fun i => 11 - (intOf i).toNat)
  case atStart => exact ⟨0, by omega, rfl⟩
  case round =>
    obtain ⟨m, hm, rfl⟩ := hrel
    by_cases hlt : m < 11
    · have hm' : (m : Int) < 11 := by omega
      have hx : (w.alloc (.cells A 9)).cell? ⟨w.heap.size, m, none⟩ = some (.string (nm m)) := by simpa [World.cell?, World.alloc, -World.alloc_eq] using hc.out m hlt
      have hne := str_ne (HLT.out m hlt)
      generalize nm m = a at *
      go_wp2_with fail
      go_round
      case rel => exact ⟨m + 1, by omega, by go_num⟩
      case measure => simp [intOf]; omega
    · have hm1 : m = 11 := by omega
      subst hm1
      go_wp2_with fail
      go_ret
      exact ⟨rfl, HB.out⟩
end Go.Proofs.YtipfdkecodadnaaGreatDoor
