/- Walks over the joint seat: the law of the names. -/
import Derived.Test.YtipfdkecodadnaaGreatDoorJ2
namespace Go.Proofs.YtipfdkecodadnaaGreatDoor
open Go Go.RowKit

set_option maxHeartbeats 4000000 in
set_option maxRecDepth 100000 in
theorem law_no_no {s : ByteArray} {a : Int} (hk : kindB a = false) (hlt : ∀ i, i < 11 → nm i ≠ s) (h40 : s.size ≤ 40) (w : World) (hw : GV w) :
    Calls Tryz.prog 4 #[.int .i64 a, .string s] w fun e w' => e = .returned (.bool true) ∧ Below w.heap.size w w' := by
  have AW := Lib.hid (awake_any w hw.laid)
  have HW := Lib.hid hw
  have KN := Lib.hid fun wx (_ : GV wx) => name_no hk wx
  have MB := Lib.hid fun wx (_ : GV wx) => members_no hk wx
  have RK := fun wx => Lib.hid (rkind_any hk wx)
  have KO := Lib.hid fun wx (h : GV wx) => kindOf_no hlt wx h
  have RO := fun wx => Lib.hid (rkindOf_no hlt wx)
  clear hlt hw hk
  go_enter Tryz.func4, Tryz.ntmps4
  go_upto_region 5 with (go_at_call 10; (refine Calls.mono AW.out ?_); rintro e w1 ⟨rfl, hb1⟩; have G1 := Lib.hid (HW.out.below hb1))
  go_upto_region 6 with (go_at_call 17; (refine Calls.mono (KN.out _ G1.out) ?_); rintro e w2 ⟨rfl, rfl⟩)
  go_upto_region 7 with (go_at_call 18; (refine Calls.mono (MB.out _ G1.out) ?_); rintro e w2 ⟨rfl, rfl⟩)
  go_upto_region 8 with (go_at_call 19; (refine Calls.mono (KO.out _ G1.out) ?_); rintro e w2 ⟨rfl, hb2⟩)
  go_upto_region 9 with (go_at_call 20; (refine Calls.mono (RO _).out ?_); rintro e w3 ⟨rfl, hb3⟩)
  have hb : Below w.heap.size w w3 := (hb1.trans (hb2.mono hb1.size)).trans (hb3.mono (Nat.le_trans hb1.size hb2.size))
  have HB := Lib.hid hb
  clear hb hb1 hb2 hb3
  go_upto_region 11 with fail
  go_upto_region 12 with (go_at_call 21; (refine Calls.mono (RK _).out ?_); rintro e w4 ⟨rfl, rfl⟩)
  go_wp2_with fail
  go_ret
  exact ⟨rfl, HB.out⟩
set_option maxHeartbeats 4000000 in
set_option maxRecDepth 100000 in
theorem law_no_yes {s : ByteArray} {a : Int} (hk : kindB a = false) {m : Nat} (hm : m < 11) (hs : nm m = s) (hlt : ∀ i, i < m → nm i ≠ s) (h40 : s.size ≤ 40) (w : World) (hw : GV w) :
    Calls Tryz.prog 4 #[.int .i64 a, .string s] w fun e w' => e = .returned (.bool true) ∧ Below w.heap.size w w' := by
  have AW := Lib.hid (awake_any w hw.laid)
  have HW := Lib.hid hw
  have KN := Lib.hid fun wx (_ : GV wx) => name_no hk wx
  have MB := Lib.hid fun wx (_ : GV wx) => members_no hk wx
  have RK := fun wx => Lib.hid (rkind_any hk wx)
  have KO := Lib.hid fun wx (h : GV wx) => kindOf_yes hm hs hlt wx h
  have RO := fun wx => Lib.hid (rkindOf_yes hm hs hlt wx)
  have hm0 : decide ((m : Int) < 0) = false := by simp
  clear hlt hw hk hs
  go_enter Tryz.func4, Tryz.ntmps4
  go_upto_region 5 with (go_at_call 10; (refine Calls.mono AW.out ?_); rintro e w1 ⟨rfl, hb1⟩; have G1 := Lib.hid (HW.out.below hb1))
  go_upto_region 6 with (go_at_call 17; (refine Calls.mono (KN.out _ G1.out) ?_); rintro e w2 ⟨rfl, rfl⟩)
  go_upto_region 7 with (go_at_call 18; (refine Calls.mono (MB.out _ G1.out) ?_); rintro e w2 ⟨rfl, rfl⟩)
  go_upto_region 8 with (go_at_call 19; (refine Calls.mono (KO.out _ G1.out) ?_); rintro e w2 ⟨rfl, hb2⟩)
  go_upto_region 9 with (go_at_call 20; (refine Calls.mono (RO _).out ?_); rintro e w3 ⟨rfl, hb3⟩)
  have hb : Below w.heap.size w w3 := (hb1.trans (hb2.mono hb1.size)).trans (hb3.mono (Nat.le_trans hb1.size hb2.size))
  have HB := Lib.hid hb
  clear hb hb1 hb2 hb3
  go_upto_region 11 with fail
  go_upto_region 12 with (go_at_call 21; (refine Calls.mono (RK _).out ?_); rintro e w4 ⟨rfl, rfl⟩)
  go_wp2_with fail
  go_ret
  exact ⟨rfl, HB.out⟩
set_option maxHeartbeats 4000000 in
set_option maxRecDepth 100000 in
theorem law_yes_yes {s : ByteArray} {k : Nat} (hk : k < 11) {m : Nat} (hm : m < 11) (hs : nm m = s) (hlt : ∀ i, i < m → nm i ≠ s) (h40 : s.size ≤ 40) (w : World) (hw : GV w) :
    Calls Tryz.prog 4 #[.int .i64 k, .string s] w fun e w' => e = .returned (.bool true) ∧ Below w.heap.size w w' := by
  have AW := Lib.hid (awake_any w hw.laid)
  have HW := Lib.hid hw
  have KN := Lib.hid fun wx (h : GV wx) => name_yes hk wx h
  have MB := Lib.hid fun wx (h : GV wx) => members_yes hk wx h
  have RK := fun wx => Lib.hid (rkind_any (kindN hk) wx)
  have RM := fun wx => Lib.hid (rmem_any hk wx)
  have NA := fun wx => Lib.hid (names_any wx)
  have hA := Lib.hid (nmA_at hk)
  have hk' : (k : Int) < 11 := by omega
  have KO := Lib.hid fun wx (h : GV wx) => kindOf_yes hm hs hlt wx h
  have RO := fun wx => Lib.hid (rkindOf_yes hm hs hlt wx)
  have hm0 : decide ((m : Int) < 0) = false := by simp
  clear hlt hw hs
  have HSE := Lib.hid (str_eq (rfl : nm k = nm k))
  generalize hx : nm k = x at *
  clear hx
  generalize mem k = n at *
  generalize nmA = A at *
  go_enter Tryz.func4, Tryz.ntmps4
  go_upto_region 5 with (go_at_call 10; (refine Calls.mono AW.out ?_); rintro e w1 ⟨rfl, hb1⟩; have G1 := Lib.hid (HW.out.below hb1))
  go_upto_region 6 with (go_at_call 17; (refine Calls.mono (KN.out _ G1.out) ?_); rintro e w2 ⟨rfl, rfl⟩)
  go_upto_region 7 with (go_at_call 18; (refine Calls.mono (MB.out _ G1.out) ?_); rintro e w2 ⟨rfl, rfl⟩)
  go_upto_region 8 with (go_at_call 19; (refine Calls.mono (KO.out _ G1.out) ?_); rintro e w2 ⟨rfl, hb2⟩)
  go_upto_region 9 with (go_at_call 20; (refine Calls.mono (RO _).out ?_); rintro e w3 ⟨rfl, hb3⟩)
  have hb : Below w.heap.size w w3 := (hb1.trans (hb2.mono hb1.size)).trans (hb3.mono (Nat.le_trans hb1.size hb2.size))
  have HB := Lib.hid hb
  clear hb hb1 hb2 hb3
  go_upto_region 11 with fail
  go_upto_region 13 with (go_at_call 21; (refine Calls.mono (RK _).out ?_); rintro e w4 ⟨rfl, rfl⟩)
  have hcell : (w3.alloc (.cells A 9)).cell? ⟨w3.heap.size, k, none⟩ = some (.string x) := by simpa [World.cell?, World.alloc, -World.alloc_eq] using hA.out
  have hq := HSE.out
  go_wp2_with (first | (go_at_call 22; (refine Calls.mono (NA _).out ?_); rintro e w5 ⟨rfl, rfl⟩) | (go_at_call 23; (refine Calls.mono (RM _).out ?_); rintro e w6 ⟨rfl, rfl⟩))
  go_ret
  exact ⟨rfl, HB.out.alloc HB.out.size _⟩
set_option maxHeartbeats 4000000 in
set_option maxRecDepth 100000 in
theorem law_yes_no {s : ByteArray} {k : Nat} (hk : k < 11) (hlt : ∀ i, i < 11 → nm i ≠ s) (h40 : s.size ≤ 40) (w : World) (hw : GV w) :
    Calls Tryz.prog 4 #[.int .i64 k, .string s] w fun e w' => e = .returned (.bool true) ∧ Below w.heap.size w w' := by
  have AW := Lib.hid (awake_any w hw.laid)
  have HW := Lib.hid hw
  have KN := Lib.hid fun wx (h : GV wx) => name_yes hk wx h
  have MB := Lib.hid fun wx (h : GV wx) => members_yes hk wx h
  have RK := fun wx => Lib.hid (rkind_any (kindN hk) wx)
  have RM := fun wx => Lib.hid (rmem_any hk wx)
  have NA := fun wx => Lib.hid (names_any wx)
  have hA := Lib.hid (nmA_at hk)
  have hk' : (k : Int) < 11 := by omega
  have KO := Lib.hid fun wx (h : GV wx) => kindOf_no hlt wx h
  have RO := fun wx => Lib.hid (rkindOf_no hlt wx)
  clear hlt hw
  have HSE := Lib.hid (str_eq (rfl : nm k = nm k))
  generalize hx : nm k = x at *
  clear hx
  generalize mem k = n at *
  generalize nmA = A at *
  go_enter Tryz.func4, Tryz.ntmps4
  go_upto_region 5 with (go_at_call 10; (refine Calls.mono AW.out ?_); rintro e w1 ⟨rfl, hb1⟩; have G1 := Lib.hid (HW.out.below hb1))
  go_upto_region 6 with (go_at_call 17; (refine Calls.mono (KN.out _ G1.out) ?_); rintro e w2 ⟨rfl, rfl⟩)
  go_upto_region 7 with (go_at_call 18; (refine Calls.mono (MB.out _ G1.out) ?_); rintro e w2 ⟨rfl, rfl⟩)
  go_upto_region 8 with (go_at_call 19; (refine Calls.mono (KO.out _ G1.out) ?_); rintro e w2 ⟨rfl, hb2⟩)
  go_upto_region 9 with (go_at_call 20; (refine Calls.mono (RO _).out ?_); rintro e w3 ⟨rfl, hb3⟩)
  have hb : Below w.heap.size w w3 := (hb1.trans (hb2.mono hb1.size)).trans (hb3.mono (Nat.le_trans hb1.size hb2.size))
  have HB := Lib.hid hb
  clear hb hb1 hb2 hb3
  go_upto_region 11 with fail
  go_upto_region 13 with (go_at_call 21; (refine Calls.mono (RK _).out ?_); rintro e w4 ⟨rfl, rfl⟩)
  have hcell : (w3.alloc (.cells A 9)).cell? ⟨w3.heap.size, k, none⟩ = some (.string x) := by simpa [World.cell?, World.alloc, -World.alloc_eq] using hA.out
  have hq := HSE.out
  go_wp2_with (first | (go_at_call 22; (refine Calls.mono (NA _).out ?_); rintro e w5 ⟨rfl, rfl⟩) | (go_at_call 23; (refine Calls.mono (RM _).out ?_); rintro e w6 ⟨rfl, rfl⟩))
  go_ret
  exact ⟨rfl, HB.out.alloc HB.out.size _⟩
set_option maxHeartbeats 4000000 in
set_option maxRecDepth 100000 in
theorem law_long {a : Int} {s : ByteArray} (h40 : 40 < s.size) (hl : s.size ≤ maxLen) (w : World) (hw : GV w) :
    Calls Tryz.prog 4 #[.int .i64 a, .string s] w fun e w' => e = .returned (.bool true) ∧ Below w.heap.size w w' := by
  have AW := Lib.hid (awake_any w hw.laid)
  clear hw
  unfold maxLen at hl
  go_enter Tryz.func4, Tryz.ntmps4
  go_wp2_with (go_at_call 10; (refine Calls.mono AW.out ?_); rintro e w1 ⟨rfl, hb1⟩)
  go_ret
  exact ⟨rfl, hb1⟩
theorem least {p : Nat → Prop} [DecidablePred p] {n : Nat} (h : ∃ k, k < n ∧ p k) : ∃ k, k < n ∧ p k ∧ ∀ i, i < k → ¬ p i := by
  induction n with
  | zero => obtain ⟨k, hk, _⟩ := h; omega
  | succ n ih =>
    by_cases h' : ∃ k, k < n ∧ p k
    · obtain ⟨k, hk, hp, hl⟩ := ih h'
      exact ⟨k, by omega, hp, hl⟩
    · obtain ⟨k, hk, hp⟩ := h
      have hkn : k = n := by
        rcases Nat.lt_or_ge k n with hlt | hge
        · exact absurd ⟨k, hlt, hp⟩ h'
        · omega
      subst hkn
      exact ⟨k, hk, hp, fun i hi hpi => h' ⟨i, hi, hpi⟩⟩
theorem law_any (a : Int) (s : ByteArray) (hl : s.size ≤ maxLen) (w : World) (hw : GV w) :
    Calls Tryz.prog 4 #[.int .i64 a, .string s] w fun e w' => e = .returned (.bool true) ∧ Below w.heap.size w w' := by
  by_cases h40 : s.size ≤ 40
  · by_cases hn : ∃ m, m < 11 ∧ nm m = s
    · obtain ⟨m, hm, hs, hlt⟩ := least hn
      cases hk : kindB a with
      | false => exact law_no_yes hk hm hs hlt h40 w hw
      | true =>
        obtain ⟨k, rfl, hk'⟩ := kind_nat hk
        exact law_yes_yes hk' hm hs hlt h40 w hw
    · have hlt : ∀ i, i < 11 → nm i ≠ s := fun i hi e => hn ⟨i, hi, e⟩
      cases hk : kindB a with
      | false => exact law_no_no hk hlt h40 w hw
      | true =>
        obtain ⟨k, rfl, hk'⟩ := kind_nat hk
        exact law_yes_no hk' hlt h40 w hw
  · exact law_long (by omega) hl w hw
end Go.Proofs.YtipfdkecodadnaaGreatDoor
