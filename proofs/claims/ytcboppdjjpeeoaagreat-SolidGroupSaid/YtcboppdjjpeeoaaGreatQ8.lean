/- Walks over the solid seat: a wrong turn; what is far. -/
import Derived.Test.YtcboppdjjpeeoaaGreatQ7
namespace Go.Proofs.YtcboppdjjpeeoaaGreat
open Go.RowKit

set_option maxHeartbeats 4000000 in
set_option maxRecDepth 20000 in
theorem both_bad1 {a b : Int} (ha : turnB a = false) (w : World) :
    Calls Tryz.prog 37 #[.int .i64 a, .int .i64 b] w fun e w' => e = .returned (.tuple #[.int .i64 0, .int .i64 2]) ∧ w = w' := by
  have IA := fun wx => Lib.hid (isTurn_any (a := a) ha wx)
  clear ha
  go_enter Tryz.func37, Tryz.ntmps37
  go_wp2_with (first | (go_at_call 74; (refine Calls.mono (IA _).out ?_; rintro e w1 ⟨rfl, rfl⟩)))
  refine bodyPost_ret (by simp [results, Tryz.results37, go_sem]) rfl ⟨rfl, rfl⟩
set_option maxHeartbeats 4000000 in
set_option maxRecDepth 20000 in
theorem both_bad2 {a b : Int} (ha : turnB a = true) (hb : turnB b = false) (w : World) :
    Calls Tryz.prog 37 #[.int .i64 a, .int .i64 b] w fun e w' => e = .returned (.tuple #[.int .i64 0, .int .i64 2]) ∧ w = w' := by
  have IA := fun wx => Lib.hid (isTurn_any (a := a) ha wx)
  have IB := fun wx => Lib.hid (isTurn_any (a := b) hb wx)
  clear ha hb
  go_enter Tryz.func37, Tryz.ntmps37
  go_wp2_with (first | (go_at_call 74; (first | (refine Calls.mono (IA _).out ?_; rintro e w1 ⟨rfl, rfl⟩) | (refine Calls.mono (IB _).out ?_; rintro e w1 ⟨rfl, rfl⟩))))
  refine bodyPost_ret (by simp [results, Tryz.results37, go_sem]) rfl ⟨rfl, rfl⟩
theorem run_index96 (x y z i v : Int) (h : (i = 0 ∧ v = x) ∨ (i = 1 ∧ v = y) ∨ (i = 2 ∧ v = z)) (w : World) :
    (Instr.index 96 (.agg #[.int .i64 x, .int .i64 y, .int .i64 z]) (.int .i64 i)).run Tryz.prog w = .ok (.int .i64 v) w := by
  rcases h with ⟨rfl, rfl⟩ | ⟨rfl, rfl⟩ | ⟨rfl, rfl⟩
  all_goals
    simp [Instr.index, run_underlying Tryz.underlying96, Result.andThen, asIntOf, go_sem]
/-- Near: each within 600000. -/
def nearB (x y z : Int) : Bool := withinB x (-600000) 600000 && (withinB y (-600000) 600000 && withinB z (-600000) 600000)
theorem within_iff {n lo hi : Int} : withinB n lo hi = true ↔ lo ≤ n ∧ n ≤ hi := by
  unfold withinB
  by_cases h : lo ≤ n <;> simp [h]
theorem near_iff {x y z : Int} : nearB x y z = true ↔ (-600000 ≤ x ∧ x ≤ 600000) ∧ (-600000 ≤ y ∧ y ≤ 600000) ∧ (-600000 ≤ z ∧ z ≤ 600000) := by
  unfold nearB
  rw [Bool.and_eq_true, Bool.and_eq_true, within_iff, within_iff, within_iff]
theorem near_of {x y z : Int} (h : nearB x y z = true) : (-600000 ≤ x ∧ x ≤ 600000) ∧ (-600000 ≤ y ∧ y ≤ 600000) ∧ (-600000 ≤ z ∧ z ≤ 600000) := near_iff.1 h
set_option maxHeartbeats 4000000 in
set_option maxRecDepth 20000 in
theorem far_any {x y z : Int} (w : World) :
    Calls Tryz.prog 38 #[.agg #[.int .i64 x, .int .i64 y, .int .i64 z]] w fun e w' => e = .returned (.bool (!(nearB x y z))) ∧ Below w.heap.size w w' := by
  have hBL : Below w.heap.size w (w.alloc (.cells #[.int .i64 x, .int .i64 y, .int .i64 z] 76)) := (Below.refl _ _).alloc (Nat.le_refl _) _
  obtain ⟨a, ha⟩ : ∃ a, withinB x (-600000) 600000 = a := ⟨_, rfl⟩
  obtain ⟨b, hb⟩ : ∃ b, withinB y (-600000) 600000 = b := ⟨_, rfl⟩
  obtain ⟨c, hc⟩ : ∃ c, withinB z (-600000) 600000 = c := ⟨_, rfl⟩
  have hv : (!(nearB x y z)) = (!(a && (b && c))) := by unfold nearB; rw [ha, hb, hc]
  rw [hv]
  have HB := Lib.hid hBL
  have X := fun wx => Lib.hid (rwithin_any ha wx)
  have Y := fun wx => Lib.hid (rwithin_any hb wx)
  have Z := fun wx => Lib.hid (rwithin_any hc wx)
  clear ha hb hc hv hBL
  cases a
  · go_enter Tryz.func38, Tryz.ntmps38
    go_wp2
    refine wp_loop_rounds 4 ?_
    rw [rounds_succ]
    go_wp2_with (go_at_call 51; (refine Calls.mono (X _).out ?_; rintro e w1 ⟨rfl, rfl⟩))
    go_ret
    exact ⟨rfl, HB.out⟩
  cases b
  · go_enter Tryz.func38, Tryz.ntmps38
    go_wp2
    refine wp_loop_rounds 4 ?_
    rw [rounds_succ]
    go_wp2_with (go_at_call 51; (refine Calls.mono (X _).out ?_; rintro e w1 ⟨rfl, rfl⟩))
    rw [rounds_succ]
    go_wp2_with (go_at_call 51; (refine Calls.mono (Y _).out ?_; rintro e w1 ⟨rfl, rfl⟩))
    go_ret
    exact ⟨rfl, HB.out⟩
  cases c
  · go_enter Tryz.func38, Tryz.ntmps38
    go_wp2
    refine wp_loop_rounds 4 ?_
    rw [rounds_succ]
    go_wp2_with (go_at_call 51; (refine Calls.mono (X _).out ?_; rintro e w1 ⟨rfl, rfl⟩))
    rw [rounds_succ]
    go_wp2_with (go_at_call 51; (refine Calls.mono (Y _).out ?_; rintro e w1 ⟨rfl, rfl⟩))
    rw [rounds_succ]
    go_wp2_with (go_at_call 51; (refine Calls.mono (Z _).out ?_; rintro e w1 ⟨rfl, rfl⟩))
    go_ret
    exact ⟨rfl, HB.out⟩
  · go_enter Tryz.func38, Tryz.ntmps38
    go_wp2
    refine wp_loop_rounds 4 ?_
    rw [rounds_succ]
    go_wp2_with (go_at_call 51; (refine Calls.mono (X _).out ?_; rintro e w1 ⟨rfl, rfl⟩))
    rw [rounds_succ]
    go_wp2_with (go_at_call 51; (refine Calls.mono (Y _).out ?_; rintro e w1 ⟨rfl, rfl⟩))
    rw [rounds_succ]
    go_wp2_with (go_at_call 51; (refine Calls.mono (Z _).out ?_; rintro e w1 ⟨rfl, rfl⟩))
    rw [rounds_succ]
    go_wp2
    go_ret
    exact ⟨rfl, HB.out⟩
set_option maxHeartbeats 4000000 in
set_option maxRecDepth 20000 in
theorem within_near {x y z : Int} (h : nearB x y z = true) (w : World) :
    Calls Tryz.prog 50 #[.agg #[.int .i64 x, .int .i64 y, .int .i64 z], .int .i64 600000] w fun e w' => e = .returned (.bool true) ∧ Below w.heap.size w w' := by
  have HB := Lib.hid (show Below w.heap.size w (w.alloc (.cells #[.int .i64 x, .int .i64 y, .int .i64 z] 96)) from (Below.refl _ _).alloc (Nat.le_refl _) _)
  obtain ⟨⟨x0, x1⟩, ⟨y0, y1⟩, ⟨z0, z1⟩⟩ := near_of h
  have a0 : ¬ x < -600000 := by omega
  have a1 : ¬ 600000 < x := by omega
  have b0 : ¬ y < -600000 := by omega
  have b1 : ¬ 600000 < y := by omega
  have c0 : ¬ z < -600000 := by omega
  have c1 : ¬ 600000 < z := by omega
  have hix := run_index96 x y z _ _ (.inl ⟨rfl, rfl⟩)
  have hiy := run_index96 x y z _ _ (.inr (.inl ⟨rfl, rfl⟩))
  have hiz := run_index96 x y z _ _ (.inr (.inr ⟨rfl, rfl⟩))
  clear h x0 x1 y0 y1 z0 z1
  go_enter Tryz.func50, Tryz.ntmps50
  go_wp2
  refine wp_loop_rounds 4 ?_
  rw [rounds_succ]
  go_wp2
  rw [rounds_succ]
  go_wp2
  rw [rounds_succ]
  go_wp2
  rw [rounds_succ]
  go_wp2
  go_ret
  exact ⟨rfl, HB.out⟩
end Go.Proofs.YtcboppdjjpeeoaaGreat
