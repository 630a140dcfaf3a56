/- Walks over the joint seat: kinds, their names and members. -/
import Derived.Test.YtipfdkecodadnaaGreatDoorGV
import Derived.WalkKit
import Derived.WalkLawsBesides
import Derived.WalkSpells
import Derived.Lib.Hide
import Derived.Handy
import Derived.IntWalk
import Derived.BigQuiet
import Derived.BigRegion
import Derived.Deep.CutBlock
import Derived.Deep.CutRange
import Derived.Deep.DeepCutAuto
import Derived.Deep.RegionHeld3
import Derived.Deep.WholeRow
import Derived.Laws.Rows
import Derived.Outline
import Derived.Below
namespace Go.Proofs.YtipfdkecodadnaaGreatDoor
open Go Go.RowKit

def names : List ByteArray := [⟨#[108, 97, 112]⟩, ⟨#[98, 114, 105, 100, 108, 101]⟩, ⟨#[116, 101, 110, 111, 110]⟩, ⟨#[115, 116, 111, 112, 112, 101, 100]⟩, ⟨#[116, 111, 110, 103, 117, 101]⟩, ⟨#[100, 111, 118, 101, 116, 97, 105, 108]⟩, ⟨#[115, 99, 97, 114, 102]⟩, ⟨#[102, 105, 110, 103, 101, 114, 115]⟩, ⟨#[100, 111, 119, 101, 108, 115]⟩, ⟨#[115, 112, 108, 105, 110, 101]⟩, ⟨#[116, 104, 114, 101, 101]⟩]
def nm (k : Nat) : ByteArray := names.getD k ByteArray.empty
def mem (k : Nat) : Int := if k = 10 then 3 else 2
def lst (k : Nat) : Int := [1, 2, 4, 6, 4, 3, 3, 1, 8, 5, 5].getD k 0
def eac (k : Nat) : Int := [0, 0, 0, 0, 0, 1, 0, 1, 2, 0, 0].getD k 0
theorem small {k : Nat} (h : k < 11) : k = 0 ∨ k = 1 ∨ k = 2 ∨ k = 3 ∨ k = 4 ∨ k = 5 ∨ k = 6 ∨ k = 7 ∨ k = 8 ∨ k = 9 ∨ k = 10 := by omega
theorem gv_row {k : Nat} (h : k < 11) : gv0.extract (k * 4) (k * 4 + 4) = #[.string (nm k), .int .i64 (mem k), .int .i64 (lst k), .int .i64 (eac k)] := by
  rcases small h with rfl | rfl | rfl | rfl | rfl | rfl | rfl | rfl | rfl | rfl | rfl <;> rfl
theorem gv_size : gv0.size = 44 := rfl
theorem gv_name {k : Nat} (h : k < 11) : gv0[k * 4]? = some (.string (nm k)) := by
  rcases small h with rfl | rfl | rfl | rfl | rfl | rfl | rfl | rfl | rfl | rfl | rfl <;> rfl
theorem gv_mem {k : Nat} (h : k < 11) : gv0[k * 4 + 1]? = some (.int .i64 (mem k)) := by
  rcases small h with rfl | rfl | rfl | rfl | rfl | rfl | rfl | rfl | rfl | rfl | rfl <;> rfl
theorem GV.cell {w : World} (h : GV w) (j : Nat) : w.cell? ⟨0, j, none⟩ = gv0[j]? := by simp [World.cell?, h.g0]
theorem run_index93 {A : Array Value} (hA : gv0 = A) {k : Nat} (hk : k < 11) (w : World) :
    (Instr.index 93 (.agg A) (.int .i64 k)).run Tryz.prog w = .ok (.agg #[.string (nm k), .int .i64 (mem k), .int .i64 (lst k), .int .i64 (eac k)]) w := by
  have hx := gv_row hk
  have hs := gv_size
  rw [hA] at hx hs
  have hk' : (k : Int) < 11 := by omega
  rw [← hx]
  clear hx hA
  generalize nm k = a at *
  simp [Instr.index, run_underlying Tryz.underlying93, Result.andThen, asIntOf, go_sem, hk, hk', hs]
def kindB (a : Int) : Bool := bif decide (0 ≤ a) then decide (a < 11) else false
theorem bcell {W w1 : World} (hb : Below W.heap.size W w1) : (∀ b o, b < W.heap.size → w1.cell? ⟨b, o, none⟩ = W.cell? ⟨b, o, none⟩) ∧ (∀ b o, b < W.heap.size → w1.frozen? ⟨b, o, none⟩ = W.frozen? ⟨b, o, none⟩) :=
  ⟨fun b o h => hb.cell (p := ⟨b, o, none⟩) h, fun b o h => hb.frozen (p := ⟨b, o, none⟩) h⟩
theorem ret_bool {a b : Bool} (h : a = b) : Ending.returned (.bool a) = .returned (.bool b) := by rw [h]
theorem isKind_any {a : Int} {v : Bool} (hv : kindB a = v) (w : World) : Calls Tryz.prog 54 #[.int .i64 a] w fun e w' => e = .returned (.bool v) ∧ w = w' := by
  have HV := Lib.hid hv
  clear hv
  by_cases h0 : 0 ≤ a
  · go_enter Tryz.func54, Tryz.ntmps54
    go_wp2
    go_ret
    exact ⟨ret_bool (by rw [← HV.out]; unfold kindB; simp [h0]), rfl⟩
  · go_enter Tryz.func54, Tryz.ntmps54
    go_wp2
    go_ret
    exact ⟨ret_bool (by rw [← HV.out]; unfold kindB; rw [decide_eq_false (by omega)]; rfl), rfl⟩
def withinB (n lo hi : Int) : Bool := bif decide (lo ≤ n) then decide (n ≤ hi) else false
theorem within_any {n lo hi : Int} {v : Bool} (hv : withinB n lo hi = v) (w : World) : Calls Tryz.prog 25 #[.int .i64 n, .int .i64 lo, .int .i64 hi] w fun e w' => e = .returned (.bool v) ∧ w = w' := by
  have HV := Lib.hid hv
  clear hv
  by_cases h0 : lo ≤ n
  · go_enter Tryz.func25, Tryz.ntmps25
    go_wp2
    go_ret
    exact ⟨ret_bool (by rw [← HV.out]; unfold withinB; simp [h0]), rfl⟩
  · go_enter Tryz.func25, Tryz.ntmps25
    go_wp2
    go_ret
    exact ⟨ret_bool (by rw [← HV.out]; unfold withinB; rw [decide_eq_false (by omega)]; rfl), rfl⟩
theorem rkind_any {a : Int} {v : Bool} (hv : kindB a = v) (w : World) : Calls Tryz.prog 21 #[.int .i64 a] w fun e w' => e = .returned (.bool v) ∧ w = w' := by
  have WI := fun wx => Lib.hid (within_any (n := a) (lo := 0) (hi := 10) (v := v) (by rw [← hv]; unfold withinB kindB; congr 1; rw [decide_eq_decide]; omega) wx)
  clear hv
  go_enter Tryz.func21, Tryz.ntmps21
  go_wp2_with (go_at_call 25; (refine Calls.mono (WI _).out ?_); rintro e w' ⟨rfl, rfl⟩)
  go_ret
  exact ⟨rfl, rfl⟩
theorem kind_nat {a : Int} (h : kindB a = true) : ∃ k : Nat, a = k ∧ k < 11 := by
  unfold kindB at h
  by_cases h0 : 0 ≤ a
  · simp [h0] at h
    exact ⟨a.toNat, by omega, by omega⟩
  · simp [h0] at h
theorem kindN {k : Nat} (h : k < 11) : kindB k = true := by unfold kindB; simp; omega
theorem rmem_any {k : Nat} (hk : k < 11) (w : World) : Calls Tryz.prog 23 #[.int .i64 k] w fun e w' => e = .returned (.int .i64 (mem k)) ∧ w = w' := by
  by_cases h : k = 10
  · subst h
    go_enter Tryz.func23, Tryz.ntmps23
    go_wp2
    go_ret
    exact ⟨rfl, rfl⟩
  · have hb : ((k : Int) == 10) = false := by simp; omega
    have hm : mem k = 2 := if_neg h
    have HM := Lib.hid hm
    clear hm
    go_enter Tryz.func23, Tryz.ntmps23
    go_wp2
    go_ret
    exact ⟨by rw [HM.out]; rfl, rfl⟩
theorem members_yes {k : Nat} (hk : k < 11) (w : World) (hw : GV w) : Calls Tryz.prog 18 #[.int .i64 k] w fun e w' => e = .returned (.tuple #[.int .i64 (mem k), .int .i64 0]) ∧ w = w' := by
  have IK := fun wx => Lib.hid (isKind_any (kindN hk) wx)
  have hc : w.cell? ⟨0, k * 4 + 1, none⟩ = some (.int .i64 (mem k)) := (hw.cell _).trans (gv_mem hk)
  have hk' : (k : Int) < 11 := by omega
  generalize mem k = m at hc ⊢
  clear hw
  go_enter Tryz.func18, Tryz.ntmps18
  go_wp2_with (go_at_call 54; (refine Calls.mono (IK _).out ?_); rintro e w' ⟨rfl, rfl⟩)
  go_ret2
  exact ⟨rfl, rfl⟩
theorem members_no {a : Int} (ha : kindB a = false) (w : World) : Calls Tryz.prog 18 #[.int .i64 a] w fun e w' => e = .returned (.tuple #[.int .i64 0, .int .i64 17]) ∧ w = w' := by
  have IK := fun wx => Lib.hid (isKind_any ha wx)
  clear ha
  go_enter Tryz.func18, Tryz.ntmps18
  go_wp2_with (go_at_call 54; (refine Calls.mono (IK _).out ?_); rintro e w' ⟨rfl, rfl⟩)
  go_ret2
  exact ⟨rfl, rfl⟩
theorem name_yes {k : Nat} (hk : k < 11) (w : World) (hw : GV w) : Calls Tryz.prog 17 #[.int .i64 k] w fun e w' => e = .returned (.tuple #[.string (nm k), .int .i64 0]) ∧ w = w' := by
  have IK := fun wx => Lib.hid (isKind_any (kindN hk) wx)
  have hc : w.cell? ⟨0, k * 4, none⟩ = some (.string (nm k)) := (hw.cell _).trans (gv_name hk)
  have hk' : (k : Int) < 11 := by omega
  generalize nm k = m at hc ⊢
  clear hw
  go_enter Tryz.func17, Tryz.ntmps17
  go_wp2_with (go_at_call 54; (refine Calls.mono (IK _).out ?_); rintro e w' ⟨rfl, rfl⟩)
  go_ret2
  exact ⟨rfl, rfl⟩
theorem name_no {a : Int} (ha : kindB a = false) (w : World) : Calls Tryz.prog 17 #[.int .i64 a] w fun e w' => e = .returned (.tuple #[.string ByteArray.empty, .int .i64 17]) ∧ w = w' := by
  have IK := fun wx => Lib.hid (isKind_any ha wx)
  clear ha
  go_enter Tryz.func17, Tryz.ntmps17
  go_wp2_with (go_at_call 54; (refine Calls.mono (IK _).out ?_); rintro e w' ⟨rfl, rfl⟩)
  go_ret2
  exact ⟨rfl, rfl⟩
end Go.Proofs.YtipfdkecodadnaaGreatDoor
