/- Walks over the solid seat: turns, what is a turn. -/
import Derived.Test.YtcboppdjjpeeoaaGreatRows
import Derived.Test.YtcboppdjjpeeoaaGreatQ1
import Derived.Test.YtcboppdjjpeeoaaGreatAwake
import Derived.WalkKit
import Derived.WalkSpells
import Derived.WalkLawsBesides
import Derived.Lib.Hide
import Derived.Handy
import Derived.BigQuiet
import Derived.BigRegion
import Derived.Deep.RegionHeld3
import Derived.IntWalk
namespace Go.Proofs.YtcboppdjjpeeoaaGreat
open Go.RowKit Go.Ax

theorem bcell {W w1 : World} (hb : Below W.heap.size W w1) : (∀ b o, b < W.heap.size → w1.cell? ⟨b, o, none⟩ = W.cell? ⟨b, o, none⟩) ∧ (∀ b o, b < W.heap.size → w1.frozen? ⟨b, o, none⟩ = W.frozen? ⟨b, o, none⟩) :=
  ⟨fun b o h => hb.cell (p := ⟨b, o, none⟩) h, fun b o h => hb.frozen (p := ⟨b, o, none⟩) h⟩
theorem ret_bool {a b : Bool} (h : a = b) : Ending.returned (.bool a) = .returned (.bool b) := by rw [h]
theorem ret_int {k : IntKind} {a b : Int} (h : a = b) : Ending.returned (.int k a) = .returned (.int k b) := by rw [h]

def turnB (a : Int) : Bool := bif decide (0 ≤ a) then decide (a < 48) else false
theorem isTurn_any {a : Int} {v : Bool} (hv : turnB a = v) (w : World) : Calls Tryz.prog 74 #[.int .i64 a] w fun e w' => e = .returned (.bool v) ∧ w = w' := by
  have HV := Lib.hid hv
  clear hv
  by_cases h0 : 0 ≤ a
  · by_cases h1 : a < 48
    all_goals
      go_enter Tryz.func74, Tryz.ntmps74
      go_wp2
      go_ret
      exact ⟨ret_bool (by rw [← HV.out]; unfold turnB; simp [h0, h1]), rfl⟩
  · go_enter Tryz.func74, Tryz.ntmps74
    go_wp2
    go_ret
    exact ⟨ret_bool (by rw [← HV.out]; unfold turnB; simp; omega), rfl⟩
def withinB (n lo hi : Int) : Bool := bif decide (lo ≤ n) then decide (n ≤ hi) else false
theorem rwithin_any {n lo hi : Int} {v : Bool} (hv : withinB n lo hi = v) (w : World) : Calls Tryz.prog 51 #[.int .i64 n, .int .i64 lo, .int .i64 hi] w fun e w' => e = .returned (.bool v) ∧ w = w' := by
  have HV := Lib.hid hv
  clear hv
  by_cases h0 : lo ≤ n
  · by_cases h1 : n ≤ hi
    all_goals
      go_enter Tryz.func51, Tryz.ntmps51
      go_wp2
      go_ret
      exact ⟨ret_bool (by rw [← HV.out]; unfold withinB; simp [h0, h1]), rfl⟩
  · go_enter Tryz.func51, Tryz.ntmps51
    go_wp2
    go_ret
    exact ⟨ret_bool (by rw [← HV.out]; unfold withinB; simp; omega), rfl⟩
theorem rturn_any {a : Int} {v : Bool} (hv : turnB a = v) (w : World) : Calls Tryz.prog 36 #[.int .i64 a] w fun e w' => e = .returned (.bool v) ∧ w = w' := by
  have WI := fun wx => Lib.hid (rwithin_any (n := a) (lo := 0) (hi := 47) (v := v) (by rw [← hv]; unfold withinB turnB; congr 1; rw [decide_eq_decide]; omega) wx)
  clear hv
  go_enter Tryz.func36, Tryz.ntmps36
  go_wp2_with (go_at_call 51; (refine Calls.mono (WI _).out ?_); rintro e w' ⟨rfl, rfl⟩)
  go_ret
  exact ⟨rfl, rfl⟩

noncomputable section
def outIs (v : AV) (r : Option (Out × St)) : Bool := match r with | some (.val u, _) => eqV u v | _ => false
set_option maxRecDepth 100000 in
theorem turns_run : outIs (.one (.agg (tabI.map (Sc.int .i64)))) (execF Tryz.prog [] 100000 (.call 75 []) { h := .leaf, n := 0, lo := big }) = true := by kernel_rfl
theorem outIs_of {v : AV} {r : Option (Out × St)} (h : outIs v r = true) : ∃ s, r = some (.val v, s) := by
  unfold outIs at h
  split at h
  · rename_i u s
    rw [eqV_eq h]; exact ⟨s, rfl⟩
  · cases h
end
theorem ints_is {p : Pl} {n : Nat} : ∀ {l : List Int} {us : List Value}, ScL.is p n (l.map (Sc.int .i64)) us → us = l.map (Value.int .i64)
  | [], [], _ => rfl
  | x :: t, v :: u, h => by
    obtain ⟨h1, h2⟩ := h
    rw [ints_is h2, show v = Value.int .i64 x from h1]; rfl
  | [], _ :: _, h => h.elim
  | _ :: _, [], h => h.elim
theorem turns_any (w : World) : Calls Tryz.prog 75 #[] w fun e w' => e = .returned (.agg (tabI.map (Value.int .i64)).toArray) ∧ Below w.heap.size w w' := by
  obtain ⟨s, hs⟩ := outIs_of turns_run
  refine (calls_of_execF (es := []) entNone hs w).mono ?_
  rintro e w' ⟨q, u, rfl, hu, _, h1, h2, h3, h4, h5⟩
  obtain ⟨cs, rfl, hc⟩ := hu
  have := ints_is hc
  refine ⟨?_, ⟨h3, h4, h5, h1, h2⟩⟩
  rw [← this]
end Go.Proofs.YtcboppdjjpeeoaaGreat
