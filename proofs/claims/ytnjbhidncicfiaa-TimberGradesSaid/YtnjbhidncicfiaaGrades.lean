/- TimberGrades (chapter 2): for every board and every list of grades the law returns true, and its arguments read behind the call as before. No condition. -/
import Derived.Test.YtnjbhidncicfiaaRows
import Derived.Test.YtnjbhidncicfiaaH6
import Derived.Test.YtnjbhidncicfiaaO4
import Derived.Test.YtnjbhidncicfiaaO6
import Derived.Test.YtnjbhidncicfiaaFacts
import Derived.WalkKit
import Derived.ProofKit
import Derived.OpenShut
import Derived.ShutString
import Derived.ChangeOld
import Derived.Below
import Derived.Lib.SmallJoins
namespace Go.Proofs.Ytnjbhidncicfiaa
open Go.ChangeShapes Go.WideShapes Go.ChangeAt Go.RowKit Go.Joins


set_option maxRecDepth 100000 in
theorem timberGrades_lifted (os : Os) (started : os.Started) (H : Type) (enc : TypeId × Value → H) :
    ReturnsInHanded {} Try.checked os 13 .any (Rows.timberGradesSpec.pre6 enc Try.prog Try.f13 Rows.timberGradesRow.domain false) (Rows.timberGradesSpec.post enc Try.prog Try.f13 false true false false) := by
  refine returnsInHanded_of_change (C := Try.checked) own started (by kernel_rfl) Try.func13
    (ChangeSpec.witness6 (enc := enc) (C := Try.checked) false ⟨#[], #[.agg #[.string ByteArray.empty, .string ByteArray.empty, .int .i64 0, .int .i64 0, .int .i64 0, .int .i64 0, .int .i64 0, .slice none 0 0], .slice none 0 0], []⟩ 8 (by kernel_rfl) (by kernel_rfl) (by kernel_rfl) (by kernel_rfl)) ?_
  intro W base args ds gs before hval0 hW hcnd _
  have hval : ∀ (j : Nat) t v, Try.f13.params[j]? = some t → args[j]? = some v → Value.okWide Try.prog W .any base t v := hval0
  have hW' := hW
  obtain ⟨p, q, hA0, hV, rfl, hfz, hnd⟩ := hW
  have hA : DataW.TrodAll enc Try.prog W 0 (fun _ => true) true Try.f13.params.toList args.toList ds p := hA0
  rw [Try.params13] at hA hval
  obtain ⟨v0, v1, d0, d1, p0, p1, rfl, rfl, rfl, h0, h1⟩ := trodAll_two hA
  obtain ⟨rfl, rfl⟩ := trodVars_none hV
  have k0 := h0
  have lt0 : ∀ x ∈ p0, x.block < W.heap.size := by obtain ⟨m, hm⟩ := k0; exact DataW.trod_lt m _ _ _ hm
  have k1 := h1
  have lt1 : ∀ x ∈ p1, x.block < W.heap.size := by obtain ⟨m, hm⟩ := k1; exact DataW.trod_lt m _ _ _ hm
  obtain ⟨bd0, A0, n0, cp0, rfl, bn0, row0⟩ := open_board (hval 0 34 v0 rfl rfl) h0
  obtain ⟨A1, n1, cp1, xs1, rfl, ln1, row1⟩ := open_grades (hval 1 94 v1 rfl rfl) h1
  clear hA0 hval0
  refine (grades_law bd0 A0 n0 cp0 A1 n1 cp1 xs1 bn0 ln1 W row0 row1).mono fun e W' ⟨he, bel⟩ => ?_
  subst he
  exact ⟨_, rfl, _, _, _, [], _, [], hW', trodAll_mk1 (shut_bool Try.underlying4 _), trodAll_mk2 (Below.trod laidOut (by kernel_rfl) (of_decide_eq_true (by kernel_rfl)) k0 bel lt0) (Below.trod laidOut (by kernel_rfl) (of_decide_eq_true (by kernel_rfl)) k1 bel lt1), rfl, bel.frame _, fun h => by cases h⟩

theorem timberGrades_place : (Rows.timberGradesRow.inPlace == Try.pinned.checked.prog.inPlace 13) = true := by kernel_rfl
theorem timberGrades_unfollowed : (Rows.timberGradesRow.unfollowed == Try.pinned.checked.prog.unfollowed 13) = true := by kernel_rfl
theorem timberGrades_recurses : (Rows.timberGradesRow.recurses == Try.pinned.checked.prog.recurses 13) = true := by kernel_rfl
theorem timberGrades_vars : (Rows.timberGradesRow.named == Try.pinned.checked.prog.varsNamed 13) = true := by kernel_rfl
theorem timberGrades_facts : joinedFacts Try.pinned.checked.prog 13 Try.f13 Rows.timberGradesSpec Rows.timberGradesRow = true := by
  unfold joinedFacts
  rw [timberGrades_place, timberGrades_unfollowed, timberGrades_recurses, timberGrades_vars, laidOut', mapsRow, heads.1, show (Rows.timberGradesRow.lifted == Try.pinned.checked.prog.liftsFinal) = true from heads.2.1, show (Try.pinned.checked.prog.make == some Rows.timberGradesRow.make) = true from heads.2.2]
  kernel_rfl
theorem timberGrades_func : Try.pinned.checked.prog.funcNamed Rows.timberGradesRow.func = some 13 := by kernel_rfl
theorem timberGrades_inst : Try.f13.isInstance Try.pinned.checked.prog Rows.timberGradesRow.origin Rows.timberGradesRow.targs := of_decide_eq_true (by kernel_rfl)
theorem timberGrades_wrap : Try.f13.isWrapper Try.pinned.checked.prog Rows.timberGradesRow.wrapper Rows.timberGradesRow.mainSum := by
  unfold Func.isWrapper
  first | (rw [if_pos (by decide +kernel)]; kernel_rfl) | (rw [if_neg (by decide +kernel)]; exact ⟨rfl, rfl⟩)
theorem timberGrades_holds : Rows.TimberGradesSaid :=
  OpenClaim.holds_of_wide 13 Try.f13 rfl rfl rfl rfl rfl rfl rfl ⟨rfl, rfl, rfl, rfl, rfl⟩ rfl rfl rfl rfl rfl timberGrades_func Try.func13 timberGrades_facts timberGrades_inst timberGrades_wrap
    (fun os started H enc _ => timberGrades_lifted os started H enc)
#print axioms timberGrades_holds
end Go.Proofs.Ytnjbhidncicfiaa
