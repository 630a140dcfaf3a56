/- TimberDefects (chapter 2): for every board and every rectangle the law returns true, and its arguments read behind the call as before. No condition. -/
import Derived.Test.YtnjbhidncicfiaaRows
import Derived.Test.YtnjbhidncicfiaaF6
import Derived.Test.YtnjbhidncicfiaaO4
import Derived.Test.YtnjbhidncicfiaaFacts
import Derived.WalkKit
import Derived.ProofKit
import Derived.OpenShut
import Derived.ShutString
import Derived.ChangeOld
import Derived.Below
import Derived.Lib.SmallJoins
namespace Go.Proofs.Ytnjbhidncicfiaa
open Go.ChangeShapes Go.WideShapes Go.ChangeAt Go.RowKit Go.Joins
theorem cells75 : Try.prog.cellsOf 75 = 4 := by kernel_rfl

set_option maxRecDepth 100000 in
theorem timberDefects_lifted (os : Os) (started : os.Started) (H : Type) (enc : TypeId × Value → H) :
    ReturnsInHanded {} Try.checked os 10 .any (Rows.timberDefectsSpec.pre6 enc Try.prog Try.f10 Rows.timberDefectsRow.domain false) (Rows.timberDefectsSpec.post enc Try.prog Try.f10 false true false false) := by
  refine returnsInHanded_of_change (C := Try.checked) own started (by kernel_rfl) Try.func10
    (ChangeSpec.witness6 (enc := enc) (C := Try.checked) false ⟨#[], #[.agg #[.string ByteArray.empty, .string ByteArray.empty, .int .i64 0, .int .i64 0, .int .i64 0, .int .i64 0, .int .i64 0, .slice none 0 0], .agg #[.int .i64 0, .int .i64 0, .int .i64 0, .int .i64 0]], []⟩ 8 (by kernel_rfl) (by kernel_rfl) (by kernel_rfl) (by kernel_rfl)) ?_
  intro W base args ds gs before hval0 hW hcnd _
  have hval : ∀ (j : Nat) t v, Try.f10.params[j]? = some t → args[j]? = some v → Value.okWide Try.prog W .any base t v := hval0
  have hW' := hW
  obtain ⟨p, q, hA0, hV, rfl, hfz, hnd⟩ := hW
  have hA : DataW.TrodAll enc Try.prog W 0 (fun _ => true) true Try.f10.params.toList args.toList ds p := hA0
  rw [Try.params10] at hA hval
  obtain ⟨v0, v1, d0, d1, p0, p1, rfl, rfl, rfl, h0, h1⟩ := trodAll_two hA
  obtain ⟨rfl, rfl⟩ := trodVars_none hV
  have k0 := h0
  have lt0 : ∀ x ∈ p0, x.block < W.heap.size := by obtain ⟨m, hm⟩ := k0; exact DataW.trod_lt m _ _ _ hm
  have k1 := h1
  have lt1 : ∀ x ∈ p1, x.block < W.heap.size := by obtain ⟨m, hm⟩ := k1; exact DataW.trod_lt m _ _ _ hm
  obtain ⟨bd0, A0, n0, cp0, rfl, bn0, row0⟩ := open_board (hval 0 34 v0 rfl rfl) h0
  obtain ⟨c10, c11, c12, c13, y10, y11, y12, y13, m1, rfl, -, -, hy10, hy11, hy12, hy13⟩ := open_agg4 Try.underlying75 (by kernel_rfl) cells75 (hval 1 75 v1 rfl rfl) h1
  obtain ⟨b10, e10, -, -⟩ := DataW.trod_int Try.underlying3 hy10
  obtain ⟨b11, e11, -, -⟩ := DataW.trod_int Try.underlying3 hy11
  obtain ⟨b12, e12, -, -⟩ := DataW.trod_int Try.underlying3 hy12
  obtain ⟨b13, e13, -, -⟩ := DataW.trod_int Try.underlying3 hy13
  simp at e10 e11 e12 e13; subst e10 e11 e12 e13
  clear hA0 hval0
  refine (ldef_law bd0 A0 n0 cp0 b10 b11 b12 b13 bn0 W row0).mono fun e W' ⟨he, bel⟩ => ?_
  subst he
  exact ⟨_, rfl, _, _, _, [], _, [], hW', trodAll_mk1 (shut_bool Try.underlying4 _), trodAll_mk2 (Below.trod laidOut (by kernel_rfl) (of_decide_eq_true (by kernel_rfl)) k0 bel lt0) (Below.trod laidOut (by kernel_rfl) (of_decide_eq_true (by kernel_rfl)) k1 bel lt1), rfl, bel.frame _, fun h => by cases h⟩

theorem timberDefects_place : (Rows.timberDefectsRow.inPlace == Try.pinned.checked.prog.inPlace 10) = true := by kernel_rfl
theorem timberDefects_unfollowed : (Rows.timberDefectsRow.unfollowed == Try.pinned.checked.prog.unfollowed 10) = true := by kernel_rfl
theorem timberDefects_recurses : (Rows.timberDefectsRow.recurses == Try.pinned.checked.prog.recurses 10) = true := by kernel_rfl
theorem timberDefects_vars : (Rows.timberDefectsRow.named == Try.pinned.checked.prog.varsNamed 10) = true := by kernel_rfl
theorem timberDefects_facts : joinedFacts Try.pinned.checked.prog 10 Try.f10 Rows.timberDefectsSpec Rows.timberDefectsRow = true := by
  unfold joinedFacts
  rw [timberDefects_place, timberDefects_unfollowed, timberDefects_recurses, timberDefects_vars, laidOut', mapsRow, heads.1, show (Rows.timberDefectsRow.lifted == Try.pinned.checked.prog.liftsFinal) = true from heads.2.1, show (Try.pinned.checked.prog.make == some Rows.timberDefectsRow.make) = true from heads.2.2]
  kernel_rfl
theorem timberDefects_func : Try.pinned.checked.prog.funcNamed Rows.timberDefectsRow.func = some 10 := by kernel_rfl
theorem timberDefects_inst : Try.f10.isInstance Try.pinned.checked.prog Rows.timberDefectsRow.origin Rows.timberDefectsRow.targs := of_decide_eq_true (by kernel_rfl)
theorem timberDefects_wrap : Try.f10.isWrapper Try.pinned.checked.prog Rows.timberDefectsRow.wrapper Rows.timberDefectsRow.mainSum := by
  unfold Func.isWrapper
  first | (rw [if_pos (by decide +kernel)]; kernel_rfl) | (rw [if_neg (by decide +kernel)]; exact ⟨rfl, rfl⟩)
theorem timberDefects_holds : Rows.TimberDefectsSaid :=
  OpenClaim.holds_of_wide 10 Try.f10 rfl rfl rfl rfl rfl rfl rfl ⟨rfl, rfl, rfl, rfl, rfl⟩ rfl rfl rfl rfl rfl timberDefects_func Try.func10 timberDefects_facts timberDefects_inst timberDefects_wrap
    (fun os started H enc _ => timberDefects_lifted os started H enc)
#print axioms timberDefects_holds
end Go.Proofs.Ytnjbhidncicfiaa
