/- TimberDries (chapter 2): for every moisture, target, rate, number of days and nearness the law returns true, and its arguments read behind the call as before. No condition. -/
import Derived.Test.YtnjbhidncicfiaaRows
import Derived.Test.YtnjbhidncicfiaaWB
import Derived.Test.YtnjbhidncicfiaaFacts
import Derived.WalkKit
import Derived.ProofKit
import Derived.OpenShut
import Derived.ShutString
import Derived.ChangeOld
import Derived.Below
import Derived.Lib.SmallJoins
namespace Go.Proofs.Ytnjbhidncicfiaa
open Go.ChangeShapes Go.WideShapes Go.ChangeAt Go.RowKit Go.Joins
theorem cells110 : Try.prog.cellsOf 110 = 3 := by kernel_rfl

set_option maxRecDepth 100000 in
theorem timberDries_lifted (os : Os) (started : os.Started) (H : Type) (enc : TypeId × Value → H) :
    ReturnsInHanded {} Try.checked os 16 .any (Rows.timberDriesSpec.pre6 enc Try.prog Try.f16 Rows.timberDriesRow.domain false) (Rows.timberDriesSpec.post enc Try.prog Try.f16 false true false false) := by
  refine returnsInHanded_of_change (C := Try.checked) own started (by kernel_rfl) Try.func16
    (ChangeSpec.witness6 (enc := enc) (C := Try.checked) false ⟨#[], #[.int .i64 0, .int .i64 0, .agg #[.int .i64 0, .int .i64 0, .int .i64 0]], []⟩ 8 (by kernel_rfl) (by kernel_rfl) (by kernel_rfl) (by kernel_rfl)) ?_
  intro W base args ds gs before hval0 hW hcnd _
  have hval : ∀ (j : Nat) t v, Try.f16.params[j]? = some t → args[j]? = some v → Value.okWide Try.prog W .any base t v := hval0
  have hW' := hW
  obtain ⟨p, q, hA0, hV, rfl, hfz, hnd⟩ := hW
  have hA : DataW.TrodAll enc Try.prog W 0 (fun _ => true) true Try.f16.params.toList args.toList ds p := hA0
  rw [Try.params16] at hA hval
  obtain ⟨v0, v1, v2, d0, d1, d2, p0, p1, p2, rfl, rfl, rfl, h0, h1, h2⟩ := trodAll_three hA
  obtain ⟨rfl, rfl⟩ := trodVars_none hV
  have k0 := h0
  have lt0 : ∀ x ∈ p0, x.block < W.heap.size := by obtain ⟨m, hm⟩ := k0; exact DataW.trod_lt m _ _ _ hm
  have k1 := h1
  have lt1 : ∀ x ∈ p1, x.block < W.heap.size := by obtain ⟨m, hm⟩ := k1; exact DataW.trod_lt m _ _ _ hm
  have k2 := h2
  have lt2 : ∀ x ∈ p2, x.block < W.heap.size := by obtain ⟨m, hm⟩ := k2; exact DataW.trod_lt m _ _ _ hm
  obtain ⟨a0, rfl, -, -, wf0⟩ := open_int Try.underlying3 (hval 0 3 v0 rfl rfl) h0
  obtain ⟨a1, rfl, -, -, wf1⟩ := open_int Try.underlying3 (hval 1 3 v1 rfl rfl) h1
  obtain ⟨c20, c21, c22, y20, y21, y22, m2, rfl, -, -, hy20, hy21, hy22⟩ := open_agg3 Try.underlying110 (by kernel_rfl) cells110 (hval 2 110 v2 rfl rfl) h2
  obtain ⟨b20, e20, -, -⟩ := DataW.trod_int Try.underlying3 hy20
  obtain ⟨b21, e21, -, -⟩ := DataW.trod_int Try.underlying3 hy21
  obtain ⟨b22, e22, -, -⟩ := DataW.trod_int Try.underlying3 hy22
  simp at e20 e21 e22; subst e20 e21 e22
  clear hA0 hval0
  refine (dries_any a0 a1 b20 b21 b22 W).mono fun e W' ⟨he, bel⟩ => ?_
  subst he
  exact ⟨_, rfl, _, _, _, [], _, [], hW', trodAll_mk1 (shut_bool Try.underlying4 _), trodAll_mk3 (Below.trod laidOut (by kernel_rfl) (of_decide_eq_true (by kernel_rfl)) k0 bel lt0) (Below.trod laidOut (by kernel_rfl) (of_decide_eq_true (by kernel_rfl)) k1 bel lt1) (Below.trod laidOut (by kernel_rfl) (of_decide_eq_true (by kernel_rfl)) k2 bel lt2), rfl, bel.frame _, fun h => by cases h⟩

theorem timberDries_place : (Rows.timberDriesRow.inPlace == Try.pinned.checked.prog.inPlace 16) = true := by kernel_rfl
theorem timberDries_unfollowed : (Rows.timberDriesRow.unfollowed == Try.pinned.checked.prog.unfollowed 16) = true := by kernel_rfl
theorem timberDries_recurses : (Rows.timberDriesRow.recurses == Try.pinned.checked.prog.recurses 16) = true := by kernel_rfl
theorem timberDries_vars : (Rows.timberDriesRow.named == Try.pinned.checked.prog.varsNamed 16) = true := by kernel_rfl
theorem timberDries_facts : joinedFacts Try.pinned.checked.prog 16 Try.f16 Rows.timberDriesSpec Rows.timberDriesRow = true := by
  unfold joinedFacts
  rw [timberDries_place, timberDries_unfollowed, timberDries_recurses, timberDries_vars, laidOut', mapsRow, heads.1, show (Rows.timberDriesRow.lifted == Try.pinned.checked.prog.liftsFinal) = true from heads.2.1, show (Try.pinned.checked.prog.make == some Rows.timberDriesRow.make) = true from heads.2.2]
  kernel_rfl
theorem timberDries_func : Try.pinned.checked.prog.funcNamed Rows.timberDriesRow.func = some 16 := by kernel_rfl
theorem timberDries_inst : Try.f16.isInstance Try.pinned.checked.prog Rows.timberDriesRow.origin Rows.timberDriesRow.targs := of_decide_eq_true (by kernel_rfl)
theorem timberDries_wrap : Try.f16.isWrapper Try.pinned.checked.prog Rows.timberDriesRow.wrapper Rows.timberDriesRow.mainSum := by
  unfold Func.isWrapper
  first | (rw [if_pos (by decide +kernel)]; kernel_rfl) | (rw [if_neg (by decide +kernel)]; exact ⟨rfl, rfl⟩)
theorem timberDries_holds : Rows.TimberDriesSaid :=
  OpenClaim.holds_of_wide 16 Try.f16 rfl rfl rfl rfl rfl rfl rfl ⟨rfl, rfl, rfl, rfl, rfl⟩ rfl rfl rfl rfl rfl timberDries_func Try.func16 timberDries_facts timberDries_inst timberDries_wrap
    (fun os started H enc _ => timberDries_lifted os started H enc)
#print axioms timberDries_holds
end Go.Proofs.Ytnjbhidncicfiaa
