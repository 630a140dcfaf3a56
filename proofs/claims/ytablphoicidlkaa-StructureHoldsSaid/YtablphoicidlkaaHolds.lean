/- A beam holds just where the reference says so, and what holds does so with half of its weights, if all are downward and even. No condition. -/
import Derived.Test.YtablphoicidlkaaRows
import Derived.WalkKit
import Derived.ProofKit
import Derived.OpenShut
import Derived.ShutString
import Derived.ChangeOld
import Derived.Below
import Derived.Lib.SmallJoins
import Derived.Test.YtablphoicidlkaaMGH
import Derived.Test.YtablphoicidlkaaFacts
namespace Go.Proofs.Ytablphoicidlkaa
open Go.ChangeShapes Go.WideShapes Go.ChangeAt Go.RowKit Go.Joins

set_option maxRecDepth 100000 in
theorem structureHolds_lifted (os : Os) (started : os.Started) (H : Type) (enc : TypeId × Value → H) :
    ReturnsInHanded {} Try.checked os 10 .any (Rows.structureHoldsSpec.pre6 enc Try.prog Try.f10 Rows.structureHoldsRow.domain false) (Rows.structureHoldsSpec.post enc Try.prog Try.f10 false true false false) := by
  refine returnsInHanded_of_change (C := Try.checked) own started (by kernel_rfl) Try.func10
    (ChangeSpec.witness6 (enc := enc) (C := Try.checked) false ⟨#[], #[.agg #[.int .i64 0, .int .i64 0, .int .i64 0, .int .i64 0], .agg #[.int .i64 0, .int .i64 0, .int .i64 0, .slice none 0 0, .int .i64 0, .int .i64 0]], []⟩ 8 (by kernel_rfl) (by kernel_rfl) (by kernel_rfl) (by kernel_rfl)) ?_
  intro W base args ds gs before hval0 hW hcnd _
  have hval : ∀ (j : Nat) t v, Try.f10.params[j]? = some t → args[j]? = some v → Value.okWide Try.prog W .any base t v := hval0
  have hW' := hW
  obtain ⟨p, q, hA0, hV, rfl, hfz, hnd⟩ := hW
  have hA : DataW.TrodAll enc Try.prog W 0 (fun _ => true) true Try.f10.params.toList args.toList ds p := hA0
  rw [Try.params10] at hA hval
  obtain ⟨v0, v1, d0, d1, p0, p1, rfl, rfl, rfl, h0, h1⟩ := trodAll_two hA
  obtain ⟨rfl, rfl⟩ := trodVars_none hV
  have k0 := h0
  have lt0 : ∀ x ∈ p0, x.block < W.heap.size := by obtain ⟨m, hm⟩ := k0; exact DataW.trod_lt m _ _ _ hm
  have k1 := h1
  have lt1 : ∀ x ∈ p1, x.block < W.heap.size := by obtain ⟨m, hm⟩ := k1; exact DataW.trod_lt m _ _ _ hm
  obtain ⟨x0, rfl⟩ := open_beam (hval 0 23 v0 rfl rfl) h0
  obtain ⟨x1, A1, n1, cp1, S1, l1, ra1, rfl, ln1, row1⟩ := open_shelf (hval 1 81 v1 rfl rfl) h1
  clear hA0 hval0
  refine (holds_walk x0 x1 A1 n1 cp1 S1 l1 ra1 ln1 W row1).mono fun e W' ⟨he, bel⟩ => ?_
  subst he
  exact ⟨_, rfl, _, _, _, [], _, [], hW', trodAll_mk1 (shut_bool Try.underlying4 _), trodAll_mk2 (Below.trod laidOut (by kernel_rfl) (of_decide_eq_true (by kernel_rfl)) k0 bel lt0) (Below.trod laidOut (by kernel_rfl) (of_decide_eq_true (by kernel_rfl)) k1 bel lt1), rfl, bel.frame _, fun h => by cases h⟩

theorem structureHolds_place : (Rows.structureHoldsRow.inPlace == Try.pinned.checked.prog.inPlace 10) = true := by kernel_rfl
theorem structureHolds_unfollowed : (Rows.structureHoldsRow.unfollowed == Try.pinned.checked.prog.unfollowed 10) = true := by kernel_rfl
theorem structureHolds_recurses : (Rows.structureHoldsRow.recurses == Try.pinned.checked.prog.recurses 10) = true := by kernel_rfl
theorem structureHolds_vars : (Rows.structureHoldsRow.named == Try.pinned.checked.prog.varsNamed 10) = true := by kernel_rfl
theorem structureHolds_facts : joinedFacts Try.pinned.checked.prog 10 Try.f10 Rows.structureHoldsSpec Rows.structureHoldsRow = true := by
  unfold joinedFacts
  rw [structureHolds_place, structureHolds_unfollowed, structureHolds_recurses, structureHolds_vars, laidOut', mapsRow, heads.1, show (Rows.structureHoldsRow.lifted == Try.pinned.checked.prog.liftsFinal) = true from heads.2.1, show (Try.pinned.checked.prog.make == some Rows.structureHoldsRow.make) = true from heads.2.2]
  kernel_rfl
theorem structureHolds_func : Try.pinned.checked.prog.funcNamed Rows.structureHoldsRow.func = some 10 := by kernel_rfl
theorem structureHolds_inst : Try.f10.isInstance Try.pinned.checked.prog Rows.structureHoldsRow.origin Rows.structureHoldsRow.targs := of_decide_eq_true (by kernel_rfl)
theorem structureHolds_wrap : Try.f10.isWrapper Try.pinned.checked.prog Rows.structureHoldsRow.wrapper Rows.structureHoldsRow.mainSum := by
  unfold Func.isWrapper
  first | (rw [if_pos (by decide +kernel)]; kernel_rfl) | (rw [if_neg (by decide +kernel)]; exact ⟨rfl, rfl⟩)
theorem structureHolds_holds : Rows.StructureHoldsSaid :=
  OpenClaim.holds_of_wide 10 Try.f10 rfl rfl rfl rfl rfl rfl rfl ⟨rfl, rfl, rfl, rfl, rfl⟩ rfl rfl rfl rfl rfl structureHolds_func Try.func10 structureHolds_facts structureHolds_inst structureHolds_wrap
    (fun os started H enc _ => structureHolds_lifted os started H enc)
#print axioms structureHolds_holds
end Go.Proofs.Ytablphoicidlkaa
