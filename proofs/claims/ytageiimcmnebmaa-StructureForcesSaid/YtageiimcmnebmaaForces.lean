/- For every beam, burden and place, in whatever memory: the law of forces answers true; no condition. -/
import Derived.Test.YtageiimcmnebmaaRows
import Derived.Test.YtageiimcmnebmaaCK
import Derived.Test.YtageiimcmnebmaaOPC
import Derived.Test.YtageiimcmnebmaaFacts
import Derived.WalkKit
import Derived.ProofKit
import Derived.OpenShut
import Derived.ShutString
import Derived.ChangeOld
import Derived.Below
import Derived.Lib.SmallJoins
namespace Go.Proofs.Ytageiimcmnebmaa
open Go.ChangeShapes Go.WideShapes Go.ChangeAt Go.RowKit Go.Joins

set_option maxRecDepth 100000 in
theorem structureForces_lifted (os : Os) (started : os.Started) (H : Type) (enc : TypeId × Value → H) :
    ReturnsInHanded {} Try.checked os 4 .any (Rows.structureForcesSpec.pre6 enc Try.prog Try.f4 Rows.structureForcesRow.domain false) (Rows.structureForcesSpec.post enc Try.prog Try.f4 false true false false) := by
  refine returnsInHanded_of_change (C := Try.checked) own started (by kernel_rfl) Try.func4
    (ChangeSpec.witness6 (enc := enc) (C := Try.checked) false ⟨#[], #[.agg #[.int .i64 0, .int .i64 0, .int .i64 0, .int .i64 0], .agg #[.slice none 0 0, .int .i64 0], .int .i64 0], []⟩ 8 (by kernel_rfl) (by kernel_rfl) (by kernel_rfl) (by kernel_rfl)) ?_
  intro W base args ds gs before hval0 hW hcnd _
  have hval : ∀ (j : Nat) t v, Try.f4.params[j]? = some t → args[j]? = some v → Value.okWide Try.prog W .any base t v := hval0
  have hW' := hW
  obtain ⟨p, q, hA0, hV, rfl, hfz, hnd⟩ := hW
  have hA : DataW.TrodAll enc Try.prog W 0 (fun _ => true) true Try.f4.params.toList args.toList ds p := hA0
  rw [Try.params4] at hA hval
  obtain ⟨v0, v1, v2, d0, d1, d2, p0, p1, p2, rfl, rfl, rfl, h0, h1, h2⟩ := trodAll_three hA
  obtain ⟨rfl, rfl⟩ := trodVars_none hV
  have k0 := h0
  have lt0 : ∀ x ∈ p0, x.block < W.heap.size := by obtain ⟨m, hm⟩ := k0; exact DataW.trod_lt m _ _ _ hm
  have k1 := h1
  have lt1 : ∀ x ∈ p1, x.block < W.heap.size := by obtain ⟨m, hm⟩ := k1; exact DataW.trod_lt m _ _ _ hm
  have k2 := h2
  have lt2 : ∀ x ∈ p2, x.block < W.heap.size := by obtain ⟨m, hm⟩ := k2; exact DataW.trod_lt m _ _ _ hm
  obtain ⟨x0, rfl⟩ := open_beam (hval 0 23 v0 rfl rfl) h0
  obtain ⟨A1, n1, cp1, S1, l1, rfl, ln1, row1⟩ := open_burden (hval 1 26 v1 rfl rfl) h1
  obtain ⟨a2, rfl, -, -, wf2⟩ := open_int Try.underlying3 (hval 2 3 v2 rfl rfl) h2
  clear hA0 hval0
  refine (forces_walk x0 A1 n1 cp1 S1 l1 a2 ln1 W row1).mono fun e W' ⟨he, bel⟩ => ?_
  subst he
  exact ⟨_, rfl, _, _, _, [], _, [], hW', trodAll_mk1 (shut_bool Try.underlying4 _), trodAll_mk3 (Below.trod laidOut (by kernel_rfl) (of_decide_eq_true (by kernel_rfl)) k0 bel lt0) (Below.trod laidOut (by kernel_rfl) (of_decide_eq_true (by kernel_rfl)) k1 bel lt1) (Below.trod laidOut (by kernel_rfl) (of_decide_eq_true (by kernel_rfl)) k2 bel lt2), rfl, bel.frame _, fun h => by cases h⟩

theorem structureForces_place : (Rows.structureForcesRow.inPlace == Try.pinned.checked.prog.inPlace 4) = true := by kernel_rfl
theorem structureForces_unfollowed : (Rows.structureForcesRow.unfollowed == Try.pinned.checked.prog.unfollowed 4) = true := by kernel_rfl
theorem structureForces_recurses : (Rows.structureForcesRow.recurses == Try.pinned.checked.prog.recurses 4) = true := by kernel_rfl
theorem structureForces_vars : (Rows.structureForcesRow.named == Try.pinned.checked.prog.varsNamed 4) = true := by kernel_rfl
theorem structureForces_facts : joinedFacts Try.pinned.checked.prog 4 Try.f4 Rows.structureForcesSpec Rows.structureForcesRow = true := by
  unfold joinedFacts
  rw [structureForces_place, structureForces_unfollowed, structureForces_recurses, structureForces_vars, laidOut', mapsRow, heads.1, show (Rows.structureForcesRow.lifted == Try.pinned.checked.prog.liftsFinal) = true from heads.2.1, show (Try.pinned.checked.prog.make == some Rows.structureForcesRow.make) = true from heads.2.2]
  kernel_rfl
theorem structureForces_func : Try.pinned.checked.prog.funcNamed Rows.structureForcesRow.func = some 4 := by kernel_rfl
theorem structureForces_inst : Try.f4.isInstance Try.pinned.checked.prog Rows.structureForcesRow.origin Rows.structureForcesRow.targs := of_decide_eq_true (by kernel_rfl)
theorem structureForces_wrap : Try.f4.isWrapper Try.pinned.checked.prog Rows.structureForcesRow.wrapper Rows.structureForcesRow.mainSum := by
  unfold Func.isWrapper
  first | (rw [if_pos (by decide +kernel)]; kernel_rfl) | (rw [if_neg (by decide +kernel)]; exact ⟨rfl, rfl⟩)
theorem structureForces_holds : Rows.StructureForcesSaid :=
  OpenClaim.holds_of_wide 4 Try.f4 rfl rfl rfl rfl rfl rfl rfl ⟨rfl, rfl, rfl, rfl, rfl⟩ rfl rfl rfl rfl rfl structureForces_func Try.func4 structureForces_facts structureForces_inst structureForces_wrap
    (fun os started H enc _ => structureForces_lifted os started H enc)
#print axioms structureForces_holds
end Go.Proofs.Ytageiimcmnebmaa
