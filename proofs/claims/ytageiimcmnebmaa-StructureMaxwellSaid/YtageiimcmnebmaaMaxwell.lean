/- For every beam, places, weight and stiffness, in whatever memory: Maxwell's law answers true; no condition. -/
import Derived.Test.YtageiimcmnebmaaRows
import Derived.Test.YtageiimcmnebmaaDW
import Derived.Test.YtageiimcmnebmaaOPA
import Derived.Test.YtageiimcmnebmaaOPF
import Derived.Test.YtageiimcmnebmaaFacts
import Derived.WalkKit
import Derived.ProofKit
import Derived.OpenShut
import Derived.ShutString
import Derived.ChangeOld
import Derived.Below
import Derived.Lib.SmallJoins
namespace Go.Proofs.Ytageiimcmnebmaa
open Go.ChangeShapes Go.WideShapes Go.ChangeAt Go.RowKit Go.Joins

set_option maxRecDepth 100000 in
theorem structureMaxwell_lifted (os : Os) (started : os.Started) (H : Type) (enc : TypeId × Value → H) :
    ReturnsInHanded {} Try.checked os 18 .any (Rows.structureMaxwellSpec.pre6 enc Try.prog Try.f18 Rows.structureMaxwellRow.domain false) (Rows.structureMaxwellSpec.post enc Try.prog Try.f18 false true false false) := by
  refine returnsInHanded_of_change (C := Try.checked) own started (by kernel_rfl) Try.func18
    (ChangeSpec.witness6 (enc := enc) (C := Try.checked) false ⟨#[], #[.agg #[.int .i64 0, .int .i64 0, .int .i64 0, .int .i64 0], .agg #[.int .i64 0, .int .i64 0, .int .i64 0], .int .i64 0], []⟩ 8 (by kernel_rfl) (by kernel_rfl) (by kernel_rfl) (by kernel_rfl)) ?_
  intro W base args ds gs before hval0 hW hcnd _
  have hval : ∀ (j : Nat) t v, Try.f18.params[j]? = some t → args[j]? = some v → Value.okWide Try.prog W .any base t v := hval0
  have hW' := hW
  obtain ⟨p, q, hA0, hV, rfl, hfz, hnd⟩ := hW
  have hA : DataW.TrodAll enc Try.prog W 0 (fun _ => true) true Try.f18.params.toList args.toList ds p := hA0
  rw [Try.params18] at hA hval
  obtain ⟨v0, v1, v2, d0, d1, d2, p0, p1, p2, rfl, rfl, rfl, h0, h1, h2⟩ := trodAll_three hA
  obtain ⟨rfl, rfl⟩ := trodVars_none hV
  have k0 := h0
  have lt0 : ∀ x ∈ p0, x.block < W.heap.size := by obtain ⟨m, hm⟩ := k0; exact DataW.trod_lt m _ _ _ hm
  have k1 := h1
  have lt1 : ∀ x ∈ p1, x.block < W.heap.size := by obtain ⟨m, hm⟩ := k1; exact DataW.trod_lt m _ _ _ hm
  have k2 := h2
  have lt2 : ∀ x ∈ p2, x.block < W.heap.size := by obtain ⟨m, hm⟩ := k2; exact DataW.trod_lt m _ _ _ hm
  obtain ⟨x0, rfl⟩ := open_beam (hval 0 23 v0 rfl rfl) h0
  obtain ⟨a1, b1, c1, rfl⟩ := open_places (hval 1 147 v1 rfl rfl) h1
  obtain ⟨a2, rfl, -, -, wf2⟩ := open_int Try.underlying3 (hval 2 3 v2 rfl rfl) h2
  clear hA0 hval0
  refine (maxwell_walk x0 a1 b1 c1 a2 W ).mono fun e W' ⟨he, bel⟩ => ?_
  subst he
  exact ⟨_, rfl, _, _, _, [], _, [], hW', trodAll_mk1 (shut_bool Try.underlying4 _), trodAll_mk3 (Below.trod laidOut (by kernel_rfl) (of_decide_eq_true (by kernel_rfl)) k0 bel lt0) (Below.trod laidOut (by kernel_rfl) (of_decide_eq_true (by kernel_rfl)) k1 bel lt1) (Below.trod laidOut (by kernel_rfl) (of_decide_eq_true (by kernel_rfl)) k2 bel lt2), rfl, bel.frame _, fun h => by cases h⟩

theorem structureMaxwell_place : (Rows.structureMaxwellRow.inPlace == Try.pinned.checked.prog.inPlace 18) = true := by kernel_rfl
theorem structureMaxwell_unfollowed : (Rows.structureMaxwellRow.unfollowed == Try.pinned.checked.prog.unfollowed 18) = true := by kernel_rfl
theorem structureMaxwell_recurses : (Rows.structureMaxwellRow.recurses == Try.pinned.checked.prog.recurses 18) = true := by kernel_rfl
theorem structureMaxwell_vars : (Rows.structureMaxwellRow.named == Try.pinned.checked.prog.varsNamed 18) = true := by kernel_rfl
theorem structureMaxwell_facts : joinedFacts Try.pinned.checked.prog 18 Try.f18 Rows.structureMaxwellSpec Rows.structureMaxwellRow = true := by
  unfold joinedFacts
  rw [structureMaxwell_place, structureMaxwell_unfollowed, structureMaxwell_recurses, structureMaxwell_vars, laidOut', mapsRow, heads.1, show (Rows.structureMaxwellRow.lifted == Try.pinned.checked.prog.liftsFinal) = true from heads.2.1, show (Try.pinned.checked.prog.make == some Rows.structureMaxwellRow.make) = true from heads.2.2]
  kernel_rfl
theorem structureMaxwell_func : Try.pinned.checked.prog.funcNamed Rows.structureMaxwellRow.func = some 18 := by kernel_rfl
theorem structureMaxwell_inst : Try.f18.isInstance Try.pinned.checked.prog Rows.structureMaxwellRow.origin Rows.structureMaxwellRow.targs := of_decide_eq_true (by kernel_rfl)
theorem structureMaxwell_wrap : Try.f18.isWrapper Try.pinned.checked.prog Rows.structureMaxwellRow.wrapper Rows.structureMaxwellRow.mainSum := by
  unfold Func.isWrapper
  first | (rw [if_pos (by decide +kernel)]; kernel_rfl) | (rw [if_neg (by decide +kernel)]; exact ⟨rfl, rfl⟩)
theorem structureMaxwell_holds : Rows.StructureMaxwellSaid :=
  OpenClaim.holds_of_wide 18 Try.f18 rfl rfl rfl rfl rfl rfl rfl ⟨rfl, rfl, rfl, rfl, rfl⟩ rfl rfl rfl rfl rfl structureMaxwell_func Try.func18 structureMaxwell_facts structureMaxwell_inst structureMaxwell_wrap
    (fun os started H enc _ => structureMaxwell_lifted os started H enc)
#print axioms structureMaxwell_holds
end Go.Proofs.Ytageiimcmnebmaa
