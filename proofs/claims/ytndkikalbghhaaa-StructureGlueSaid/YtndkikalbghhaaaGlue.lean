/- What glued areas carry, and the force on hinges, are as specified. -/
import Derived.Test.YtndkikalbghhaaaRows
import Derived.Test.YtndkikalbghhaaaBE
import Derived.Test.YtndkikalbghhaaaOPB
import Derived.Test.YtndkikalbghhaaaFacts
import Derived.WalkKit
import Derived.ProofKit
import Derived.OpenShut
import Derived.ShutString
import Derived.ChangeOld
import Derived.Below
import Derived.Lib.SmallJoins
namespace Go.Proofs.Ytndkikalbghhaaa
open Go.ChangeShapes Go.WideShapes Go.ChangeAt Go.RowKit Go.Joins

set_option maxRecDepth 100000 in
theorem structureGlue_lifted (os : Os) (started : os.Started) (H : Type) (enc : TypeId × Value → H) :
    ReturnsInHanded {} Try.checked os 16 .any (Rows.structureGlueSpec.pre6 enc Try.prog Try.f16 Rows.structureGlueRow.domain false) (Rows.structureGlueSpec.post enc Try.prog Try.f16 false true false false) := by
  refine returnsInHanded_of_change (C := Try.checked) own started (by kernel_rfl) Try.func16
    (ChangeSpec.witness6 (enc := enc) (C := Try.checked) false ⟨#[], #[.agg #[.int .i64 0, .int .i64 0, .int .i64 0], .agg #[.int .i64 0, .int .i64 0, .int .i64 0], .agg #[.int .i64 0, .int .i64 0, .int .i64 0]], []⟩ 8 (by kernel_rfl) (by kernel_rfl) (by kernel_rfl) (by kernel_rfl)) ?_
  intro W base args ds gs before hval0 hW hcnd _
  have hval : ∀ (j : Nat) t v, Try.f16.params[j]? = some t → args[j]? = some v → Value.okWide Try.prog W .any base t v := hval0
  have hW' := hW
  obtain ⟨p, q, hA0, hV, rfl, hfz, hnd⟩ := hW
  have hA : DataW.TrodAll enc Try.prog W 0 (fun _ => true) true Try.f16.params.toList args.toList ds p := hA0
  rw [Try.params16] at hA hval
  obtain ⟨v0, v1, v2, d0, d1, d2, p0, p1, p2, rfl, rfl, rfl, h0, h1, h2⟩ := trodAll_three hA
  obtain ⟨rfl, rfl⟩ := trodVars_none hV
  have k0 := h0
  have lt0 : ∀ x ∈ p0, x.block < W.heap.size := by obtain ⟨m, hm⟩ := k0; exact DataW.trod_lt m _ _ _ hm
  have k1 := h1
  have lt1 : ∀ x ∈ p1, x.block < W.heap.size := by obtain ⟨m, hm⟩ := k1; exact DataW.trod_lt m _ _ _ hm
  have k2 := h2
  have lt2 : ∀ x ∈ p2, x.block < W.heap.size := by obtain ⟨m, hm⟩ := k2; exact DataW.trod_lt m _ _ _ hm
  obtain ⟨a0, b0, c0, rfl⟩ := open_arr3 (hval 0 136 v0 rfl rfl) h0
  obtain ⟨a1, b1, c1, rfl⟩ := open_bond (hval 1 138 v1 rfl rfl) h1
  obtain ⟨a2, b2, c2, rfl⟩ := open_arr3 (hval 2 136 v2 rfl rfl) h2
  clear hA0 hval0
  refine (glue_walk a0 b0 c0 a1 b1 c1 a2 b2 c2 W ).mono fun e W' ⟨he, bel⟩ => ?_
  subst he
  exact ⟨_, rfl, _, _, _, [], _, [], hW', trodAll_mk1 (shut_bool Try.underlying4 _), trodAll_mk3 (Below.trod laidOut (by kernel_rfl) (of_decide_eq_true (by kernel_rfl)) k0 bel lt0) (Below.trod laidOut (by kernel_rfl) (of_decide_eq_true (by kernel_rfl)) k1 bel lt1) (Below.trod laidOut (by kernel_rfl) (of_decide_eq_true (by kernel_rfl)) k2 bel lt2), rfl, bel.frame _, fun h => by cases h⟩

theorem structureGlue_place : (Rows.structureGlueRow.inPlace == Try.pinned.checked.prog.inPlace 16) = true := by kernel_rfl
theorem structureGlue_unfollowed : (Rows.structureGlueRow.unfollowed == Try.pinned.checked.prog.unfollowed 16) = true := by kernel_rfl
theorem structureGlue_recurses : (Rows.structureGlueRow.recurses == Try.pinned.checked.prog.recurses 16) = true := by kernel_rfl
theorem structureGlue_vars : (Rows.structureGlueRow.named == Try.pinned.checked.prog.varsNamed 16) = true := by kernel_rfl
theorem structureGlue_facts : joinedFacts Try.pinned.checked.prog 16 Try.f16 Rows.structureGlueSpec Rows.structureGlueRow = true := by
  unfold joinedFacts
  rw [structureGlue_place, structureGlue_unfollowed, structureGlue_recurses, structureGlue_vars, laidOut', mapsRow, heads.1, show (Rows.structureGlueRow.lifted == Try.pinned.checked.prog.liftsFinal) = true from heads.2.1, show (Try.pinned.checked.prog.make == some Rows.structureGlueRow.make) = true from heads.2.2]
  kernel_rfl
theorem structureGlue_func : Try.pinned.checked.prog.funcNamed Rows.structureGlueRow.func = some 16 := by kernel_rfl
theorem structureGlue_inst : Try.f16.isInstance Try.pinned.checked.prog Rows.structureGlueRow.origin Rows.structureGlueRow.targs := of_decide_eq_true (by kernel_rfl)
theorem structureGlue_wrap : Try.f16.isWrapper Try.pinned.checked.prog Rows.structureGlueRow.wrapper Rows.structureGlueRow.mainSum := by
  unfold Func.isWrapper
  first | (rw [if_pos (by decide +kernel)]; kernel_rfl) | (rw [if_neg (by decide +kernel)]; exact ⟨rfl, rfl⟩)
theorem structureGlue_holds : Rows.StructureGlueSaid :=
  OpenClaim.holds_of_wide 16 Try.f16 rfl rfl rfl rfl rfl rfl rfl ⟨rfl, rfl, rfl, rfl, rfl⟩ rfl rfl rfl rfl rfl structureGlue_func Try.func16 structureGlue_facts structureGlue_inst structureGlue_wrap
    (fun os started H enc _ => structureGlue_lifted os started H enc)
#print axioms structureGlue_holds
end Go.Proofs.Ytndkikalbghhaaa
