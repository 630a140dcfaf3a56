/- For every beam, wood, weight for each metre and ratio, in whatever memory: the law of the longest span answers true; no condition. -/
import Derived.Test.YtndkikalbghhaaaRows
import Derived.Test.YtndkikalbghhaaaSZ
import Derived.Test.YtndkikalbghhaaaOPA
import Derived.Test.YtndkikalbghhaaaFacts
import Derived.WalkKit
import Derived.ProofKit
import Derived.OpenShut
import Derived.ShutString
import Derived.ChangeOld
import Derived.Below
import Derived.Lib.SmallJoins
namespace Go.Proofs.Ytndkikalbghhaaa
open Go.ChangeShapes Go.WideShapes Go.ChangeAt Go.RowKit Go.Joins

set_option maxRecDepth 100000 in
theorem structureSpans_lifted (os : Os) (started : os.Started) (H : Type) (enc : TypeId × Value → H) :
    ReturnsInHanded {} Try.checked os 12 .any (Rows.structureSpansSpec.pre6 enc Try.prog Try.f12 Rows.structureSpansRow.domain false) (Rows.structureSpansSpec.post enc Try.prog Try.f12 false true false false) := by
  refine returnsInHanded_of_change (C := Try.checked) own started (by kernel_rfl) Try.func12
    (ChangeSpec.witness6 (enc := enc) (C := Try.checked) false ⟨#[], #[.agg #[.int .i64 0, .int .i64 0, .int .i64 0, .int .i64 0], .agg #[.int .i64 0, .int .i64 0, .int .i64 0], .agg #[.int .i64 0, .int .i64 0]], []⟩ 8 (by kernel_rfl) (by kernel_rfl) (by kernel_rfl) (by kernel_rfl)) ?_
  intro W base args ds gs before hval0 hW hcnd _
  have hval : ∀ (j : Nat) t v, Try.f12.params[j]? = some t → args[j]? = some v → Value.okWide Try.prog W .any base t v := hval0
  have hW' := hW
  obtain ⟨p, q, hA0, hV, rfl, hfz, hnd⟩ := hW
  have hA : DataW.TrodAll enc Try.prog W 0 (fun _ => true) true Try.f12.params.toList args.toList ds p := hA0
  rw [Try.params12] at hA hval
  obtain ⟨v0, v1, v2, d0, d1, d2, p0, p1, p2, rfl, rfl, rfl, h0, h1, h2⟩ := trodAll_three hA
  obtain ⟨rfl, rfl⟩ := trodVars_none hV
  have k0 := h0
  have lt0 : ∀ x ∈ p0, x.block < W.heap.size := by obtain ⟨m, hm⟩ := k0; exact DataW.trod_lt m _ _ _ hm
  have k1 := h1
  have lt1 : ∀ x ∈ p1, x.block < W.heap.size := by obtain ⟨m, hm⟩ := k1; exact DataW.trod_lt m _ _ _ hm
  have k2 := h2
  have lt2 : ∀ x ∈ p2, x.block < W.heap.size := by obtain ⟨m, hm⟩ := k2; exact DataW.trod_lt m _ _ _ hm
  obtain ⟨x0, rfl⟩ := open_beam (hval 0 23 v0 rfl rfl) h0
  obtain ⟨x1, rfl⟩ := open_wood (hval 1 79 v1 rfl rfl) h1
  obtain ⟨a2, b2, rfl⟩ := open_even (hval 2 96 v2 rfl rfl) h2
  clear hA0 hval0
  refine (spans_walk x0 x1 a2 b2 W ).mono fun e W' ⟨he, bel⟩ => ?_
  subst he
  exact ⟨_, rfl, _, _, _, [], _, [], hW', trodAll_mk1 (shut_bool Try.underlying4 _), trodAll_mk3 (Below.trod laidOut (by kernel_rfl) (of_decide_eq_true (by kernel_rfl)) k0 bel lt0) (Below.trod laidOut (by kernel_rfl) (of_decide_eq_true (by kernel_rfl)) k1 bel lt1) (Below.trod laidOut (by kernel_rfl) (of_decide_eq_true (by kernel_rfl)) k2 bel lt2), rfl, bel.frame _, fun h => by cases h⟩

theorem structureSpans_place : (Rows.structureSpansRow.inPlace == Try.pinned.checked.prog.inPlace 12) = true := by kernel_rfl
theorem structureSpans_unfollowed : (Rows.structureSpansRow.unfollowed == Try.pinned.checked.prog.unfollowed 12) = true := by kernel_rfl
theorem structureSpans_recurses : (Rows.structureSpansRow.recurses == Try.pinned.checked.prog.recurses 12) = true := by kernel_rfl
theorem structureSpans_vars : (Rows.structureSpansRow.named == Try.pinned.checked.prog.varsNamed 12) = true := by kernel_rfl
theorem structureSpans_facts : joinedFacts Try.pinned.checked.prog 12 Try.f12 Rows.structureSpansSpec Rows.structureSpansRow = true := by
  unfold joinedFacts
  rw [structureSpans_place, structureSpans_unfollowed, structureSpans_recurses, structureSpans_vars, laidOut', mapsRow, heads.1, show (Rows.structureSpansRow.lifted == Try.pinned.checked.prog.liftsFinal) = true from heads.2.1, show (Try.pinned.checked.prog.make == some Rows.structureSpansRow.make) = true from heads.2.2]
  kernel_rfl
theorem structureSpans_func : Try.pinned.checked.prog.funcNamed Rows.structureSpansRow.func = some 12 := by kernel_rfl
theorem structureSpans_inst : Try.f12.isInstance Try.pinned.checked.prog Rows.structureSpansRow.origin Rows.structureSpansRow.targs := of_decide_eq_true (by kernel_rfl)
theorem structureSpans_wrap : Try.f12.isWrapper Try.pinned.checked.prog Rows.structureSpansRow.wrapper Rows.structureSpansRow.mainSum := by
  unfold Func.isWrapper
  first | (rw [if_pos (by decide +kernel)]; kernel_rfl) | (rw [if_neg (by decide +kernel)]; exact ⟨rfl, rfl⟩)
theorem structureSpans_holds : Rows.StructureSpansSaid :=
  OpenClaim.holds_of_wide 12 Try.f12 rfl rfl rfl rfl rfl rfl rfl ⟨rfl, rfl, rfl, rfl, rfl⟩ rfl rfl rfl rfl rfl structureSpans_func Try.func12 structureSpans_facts structureSpans_inst structureSpans_wrap
    (fun os started H enc _ => structureSpans_lifted os started H enc)
#print axioms structureSpans_holds
end Go.Proofs.Ytndkikalbghhaaa
