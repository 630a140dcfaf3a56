/- Ranges of moments: the given statement, without condition. -/
import Derived.Test.YtablphoicidlkaaRows
import Derived.WalkKit
import Derived.ProofKit
import Derived.OpenShut
import Derived.ShutString
import Derived.ChangeOld
import Derived.Below
import Derived.Lib.SmallJoins
import Derived.Test.YtablphoicidlkaaMGJ
import Derived.Test.YtablphoicidlkaaMGO
import Derived.Test.YtablphoicidlkaaFacts
namespace Go.Proofs.Ytablphoicidlkaa
open Go.ChangeShapes Go.WideShapes Go.ChangeAt Go.RowKit Go.Joins

set_option maxRecDepth 100000 in
theorem structureRanges_lifted (os : Os) (started : os.Started) (H : Type) (enc : TypeId × Value → H) :
    ReturnsInHanded {} Try.checked os 8 .any (Rows.structureRangesSpec.pre6 enc Try.prog Try.f8 Rows.structureRangesRow.domain false) (Rows.structureRangesSpec.post enc Try.prog Try.f8 false true false false) := by
  refine returnsInHanded_of_change (C := Try.checked) own started (by kernel_rfl) Try.func8
    (ChangeSpec.witness6 (enc := enc) (C := Try.checked) false ⟨#[], #[.agg #[.int .i64 0, .int .i64 0, .int .i64 0, .int .i64 0], .agg #[.slice none 0 0, .int .i64 0, .slice none 0 0, .int .i64 0], .int .i64 0], []⟩ 8 (by kernel_rfl) (by kernel_rfl) (by kernel_rfl) (by kernel_rfl)) ?_
  intro W base args ds gs before hval0 hW hcnd _
  have hval : ∀ (j : Nat) t v, Try.f8.params[j]? = some t → args[j]? = some v → Value.okWide Try.prog W .any base t v := hval0
  have hW' := hW
  obtain ⟨p, q, hA0, hV, rfl, hfz, hnd⟩ := hW
  have hA : DataW.TrodAll enc Try.prog W 0 (fun _ => true) true Try.f8.params.toList args.toList ds p := hA0
  rw [Try.params8] at hA hval
  obtain ⟨v0, v1, v2, d0, d1, d2, p0, p1, p2, rfl, rfl, rfl, h0, h1, h2⟩ := trodAll_three hA
  obtain ⟨rfl, rfl⟩ := trodVars_none hV
  have k0 := h0
  have lt0 : ∀ x ∈ p0, x.block < W.heap.size := by obtain ⟨m, hm⟩ := k0; exact DataW.trod_lt m _ _ _ hm
  have k1 := h1
  have lt1 : ∀ x ∈ p1, x.block < W.heap.size := by obtain ⟨m, hm⟩ := k1; exact DataW.trod_lt m _ _ _ hm
  have k2 := h2
  have lt2 : ∀ x ∈ p2, x.block < W.heap.size := by obtain ⟨m, hm⟩ := k2; exact DataW.trod_lt m _ _ _ hm
  obtain ⟨x0, rfl⟩ := open_beam (hval 0 23 v0 rfl rfl) h0
  obtain ⟨A1, n1, cp1, S1, l1, A1', n1', cp1', S1', l1', rfl, ln1, ln1', lc1, lc1', row1, row1'⟩ := open_pairC (hval 1 70 v1 rfl rfl) h1
  obtain ⟨a2, rfl, -, -, wf2⟩ := open_int Try.underlying3 (hval 2 3 v2 rfl rfl) h2
  clear hA0 hval0
  refine (ranges_walk x0 A1 n1 cp1 S1 l1 A1' n1' cp1' S1' l1' a2 ln1 ln1' lc1 lc1' W row1 row1').mono fun e W' ⟨he, bel⟩ => ?_
  subst he
  exact ⟨_, rfl, _, _, _, [], _, [], hW', trodAll_mk1 (shut_bool Try.underlying4 _), trodAll_mk3 (Below.trod laidOut (by kernel_rfl) (of_decide_eq_true (by kernel_rfl)) k0 bel lt0) (Below.trod laidOut (by kernel_rfl) (of_decide_eq_true (by kernel_rfl)) k1 bel lt1) (Below.trod laidOut (by kernel_rfl) (of_decide_eq_true (by kernel_rfl)) k2 bel lt2), rfl, bel.frame _, fun h => by cases h⟩

theorem structureRanges_place : (Rows.structureRangesRow.inPlace == Try.pinned.checked.prog.inPlace 8) = true := by kernel_rfl
theorem structureRanges_unfollowed : (Rows.structureRangesRow.unfollowed == Try.pinned.checked.prog.unfollowed 8) = true := by kernel_rfl
theorem structureRanges_recurses : (Rows.structureRangesRow.recurses == Try.pinned.checked.prog.recurses 8) = true := by kernel_rfl
theorem structureRanges_vars : (Rows.structureRangesRow.named == Try.pinned.checked.prog.varsNamed 8) = true := by kernel_rfl
theorem structureRanges_facts : joinedFacts Try.pinned.checked.prog 8 Try.f8 Rows.structureRangesSpec Rows.structureRangesRow = true := by
  unfold joinedFacts
  rw [structureRanges_place, structureRanges_unfollowed, structureRanges_recurses, structureRanges_vars, laidOut', mapsRow, heads.1, show (Rows.structureRangesRow.lifted == Try.pinned.checked.prog.liftsFinal) = true from heads.2.1, show (Try.pinned.checked.prog.make == some Rows.structureRangesRow.make) = true from heads.2.2]
  kernel_rfl
theorem structureRanges_func : Try.pinned.checked.prog.funcNamed Rows.structureRangesRow.func = some 8 := by kernel_rfl
theorem structureRanges_inst : Try.f8.isInstance Try.pinned.checked.prog Rows.structureRangesRow.origin Rows.structureRangesRow.targs := of_decide_eq_true (by kernel_rfl)
theorem structureRanges_wrap : Try.f8.isWrapper Try.pinned.checked.prog Rows.structureRangesRow.wrapper Rows.structureRangesRow.mainSum := by
  unfold Func.isWrapper
  first | (rw [if_pos (by decide +kernel)]; kernel_rfl) | (rw [if_neg (by decide +kernel)]; exact ⟨rfl, rfl⟩)
theorem structureRanges_holds : Rows.StructureRangesSaid :=
  OpenClaim.holds_of_wide 8 Try.f8 rfl rfl rfl rfl rfl rfl rfl ⟨rfl, rfl, rfl, rfl, rfl⟩ rfl rfl rfl rfl rfl structureRanges_func Try.func8 structureRanges_facts structureRanges_inst structureRanges_wrap
    (fun os started H enc _ => structureRanges_lifted os started H enc)
#print axioms structureRanges_holds
end Go.Proofs.Ytablphoicidlkaa
