/- TimberRanges (chapter 2): for every movement, every range of moistures and every moisture the law returns true, and its arguments read behind the call as before. No condition. -/
import Derived.Test.YtnjbhidncicfiaaRows
import Derived.Test.YtnjbhidncicfiaaW6
import Derived.Test.YtnjbhidncicfiaaFacts
import Derived.WalkKit
import Derived.ProofKit
import Derived.OpenShut
import Derived.ShutString
import Derived.ChangeOld
import Derived.Below
import Derived.Lib.SmallJoins
namespace Go.Proofs.Ytnjbhidncicfiaa
open Go.ChangeShapes Go.WideShapes Go.ChangeAt Go.RowKit Go.Joins
theorem cells50 : Try.prog.cellsOf 50 = 2 := by kernel_rfl
theorem cells62 : Try.prog.cellsOf 62 = 3 := by kernel_rfl

set_option maxRecDepth 100000 in
theorem timberRanges_lifted (os : Os) (started : os.Started) (H : Type) (enc : TypeId × Value → H) :
    ReturnsInHanded {} Try.checked os 7 .any (Rows.timberRangesSpec.pre6 enc Try.prog Try.f7 Rows.timberRangesRow.domain false) (Rows.timberRangesSpec.post enc Try.prog Try.f7 false true false false) := by
  refine returnsInHanded_of_change (C := Try.checked) own started (by kernel_rfl) Try.func7
    (ChangeSpec.witness6 (enc := enc) (C := Try.checked) false ⟨#[], #[.agg #[.int .i64 0, .int .i64 0, .int .i64 0], .agg #[.int .i64 0, .int .i64 0], .int .i64 0], []⟩ 8 (by kernel_rfl) (by kernel_rfl) (by kernel_rfl) (by kernel_rfl)) ?_
  intro W base args ds gs before hval0 hW hcnd _
  have hval : ∀ (j : Nat) t v, Try.f7.params[j]? = some t → args[j]? = some v → Value.okWide Try.prog W .any base t v := hval0
  have hW' := hW
  obtain ⟨p, q, hA0, hV, rfl, hfz, hnd⟩ := hW
  have hA : DataW.TrodAll enc Try.prog W 0 (fun _ => true) true Try.f7.params.toList args.toList ds p := hA0
  rw [Try.params7] at hA hval
  obtain ⟨v0, v1, v2, d0, d1, d2, p0, p1, p2, rfl, rfl, rfl, h0, h1, h2⟩ := trodAll_three hA
  obtain ⟨rfl, rfl⟩ := trodVars_none hV
  have k0 := h0
  have lt0 : ∀ x ∈ p0, x.block < W.heap.size := by obtain ⟨m, hm⟩ := k0; exact DataW.trod_lt m _ _ _ hm
  have k1 := h1
  have lt1 : ∀ x ∈ p1, x.block < W.heap.size := by obtain ⟨m, hm⟩ := k1; exact DataW.trod_lt m _ _ _ hm
  have k2 := h2
  have lt2 : ∀ x ∈ p2, x.block < W.heap.size := by obtain ⟨m, hm⟩ := k2; exact DataW.trod_lt m _ _ _ hm
  obtain ⟨c00, c01, c02, y00, y01, y02, m0, rfl, -, -, hy00, hy01, hy02⟩ := open_agg3 Try.underlying62 (by kernel_rfl) cells62 (hval 0 62 v0 rfl rfl) h0
  obtain ⟨b00, e00, -, -⟩ := DataW.trod_int Try.underlying3 hy00
  obtain ⟨b01, e01, -, -⟩ := DataW.trod_int Try.underlying3 hy01
  obtain ⟨b02, e02, -, -⟩ := DataW.trod_int Try.underlying3 hy02
  simp at e00 e01 e02; subst e00 e01 e02
  obtain ⟨c10, c11, y10, y11, m1, rfl, -, -, hy10, hy11⟩ := open_agg2 Try.underlying50 (by kernel_rfl) cells50 (hval 1 50 v1 rfl rfl) h1
  obtain ⟨b10, e10, -, -⟩ := DataW.trod_int Try.underlying3 hy10
  obtain ⟨b11, e11, -, -⟩ := DataW.trod_int Try.underlying3 hy11
  simp at e10 e11; subst e10 e11
  obtain ⟨a2, rfl, -, -, wf2⟩ := open_int Try.underlying3 (hval 2 3 v2 rfl rfl) h2
  clear hA0 hval0
  refine (ranges_any b00 b01 b02 b10 b11 a2 W).mono fun e W' ⟨he, bel⟩ => ?_
  subst he
  exact ⟨_, rfl, _, _, _, [], _, [], hW', trodAll_mk1 (shut_bool Try.underlying4 _), trodAll_mk3 (Below.trod laidOut (by kernel_rfl) (of_decide_eq_true (by kernel_rfl)) k0 bel lt0) (Below.trod laidOut (by kernel_rfl) (of_decide_eq_true (by kernel_rfl)) k1 bel lt1) (Below.trod laidOut (by kernel_rfl) (of_decide_eq_true (by kernel_rfl)) k2 bel lt2), rfl, bel.frame _, fun h => by cases h⟩

theorem timberRanges_place : (Rows.timberRangesRow.inPlace == Try.pinned.checked.prog.inPlace 7) = true := by kernel_rfl
theorem timberRanges_unfollowed : (Rows.timberRangesRow.unfollowed == Try.pinned.checked.prog.unfollowed 7) = true := by kernel_rfl
theorem timberRanges_recurses : (Rows.timberRangesRow.recurses == Try.pinned.checked.prog.recurses 7) = true := by kernel_rfl
theorem timberRanges_vars : (Rows.timberRangesRow.named == Try.pinned.checked.prog.varsNamed 7) = true := by kernel_rfl
theorem timberRanges_facts : joinedFacts Try.pinned.checked.prog 7 Try.f7 Rows.timberRangesSpec Rows.timberRangesRow = true := by
  unfold joinedFacts
  rw [timberRanges_place, timberRanges_unfollowed, timberRanges_recurses, timberRanges_vars, laidOut', mapsRow, heads.1, show (Rows.timberRangesRow.lifted == Try.pinned.checked.prog.liftsFinal) = true from heads.2.1, show (Try.pinned.checked.prog.make == some Rows.timberRangesRow.make) = true from heads.2.2]
  kernel_rfl
theorem timberRanges_func : Try.pinned.checked.prog.funcNamed Rows.timberRangesRow.func = some 7 := by kernel_rfl
theorem timberRanges_inst : Try.f7.isInstance Try.pinned.checked.prog Rows.timberRangesRow.origin Rows.timberRangesRow.targs := of_decide_eq_true (by kernel_rfl)
theorem timberRanges_wrap : Try.f7.isWrapper Try.pinned.checked.prog Rows.timberRangesRow.wrapper Rows.timberRangesRow.mainSum := by
  unfold Func.isWrapper
  first | (rw [if_pos (by decide +kernel)]; kernel_rfl) | (rw [if_neg (by decide +kernel)]; exact ⟨rfl, rfl⟩)
theorem timberRanges_holds : Rows.TimberRangesSaid :=
  OpenClaim.holds_of_wide 7 Try.f7 rfl rfl rfl rfl rfl rfl rfl ⟨rfl, rfl, rfl, rfl, rfl⟩ rfl rfl rfl rfl rfl timberRanges_func Try.func7 timberRanges_facts timberRanges_inst timberRanges_wrap
    (fun os started H enc _ => timberRanges_lifted os started H enc)
#print axioms timberRanges_holds
end Go.Proofs.Ytnjbhidncicfiaa
