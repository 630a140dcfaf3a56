/- TimberMonotone (chapter 2): for every movement and any two moistures the law returns true, and its arguments read behind the call as before. No condition. -/
import Derived.Test.YtnjbhidncicfiaaRows
import Derived.Test.YtnjbhidncicfiaaW3
import Derived.Test.YtnjbhidncicfiaaFacts
import Derived.WalkKit
import Derived.ProofKit
import Derived.OpenShut
import Derived.ShutString
import Derived.ChangeOld
import Derived.Below
import Derived.Lib.SmallJoins
namespace Go.Proofs.Ytnjbhidncicfiaa
open Go.ChangeShapes Go.WideShapes Go.ChangeAt Go.RowKit Go.Joins

theorem cells62 : Try.prog.cellsOf 62 = 3 := by kernel_rfl

set_option maxRecDepth 100000 in
theorem monotone_lifted (os : Os) (started : os.Started) (H : Type) (enc : TypeId × Value → H) :
    ReturnsInHanded {} Try.checked os 8 .any (Rows.timberMonotoneSpec.pre6 enc Try.prog Try.f8 Rows.timberMonotoneRow.domain false) (Rows.timberMonotoneSpec.post enc Try.prog Try.f8 false true false false) := by
  refine returnsInHanded_of_change (C := Try.checked) own started (by kernel_rfl) Try.func8
    (ChangeSpec.witness6 (enc := enc) (C := Try.checked) false ⟨#[], #[.agg #[.int .i64 0, .int .i64 0, .int .i64 0], .int .i64 0, .int .i64 0], []⟩ 8 (by kernel_rfl) (by kernel_rfl) (by kernel_rfl) (by kernel_rfl)) ?_
  intro W base args ds gs before hval0 hW hcnd _
  have hval : ∀ (j : Nat) t v, Try.f8.params[j]? = some t → args[j]? = some v → Value.okWide Try.prog W .any base t v := hval0
  have hW' := hW
  obtain ⟨p, q, hA0, hV, rfl, hfz, hnd⟩ := hW
  have hA : DataW.TrodAll enc Try.prog W 0 (fun _ => true) true Try.f8.params.toList args.toList ds p := hA0
  rw [Try.params8] at hA hval
  obtain ⟨v0, v1, v2, d0, d1, d2, p0, p1, p2, rfl, rfl, rfl, h0, h1, h2⟩ := trodAll_three hA
  obtain ⟨rfl, rfl⟩ := trodVars_none hV
  have k0 := h0
  have k1 := h1
  have k2 := h2
  have lt0 : ∀ x ∈ p0, x.block < W.heap.size := by obtain ⟨m, hm⟩ := k0; exact DataW.trod_lt m _ _ _ hm
  have lt1 : ∀ x ∈ p1, x.block < W.heap.size := by obtain ⟨m, hm⟩ := k1; exact DataW.trod_lt m _ _ _ hm
  have lt2 : ∀ x ∈ p2, x.block < W.heap.size := by obtain ⟨m, hm⟩ := k2; exact DataW.trod_lt m _ _ _ hm
  obtain ⟨c0, c1, c2, y0, y1, y2, m, rfl, -, -, hy0, hy1, hy2⟩ := open_agg3 Try.underlying62 (by kernel_rfl) cells62 (hval 0 62 v0 rfl rfl) h0
  obtain ⟨size, e0, -, -⟩ := DataW.trod_int Try.underlying3 hy0
  obtain ⟨rate, e1, -, -⟩ := DataW.trod_int Try.underlying3 hy1
  obtain ⟨f, e2, -, -⟩ := DataW.trod_int Try.underlying3 hy2
  simp at e0 e1 e2; subst e0 e1 e2
  obtain ⟨a, rfl, -, -, -⟩ := open_int Try.underlying3 (hval 1 3 v1 rfl rfl) h1
  obtain ⟨b, rfl, -, -, -⟩ := open_int Try.underlying3 (hval 2 3 v2 rfl rfl) h2
  clear hA0 hval0
  refine (mono_any size rate f a b W).mono fun e W' ⟨he, bel⟩ => ?_
  subst he
  exact ⟨_, rfl, _, _, _, [], _, [], hW', trodAll_mk1 (shut_bool Try.underlying4 _), trodAll_mk3 (Below.trod laidOut (by kernel_rfl) (of_decide_eq_true (by kernel_rfl)) k0 bel lt0) (Below.trod laidOut (by kernel_rfl) (of_decide_eq_true (by kernel_rfl)) k1 bel lt1) (Below.trod laidOut (by kernel_rfl) (of_decide_eq_true (by kernel_rfl)) k2 bel lt2), rfl, bel.frame _, fun h => by cases h⟩

theorem monotone_place : (Rows.timberMonotoneRow.inPlace == Try.pinned.checked.prog.inPlace 8) = true := by kernel_rfl
theorem monotone_unfollowed : (Rows.timberMonotoneRow.unfollowed == Try.pinned.checked.prog.unfollowed 8) = true := by kernel_rfl
theorem monotone_recurses : (Rows.timberMonotoneRow.recurses == Try.pinned.checked.prog.recurses 8) = true := by kernel_rfl
theorem monotone_vars : (Rows.timberMonotoneRow.named == Try.pinned.checked.prog.varsNamed 8) = true := by kernel_rfl
theorem monotone_facts : joinedFacts Try.pinned.checked.prog 8 Try.f8 Rows.timberMonotoneSpec Rows.timberMonotoneRow = true := by
  unfold joinedFacts
  rw [monotone_place, monotone_unfollowed, monotone_recurses, monotone_vars, laidOut', mapsRow, heads.1, show (Rows.timberMonotoneRow.lifted == Try.pinned.checked.prog.liftsFinal) = true from heads.2.1, show (Try.pinned.checked.prog.make == some Rows.timberMonotoneRow.make) = true from heads.2.2]
  kernel_rfl
theorem monotone_func : Try.pinned.checked.prog.funcNamed Rows.timberMonotoneRow.func = some 8 := by kernel_rfl
theorem monotone_inst : Try.f8.isInstance Try.pinned.checked.prog Rows.timberMonotoneRow.origin Rows.timberMonotoneRow.targs := of_decide_eq_true (by kernel_rfl)
theorem monotone_wrap : Try.f8.isWrapper Try.pinned.checked.prog Rows.timberMonotoneRow.wrapper Rows.timberMonotoneRow.mainSum := by
  unfold Func.isWrapper
  first | (rw [if_pos (by decide +kernel)]; kernel_rfl) | (rw [if_neg (by decide +kernel)]; exact ⟨rfl, rfl⟩)
theorem timberMonotone_holds : Rows.TimberMonotoneSaid :=
  OpenClaim.holds_of_wide 8 Try.f8 rfl rfl rfl rfl rfl rfl rfl ⟨rfl, rfl, rfl, rfl, rfl⟩ rfl rfl rfl rfl rfl monotone_func Try.func8 monotone_facts monotone_inst monotone_wrap
    (fun os started H enc _ => monotone_lifted os started H enc)
#print axioms timberMonotone_holds
end Go.Proofs.Ytnjbhidncicfiaa
