/- FitSizes (chapter 6): for every piece, every moisture and every season the law returns true, and its arguments read behind the call as before. No condition. -/
import Derived.Test.YtffmaoalnilkkaaRows
import Derived.Test.YtffmaoalnilkkaaHS
import Derived.Test.YtffmaoalnilkkaaGQ
import Derived.Test.YtffmaoalnilkkaaFacts
import Derived.WalkKit
import Derived.ProofKit
import Derived.OpenShut
import Derived.ShutString
import Derived.ChangeOld
import Derived.Below
import Derived.Lib.SmallJoins
namespace Go.Proofs.Ytffmaoalnilkkaa
open Go.ChangeShapes Go.WideShapes Go.ChangeAt Go.RowKit Go.Joins

set_option maxRecDepth 100000 in
theorem fitSizes_lifted (os : Os) (started : os.Started) (H : Type) (enc : TypeId × Value → H) :
    ReturnsInHanded {} Try.checked os 4 .any (Rows.fitSizesSpec.pre6 enc Try.prog Try.f4 Rows.fitSizesRow.domain false) (Rows.fitSizesSpec.post enc Try.prog Try.f4 false true false false) := by
  refine returnsInHanded_of_change (C := Try.checked) own started (by kernel_rfl) Try.func4
    (ChangeSpec.witness6 (enc := enc) (C := Try.checked) false ⟨#[], #[.agg #[.int .i64 0, .int .i64 0, .int .i64 0, .int .i64 0, .int .i64 0, .int .i64 0], .int .i64 0, .agg #[.string ByteArray.empty, .int .i64 0, .int .i64 0]], []⟩ 8 (by kernel_rfl) (by kernel_rfl) (by kernel_rfl) (by kernel_rfl)) ?_
  intro W base args ds gs before hval0 hW hcnd _
  have hval : ∀ (j : Nat) t v, Try.f4.params[j]? = some t → args[j]? = some v → Value.okWide Try.prog W .any base t v := hval0
  have hW' := hW
  obtain ⟨p, q, hA0, hV, rfl, hfz, hnd⟩ := hW
  have hA : DataW.TrodAll enc Try.prog W 0 (fun _ => true) true Try.f4.params.toList args.toList ds p := hA0
  rw [Try.params4] at hA hval
  obtain ⟨v0, v1, v2, d0, d1, d2, p0, p1, p2, rfl, rfl, rfl, h0, h1, h2⟩ := trodAll_three hA
  obtain ⟨rfl, rfl⟩ := trodVars_none hV
  have k0 := h0
  have lt0 : ∀ x ∈ p0, x.block < W.heap.size := by obtain ⟨m, hm⟩ := k0; exact DataW.trod_lt m _ _ _ hm
  have k1 := h1
  have lt1 : ∀ x ∈ p1, x.block < W.heap.size := by obtain ⟨m, hm⟩ := k1; exact DataW.trod_lt m _ _ _ hm
  have k2 := h2
  have lt2 : ∀ x ∈ p2, x.block < W.heap.size := by obtain ⟨m, hm⟩ := k2; exact DataW.trod_lt m _ _ _ hm
  obtain ⟨x0, rfl⟩ := open_md (hval 0 44 v0 rfl rfl) h0
  obtain ⟨a1, rfl, -, -, wf1⟩ := open_int Try.underlying3 (hval 1 3 v1 rfl rfl) h1
  obtain ⟨s2, rfl, ln2⟩ := open_season (hval 2 46 v2 rfl rfl) h2
  clear hA0 hval0
  refine (fitSizes_walk x0 a1 s2 ln2 W ).mono fun e W' ⟨he, bel⟩ => ?_
  subst he
  exact ⟨_, rfl, _, _, _, [], _, [], hW', trodAll_mk1 (shut_bool Try.underlying4 _), trodAll_mk3 (Below.trod laidOut (by kernel_rfl) (of_decide_eq_true (by kernel_rfl)) k0 bel lt0) (Below.trod laidOut (by kernel_rfl) (of_decide_eq_true (by kernel_rfl)) k1 bel lt1) (Below.trod laidOut (by kernel_rfl) (of_decide_eq_true (by kernel_rfl)) k2 bel lt2), rfl, bel.frame _, fun h => by cases h⟩

theorem fitSizes_place : (Rows.fitSizesRow.inPlace == Try.pinned.checked.prog.inPlace 4) = true := by kernel_rfl
theorem fitSizes_unfollowed : (Rows.fitSizesRow.unfollowed == Try.pinned.checked.prog.unfollowed 4) = true := by kernel_rfl
theorem fitSizes_recurses : (Rows.fitSizesRow.recurses == Try.pinned.checked.prog.recurses 4) = true := by kernel_rfl
theorem fitSizes_vars : (Rows.fitSizesRow.named == Try.pinned.checked.prog.varsNamed 4) = true := by kernel_rfl
theorem fitSizes_facts : joinedFacts Try.pinned.checked.prog 4 Try.f4 Rows.fitSizesSpec Rows.fitSizesRow = true := by
  unfold joinedFacts
  rw [fitSizes_place, fitSizes_unfollowed, fitSizes_recurses, fitSizes_vars, laidOut', mapsRow, heads.1, show (Rows.fitSizesRow.lifted == Try.pinned.checked.prog.liftsFinal) = true from heads.2.1, show (Try.pinned.checked.prog.make == some Rows.fitSizesRow.make) = true from heads.2.2]
  kernel_rfl
theorem fitSizes_func : Try.pinned.checked.prog.funcNamed Rows.fitSizesRow.func = some 4 := by kernel_rfl
theorem fitSizes_inst : Try.f4.isInstance Try.pinned.checked.prog Rows.fitSizesRow.origin Rows.fitSizesRow.targs := of_decide_eq_true (by kernel_rfl)
theorem fitSizes_wrap : Try.f4.isWrapper Try.pinned.checked.prog Rows.fitSizesRow.wrapper Rows.fitSizesRow.mainSum := by
  unfold Func.isWrapper
  first | (rw [if_pos (by decide +kernel)]; kernel_rfl) | (rw [if_neg (by decide +kernel)]; exact ⟨rfl, rfl⟩)
theorem fitSizes_holds : Rows.FitSizesSaid :=
  OpenClaim.holds_of_wide 4 Try.f4 rfl rfl rfl rfl rfl rfl rfl ⟨rfl, rfl, rfl, rfl, rfl⟩ rfl rfl rfl rfl rfl fitSizes_func Try.func4 fitSizes_facts fitSizes_inst fitSizes_wrap
    (fun os started H enc _ => fitSizes_lifted os started H enc)
#print axioms fitSizes_holds
end Go.Proofs.Ytffmaoalnilkkaa
