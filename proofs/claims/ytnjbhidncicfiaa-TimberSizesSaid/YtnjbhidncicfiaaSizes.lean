/- TimberSizes (chapter 2): for every list of species, every board and every moisture the law returns true, and its arguments read behind the call as before. No condition. -/
import Derived.Test.YtnjbhidncicfiaaRows
import Derived.Test.YtnjbhidncicfiaaZ3
import Derived.Test.YtnjbhidncicfiaaO4
import Derived.Test.YtnjbhidncicfiaaFacts
import Derived.WalkKit
import Derived.ProofKit
import Derived.OpenShut
import Derived.ShutString
import Derived.ChangeOld
import Derived.Below
import Derived.Lib.SmallJoins
namespace Go.Proofs.Ytnjbhidncicfiaa
open Go.ChangeShapes Go.WideShapes Go.ChangeAt Go.RowKit Go.Joins


set_option maxRecDepth 100000 in
theorem timberSizes_lifted (os : Os) (started : os.Started) (H : Type) (enc : TypeId × Value → H) :
    ReturnsInHanded {} Try.checked os 9 .any (Rows.timberSizesSpec.pre6 enc Try.prog Try.f9 Rows.timberSizesRow.domain false) (Rows.timberSizesSpec.post enc Try.prog Try.f9 false true false false) := by
  refine returnsInHanded_of_change (C := Try.checked) own started (by kernel_rfl) Try.func9
    (ChangeSpec.witness6 (enc := enc) (C := Try.checked) false ⟨#[], #[.slice none 0 0, .agg #[.string ByteArray.empty, .string ByteArray.empty, .int .i64 0, .int .i64 0, .int .i64 0, .int .i64 0, .int .i64 0, .slice none 0 0], .int .i64 0], []⟩ 8 (by kernel_rfl) (by kernel_rfl) (by kernel_rfl) (by kernel_rfl)) ?_
  intro W base args ds gs before hval0 hW hcnd _
  have hval : ∀ (j : Nat) t v, Try.f9.params[j]? = some t → args[j]? = some v → Value.okWide Try.prog W .any base t v := hval0
  have hW' := hW
  obtain ⟨p, q, hA0, hV, rfl, hfz, hnd⟩ := hW
  have hA : DataW.TrodAll enc Try.prog W 0 (fun _ => true) true Try.f9.params.toList args.toList ds p := hA0
  rw [Try.params9] at hA hval
  obtain ⟨v0, v1, v2, d0, d1, d2, p0, p1, p2, rfl, rfl, rfl, h0, h1, h2⟩ := trodAll_three hA
  obtain ⟨rfl, rfl⟩ := trodVars_none hV
  have k0 := h0
  have lt0 : ∀ x ∈ p0, x.block < W.heap.size := by obtain ⟨m, hm⟩ := k0; exact DataW.trod_lt m _ _ _ hm
  have k1 := h1
  have lt1 : ∀ x ∈ p1, x.block < W.heap.size := by obtain ⟨m, hm⟩ := k1; exact DataW.trod_lt m _ _ _ hm
  have k2 := h2
  have lt2 : ∀ x ∈ p2, x.block < W.heap.size := by obtain ⟨m, hm⟩ := k2; exact DataW.trod_lt m _ _ _ hm
  obtain ⟨A0, n0, cp0, xs0, rfl, ln0, row0⟩ := open_species (hval 0 22 v0 rfl rfl) h0
  obtain ⟨bd1, A1, n1, cp1, rfl, bn1, row1⟩ := open_board (hval 1 34 v1 rfl rfl) h1
  obtain ⟨a2, rfl, -, -, wf2⟩ := open_int Try.underlying3 (hval 2 3 v2 rfl rfl) h2
  clear hA0 hval0
  refine (lsizes_law A0 n0 cp0 xs0 bd1 A1 n1 cp1 a2 ln0 bn1 W row0 row1).mono fun e W' ⟨he, bel⟩ => ?_
  subst he
  exact ⟨_, rfl, _, _, _, [], _, [], hW', trodAll_mk1 (shut_bool Try.underlying4 _), trodAll_mk3 (Below.trod laidOut (by kernel_rfl) (of_decide_eq_true (by kernel_rfl)) k0 bel lt0) (Below.trod laidOut (by kernel_rfl) (of_decide_eq_true (by kernel_rfl)) k1 bel lt1) (Below.trod laidOut (by kernel_rfl) (of_decide_eq_true (by kernel_rfl)) k2 bel lt2), rfl, bel.frame _, fun h => by cases h⟩

theorem timberSizes_place : (Rows.timberSizesRow.inPlace == Try.pinned.checked.prog.inPlace 9) = true := by kernel_rfl
theorem timberSizes_unfollowed : (Rows.timberSizesRow.unfollowed == Try.pinned.checked.prog.unfollowed 9) = true := by kernel_rfl
theorem timberSizes_recurses : (Rows.timberSizesRow.recurses == Try.pinned.checked.prog.recurses 9) = true := by kernel_rfl
theorem timberSizes_vars : (Rows.timberSizesRow.named == Try.pinned.checked.prog.varsNamed 9) = true := by kernel_rfl
theorem timberSizes_facts : joinedFacts Try.pinned.checked.prog 9 Try.f9 Rows.timberSizesSpec Rows.timberSizesRow = true := by
  unfold joinedFacts
  rw [timberSizes_place, timberSizes_unfollowed, timberSizes_recurses, timberSizes_vars, laidOut', mapsRow, heads.1, show (Rows.timberSizesRow.lifted == Try.pinned.checked.prog.liftsFinal) = true from heads.2.1, show (Try.pinned.checked.prog.make == some Rows.timberSizesRow.make) = true from heads.2.2]
  kernel_rfl
theorem timberSizes_func : Try.pinned.checked.prog.funcNamed Rows.timberSizesRow.func = some 9 := by kernel_rfl
theorem timberSizes_inst : Try.f9.isInstance Try.pinned.checked.prog Rows.timberSizesRow.origin Rows.timberSizesRow.targs := of_decide_eq_true (by kernel_rfl)
theorem timberSizes_wrap : Try.f9.isWrapper Try.pinned.checked.prog Rows.timberSizesRow.wrapper Rows.timberSizesRow.mainSum := by
  unfold Func.isWrapper
  first | (rw [if_pos (by decide +kernel)]; kernel_rfl) | (rw [if_neg (by decide +kernel)]; exact ⟨rfl, rfl⟩)
theorem timberSizes_holds : Rows.TimberSizesSaid :=
  OpenClaim.holds_of_wide 9 Try.f9 rfl rfl rfl rfl rfl rfl rfl ⟨rfl, rfl, rfl, rfl, rfl⟩ rfl rfl rfl rfl rfl timberSizes_func Try.func9 timberSizes_facts timberSizes_inst timberSizes_wrap
    (fun os started H enc _ => timberSizes_lifted os started H enc)
#print axioms timberSizes_holds
end Go.Proofs.Ytnjbhidncicfiaa
