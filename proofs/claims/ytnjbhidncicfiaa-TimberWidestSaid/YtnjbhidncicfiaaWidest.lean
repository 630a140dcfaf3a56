/- TimberWidest (chapter 2): for every board, length and rectangle the law returns true, and its arguments read behind the call as before. No condition. -/
import Derived.Test.YtnjbhidncicfiaaRows
import Derived.Test.YtnjbhidncicfiaaG5
import Derived.Test.YtnjbhidncicfiaaO4
import Derived.Test.YtnjbhidncicfiaaFacts
import Derived.WalkKit
import Derived.ProofKit
import Derived.OpenShut
import Derived.ShutString
import Derived.ChangeOld
import Derived.Below
import Derived.Lib.SmallJoins
namespace Go.Proofs.Ytnjbhidncicfiaa
open Go.ChangeShapes Go.WideShapes Go.ChangeAt Go.RowKit Go.Joins
theorem cells75 : Try.prog.cellsOf 75 = 4 := by kernel_rfl

set_option maxRecDepth 100000 in
theorem timberWidest_lifted (os : Os) (started : os.Started) (H : Type) (enc : TypeId × Value → H) :
    ReturnsInHanded {} Try.checked os 12 .any (Rows.timberWidestSpec.pre6 enc Try.prog Try.f12 Rows.timberWidestRow.domain false) (Rows.timberWidestSpec.post enc Try.prog Try.f12 false true false false) := by
  refine returnsInHanded_of_change (C := Try.checked) own started (by kernel_rfl) Try.func12
    (ChangeSpec.witness6 (enc := enc) (C := Try.checked) false ⟨#[], #[.agg #[.string ByteArray.empty, .string ByteArray.empty, .int .i64 0, .int .i64 0, .int .i64 0, .int .i64 0, .int .i64 0, .slice none 0 0], .int .i64 0, .agg #[.int .i64 0, .int .i64 0, .int .i64 0, .int .i64 0]], []⟩ 8 (by kernel_rfl) (by kernel_rfl) (by kernel_rfl) (by kernel_rfl)) ?_
  intro W base args ds gs before hval0 hW hcnd _
  have hval : ∀ (j : Nat) t v, Try.f12.params[j]? = some t → args[j]? = some v → Value.okWide Try.prog W .any base t v := hval0
  have hW' := hW
  obtain ⟨p, q, hA0, hV, rfl, hfz, hnd⟩ := hW
  have hA : DataW.TrodAll enc Try.prog W 0 (fun _ => true) true Try.f12.params.toList args.toList ds p := hA0
  rw [Try.params12] at hA hval
  obtain ⟨v0, v1, v2, d0, d1, d2, p0, p1, p2, rfl, rfl, rfl, h0, h1, h2⟩ := trodAll_three hA
  obtain ⟨rfl, rfl⟩ := trodVars_none hV
  have k0 := h0
  have lt0 : ∀ x ∈ p0, x.block < W.heap.size := by obtain ⟨m, hm⟩ := k0; exact DataW.trod_lt m _ _ _ hm
  have k1 := h1
  have lt1 : ∀ x ∈ p1, x.block < W.heap.size := by obtain ⟨m, hm⟩ := k1; exact DataW.trod_lt m _ _ _ hm
  have k2 := h2
  have lt2 : ∀ x ∈ p2, x.block < W.heap.size := by obtain ⟨m, hm⟩ := k2; exact DataW.trod_lt m _ _ _ hm
  obtain ⟨bd0, A0, n0, cp0, rfl, bn0, row0⟩ := open_board (hval 0 34 v0 rfl rfl) h0
  obtain ⟨a1, rfl, -, -, wf1⟩ := open_int Try.underlying3 (hval 1 3 v1 rfl rfl) h1
  obtain ⟨c20, c21, c22, c23, y20, y21, y22, y23, m2, rfl, -, -, hy20, hy21, hy22, hy23⟩ := open_agg4 Try.underlying75 (by kernel_rfl) cells75 (hval 2 75 v2 rfl rfl) h2
  obtain ⟨b20, e20, -, -⟩ := DataW.trod_int Try.underlying3 hy20
  obtain ⟨b21, e21, -, -⟩ := DataW.trod_int Try.underlying3 hy21
  obtain ⟨b22, e22, -, -⟩ := DataW.trod_int Try.underlying3 hy22
  obtain ⟨b23, e23, -, -⟩ := DataW.trod_int Try.underlying3 hy23
  simp at e20 e21 e22 e23; subst e20 e21 e22 e23
  clear hA0 hval0
  refine (lwid_law bd0 A0 n0 cp0 a1 b20 b21 b22 b23 bn0 W row0).mono fun e W' ⟨he, bel⟩ => ?_
  subst he
  exact ⟨_, rfl, _, _, _, [], _, [], hW', trodAll_mk1 (shut_bool Try.underlying4 _), trodAll_mk3 (Below.trod laidOut (by kernel_rfl) (of_decide_eq_true (by kernel_rfl)) k0 bel lt0) (Below.trod laidOut (by kernel_rfl) (of_decide_eq_true (by kernel_rfl)) k1 bel lt1) (Below.trod laidOut (by kernel_rfl) (of_decide_eq_true (by kernel_rfl)) k2 bel lt2), rfl, bel.frame _, fun h => by cases h⟩

theorem timberWidest_place : (Rows.timberWidestRow.inPlace == Try.pinned.checked.prog.inPlace 12) = true := by kernel_rfl
theorem timberWidest_unfollowed : (Rows.timberWidestRow.unfollowed == Try.pinned.checked.prog.unfollowed 12) = true := by kernel_rfl
theorem timberWidest_recurses : (Rows.timberWidestRow.recurses == Try.pinned.checked.prog.recurses 12) = true := by kernel_rfl
theorem timberWidest_vars : (Rows.timberWidestRow.named == Try.pinned.checked.prog.varsNamed 12) = true := by kernel_rfl
theorem timberWidest_facts : joinedFacts Try.pinned.checked.prog 12 Try.f12 Rows.timberWidestSpec Rows.timberWidestRow = true := by
  unfold joinedFacts
  rw [timberWidest_place, timberWidest_unfollowed, timberWidest_recurses, timberWidest_vars, laidOut', mapsRow, heads.1, show (Rows.timberWidestRow.lifted == Try.pinned.checked.prog.liftsFinal) = true from heads.2.1, show (Try.pinned.checked.prog.make == some Rows.timberWidestRow.make) = true from heads.2.2]
  kernel_rfl
theorem timberWidest_func : Try.pinned.checked.prog.funcNamed Rows.timberWidestRow.func = some 12 := by kernel_rfl
theorem timberWidest_inst : Try.f12.isInstance Try.pinned.checked.prog Rows.timberWidestRow.origin Rows.timberWidestRow.targs := of_decide_eq_true (by kernel_rfl)
theorem timberWidest_wrap : Try.f12.isWrapper Try.pinned.checked.prog Rows.timberWidestRow.wrapper Rows.timberWidestRow.mainSum := by
  unfold Func.isWrapper
  first | (rw [if_pos (by decide +kernel)]; kernel_rfl) | (rw [if_neg (by decide +kernel)]; exact ⟨rfl, rfl⟩)
theorem timberWidest_holds : Rows.TimberWidestSaid :=
  OpenClaim.holds_of_wide 12 Try.f12 rfl rfl rfl rfl rfl rfl rfl ⟨rfl, rfl, rfl, rfl, rfl⟩ rfl rfl rfl rfl rfl timberWidest_func Try.func12 timberWidest_facts timberWidest_inst timberWidest_wrap
    (fun os started H enc _ => timberWidest_lifted os started H enc)
#print axioms timberWidest_holds
end Go.Proofs.Ytnjbhidncicfiaa
