/- TimberClear (chapter 2): for every board and every place the law returns true, and its arguments read behind the call as before. No condition. -/
import Derived.Test.YtnjbhidncicfiaaRows
import Derived.Test.YtnjbhidncicfiaaEC
import Derived.Test.YtnjbhidncicfiaaO4
import Derived.Test.YtnjbhidncicfiaaFacts
import Derived.WalkKit
import Derived.ProofKit
import Derived.OpenShut
import Derived.ShutString
import Derived.ChangeOld
import Derived.Below
import Derived.Lib.SmallJoins
namespace Go.Proofs.Ytnjbhidncicfiaa
open Go.ChangeShapes Go.WideShapes Go.ChangeAt Go.RowKit Go.Joins


set_option maxRecDepth 100000 in
theorem timberClear_lifted (os : Os) (started : os.Started) (H : Type) (enc : TypeId × Value → H) :
    ReturnsInHanded {} Try.checked os 11 .any (Rows.timberClearSpec.pre6 enc Try.prog Try.f11 Rows.timberClearRow.domain false) (Rows.timberClearSpec.post enc Try.prog Try.f11 false true false false) := by
  refine returnsInHanded_of_change (C := Try.checked) own started (by kernel_rfl) Try.func11
    (ChangeSpec.witness6 (enc := enc) (C := Try.checked) false ⟨#[], #[.agg #[.string ByteArray.empty, .string ByteArray.empty, .int .i64 0, .int .i64 0, .int .i64 0, .int .i64 0, .int .i64 0, .slice none 0 0], .int .i64 0], []⟩ 8 (by kernel_rfl) (by kernel_rfl) (by kernel_rfl) (by kernel_rfl)) ?_
  intro W base args ds gs before hval0 hW hcnd _
  have hval : ∀ (j : Nat) t v, Try.f11.params[j]? = some t → args[j]? = some v → Value.okWide Try.prog W .any base t v := hval0
  have hW' := hW
  obtain ⟨p, q, hA0, hV, rfl, hfz, hnd⟩ := hW
  have hA : DataW.TrodAll enc Try.prog W 0 (fun _ => true) true Try.f11.params.toList args.toList ds p := hA0
  rw [Try.params11] at hA hval
  obtain ⟨v0, v1, d0, d1, p0, p1, rfl, rfl, rfl, h0, h1⟩ := trodAll_two hA
  obtain ⟨rfl, rfl⟩ := trodVars_none hV
  have k0 := h0
  have lt0 : ∀ x ∈ p0, x.block < W.heap.size := by obtain ⟨m, hm⟩ := k0; exact DataW.trod_lt m _ _ _ hm
  have k1 := h1
  have lt1 : ∀ x ∈ p1, x.block < W.heap.size := by obtain ⟨m, hm⟩ := k1; exact DataW.trod_lt m _ _ _ hm
  obtain ⟨bd0, A0, n0, cp0, rfl, bn0, row0⟩ := open_board (hval 0 34 v0 rfl rfl) h0
  obtain ⟨a1, rfl, -, -, wf1⟩ := open_int Try.underlying3 (hval 1 3 v1 rfl rfl) h1
  clear hA0 hval0
  refine (lclear_law bd0 A0 n0 cp0 a1 bn0 W row0).mono fun e W' ⟨he, bel⟩ => ?_
  subst he
  exact ⟨_, rfl, _, _, _, [], _, [], hW', trodAll_mk1 (shut_bool Try.underlying4 _), trodAll_mk2 (Below.trod laidOut (by kernel_rfl) (of_decide_eq_true (by kernel_rfl)) k0 bel lt0) (Below.trod laidOut (by kernel_rfl) (of_decide_eq_true (by kernel_rfl)) k1 bel lt1), rfl, bel.frame _, fun h => by cases h⟩

theorem timberClear_place : (Rows.timberClearRow.inPlace == Try.pinned.checked.prog.inPlace 11) = true := by kernel_rfl
theorem timberClear_unfollowed : (Rows.timberClearRow.unfollowed == Try.pinned.checked.prog.unfollowed 11) = true := by kernel_rfl
theorem timberClear_recurses : (Rows.timberClearRow.recurses == Try.pinned.checked.prog.recurses 11) = true := by kernel_rfl
theorem timberClear_vars : (Rows.timberClearRow.named == Try.pinned.checked.prog.varsNamed 11) = true := by kernel_rfl
theorem timberClear_facts : joinedFacts Try.pinned.checked.prog 11 Try.f11 Rows.timberClearSpec Rows.timberClearRow = true := by
  unfold joinedFacts
  rw [timberClear_place, timberClear_unfollowed, timberClear_recurses, timberClear_vars, laidOut', mapsRow, heads.1, show (Rows.timberClearRow.lifted == Try.pinned.checked.prog.liftsFinal) = true from heads.2.1, show (Try.pinned.checked.prog.make == some Rows.timberClearRow.make) = true from heads.2.2]
  kernel_rfl
theorem timberClear_func : Try.pinned.checked.prog.funcNamed Rows.timberClearRow.func = some 11 := by kernel_rfl
theorem timberClear_inst : Try.f11.isInstance Try.pinned.checked.prog Rows.timberClearRow.origin Rows.timberClearRow.targs := of_decide_eq_true (by kernel_rfl)
theorem timberClear_wrap : Try.f11.isWrapper Try.pinned.checked.prog Rows.timberClearRow.wrapper Rows.timberClearRow.mainSum := by
  unfold Func.isWrapper
  first | (rw [if_pos (by decide +kernel)]; kernel_rfl) | (rw [if_neg (by decide +kernel)]; exact ⟨rfl, rfl⟩)
theorem timberClear_holds : Rows.TimberClearSaid :=
  OpenClaim.holds_of_wide 11 Try.f11 rfl rfl rfl rfl rfl rfl rfl ⟨rfl, rfl, rfl, rfl, rfl⟩ rfl rfl rfl rfl rfl timberClear_func Try.func11 timberClear_facts timberClear_inst timberClear_wrap
    (fun os started H enc _ => timberClear_lifted os started H enc)
#print axioms timberClear_holds
end Go.Proofs.Ytnjbhidncicfiaa
