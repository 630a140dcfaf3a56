/- TimberMasses (chapter 2): for every list of species and every board the law returns true, and its arguments read behind the call as before. No condition. -/
import Derived.Test.YtnjbhidncicfiaaRows
import Derived.Test.YtnjbhidncicfiaaB6
import Derived.Test.YtnjbhidncicfiaaO4
import Derived.Test.YtnjbhidncicfiaaFacts
import Derived.WalkKit
import Derived.ProofKit
import Derived.OpenShut
import Derived.ShutString
import Derived.ChangeOld
import Derived.Below
import Derived.Lib.SmallJoins
namespace Go.Proofs.Ytnjbhidncicfiaa
open Go.ChangeShapes Go.WideShapes Go.ChangeAt Go.RowKit Go.Joins


set_option maxRecDepth 100000 in
theorem timberMasses_lifted (os : Os) (started : os.Started) (H : Type) (enc : TypeId × Value → H) :
    ReturnsInHanded {} Try.checked os 14 .any (Rows.timberMassesSpec.pre6 enc Try.prog Try.f14 Rows.timberMassesRow.domain false) (Rows.timberMassesSpec.post enc Try.prog Try.f14 false true false false) := by
  refine returnsInHanded_of_change (C := Try.checked) own started (by kernel_rfl) Try.func14
    (ChangeSpec.witness6 (enc := enc) (C := Try.checked) false ⟨#[], #[.slice none 0 0, .agg #[.string ByteArray.empty, .string ByteArray.empty, .int .i64 0, .int .i64 0, .int .i64 0, .int .i64 0, .int .i64 0, .slice none 0 0]], []⟩ 8 (by kernel_rfl) (by kernel_rfl) (by kernel_rfl) (by kernel_rfl)) ?_
  intro W base args ds gs before hval0 hW hcnd _
  have hval : ∀ (j : Nat) t v, Try.f14.params[j]? = some t → args[j]? = some v → Value.okWide Try.prog W .any base t v := hval0
  have hW' := hW
  obtain ⟨p, q, hA0, hV, rfl, hfz, hnd⟩ := hW
  have hA : DataW.TrodAll enc Try.prog W 0 (fun _ => true) true Try.f14.params.toList args.toList ds p := hA0
  rw [Try.params14] at hA hval
  obtain ⟨v0, v1, d0, d1, p0, p1, rfl, rfl, rfl, h0, h1⟩ := trodAll_two hA
  obtain ⟨rfl, rfl⟩ := trodVars_none hV
  have k0 := h0
  have lt0 : ∀ x ∈ p0, x.block < W.heap.size := by obtain ⟨m, hm⟩ := k0; exact DataW.trod_lt m _ _ _ hm
  have k1 := h1
  have lt1 : ∀ x ∈ p1, x.block < W.heap.size := by obtain ⟨m, hm⟩ := k1; exact DataW.trod_lt m _ _ _ hm
  obtain ⟨A0, n0, cp0, xs0, rfl, ln0, row0⟩ := open_species (hval 0 22 v0 rfl rfl) h0
  obtain ⟨bd1, A1, n1, cp1, rfl, bn1, row1⟩ := open_board (hval 1 34 v1 rfl rfl) h1
  clear hA0 hval0
  refine (masses_law A0 n0 cp0 xs0 bd1 A1 n1 cp1 ln0 bn1 W row0 row1).mono fun e W' ⟨he, bel⟩ => ?_
  subst he
  exact ⟨_, rfl, _, _, _, [], _, [], hW', trodAll_mk1 (shut_bool Try.underlying4 _), trodAll_mk2 (Below.trod laidOut (by kernel_rfl) (of_decide_eq_true (by kernel_rfl)) k0 bel lt0) (Below.trod laidOut (by kernel_rfl) (of_decide_eq_true (by kernel_rfl)) k1 bel lt1), rfl, bel.frame _, fun h => by cases h⟩

theorem timberMasses_place : (Rows.timberMassesRow.inPlace == Try.pinned.checked.prog.inPlace 14) = true := by kernel_rfl
theorem timberMasses_unfollowed : (Rows.timberMassesRow.unfollowed == Try.pinned.checked.prog.unfollowed 14) = true := by kernel_rfl
theorem timberMasses_recurses : (Rows.timberMassesRow.recurses == Try.pinned.checked.prog.recurses 14) = true := by kernel_rfl
theorem timberMasses_vars : (Rows.timberMassesRow.named == Try.pinned.checked.prog.varsNamed 14) = true := by kernel_rfl
theorem timberMasses_facts : joinedFacts Try.pinned.checked.prog 14 Try.f14 Rows.timberMassesSpec Rows.timberMassesRow = true := by
  unfold joinedFacts
  rw [timberMasses_place, timberMasses_unfollowed, timberMasses_recurses, timberMasses_vars, laidOut', mapsRow, heads.1, show (Rows.timberMassesRow.lifted == Try.pinned.checked.prog.liftsFinal) = true from heads.2.1, show (Try.pinned.checked.prog.make == some Rows.timberMassesRow.make) = true from heads.2.2]
  kernel_rfl
theorem timberMasses_func : Try.pinned.checked.prog.funcNamed Rows.timberMassesRow.func = some 14 := by kernel_rfl
theorem timberMasses_inst : Try.f14.isInstance Try.pinned.checked.prog Rows.timberMassesRow.origin Rows.timberMassesRow.targs := of_decide_eq_true (by kernel_rfl)
theorem timberMasses_wrap : Try.f14.isWrapper Try.pinned.checked.prog Rows.timberMassesRow.wrapper Rows.timberMassesRow.mainSum := by
  unfold Func.isWrapper
  first | (rw [if_pos (by decide +kernel)]; kernel_rfl) | (rw [if_neg (by decide +kernel)]; exact ⟨rfl, rfl⟩)
theorem timberMasses_holds : Rows.TimberMassesSaid :=
  OpenClaim.holds_of_wide 14 Try.f14 rfl rfl rfl rfl rfl rfl rfl ⟨rfl, rfl, rfl, rfl, rfl⟩ rfl rfl rfl rfl rfl timberMasses_func Try.func14 timberMasses_facts timberMasses_inst timberMasses_wrap
    (fun os started H enc _ => timberMasses_lifted os started H enc)
#print axioms timberMasses_holds
end Go.Proofs.Ytnjbhidncicfiaa
