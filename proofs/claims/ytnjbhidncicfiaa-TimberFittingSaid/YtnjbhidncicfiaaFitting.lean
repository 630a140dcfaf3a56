/- TimberFitting (chapter 2): for all lists of species and boards and every blank the law returns true, and its arguments read behind the call as before. No condition. -/
import Derived.Test.YtnjbhidncicfiaaRows
import Derived.Test.YtnjbhidncicfiaaJ4
import Derived.Test.YtnjbhidncicfiaaO3
import Derived.Test.YtnjbhidncicfiaaO5
import Derived.Test.YtnjbhidncicfiaaO7
import Derived.Test.YtnjbhidncicfiaaFacts
import Derived.WalkKit
import Derived.ProofKit
import Derived.OpenShut
import Derived.ShutString
import Derived.ChangeOld
import Derived.Below
import Derived.Lib.SmallJoins
namespace Go.Proofs.Ytnjbhidncicfiaa
open Go.ChangeShapes Go.WideShapes Go.ChangeAt Go.RowKit Go.Joins


set_option maxRecDepth 100000 in
theorem timberFitting_lifted (os : Os) (started : os.Started) (H : Type) (enc : TypeId × Value → H) :
    ReturnsInHanded {} Try.checked os 17 .any (Rows.timberFittingSpec.pre6 enc Try.prog Try.f17 Rows.timberFittingRow.domain false) (Rows.timberFittingSpec.post enc Try.prog Try.f17 false true false false) := by
  refine returnsInHanded_of_change (C := Try.checked) own started (by kernel_rfl) Try.func17
    (ChangeSpec.witness6 (enc := enc) (C := Try.checked) false ⟨#[], #[.slice none 0 0, .slice none 0 0, .agg #[.string ByteArray.empty, .string ByteArray.empty, .int .i64 0, .int .i64 0, .int .i64 0, .int .i64 0]], []⟩ 8 (by kernel_rfl) (by kernel_rfl) (by kernel_rfl) (by kernel_rfl)) ?_
  intro W base args ds gs before hval0 hW hcnd _
  have hval : ∀ (j : Nat) t v, Try.f17.params[j]? = some t → args[j]? = some v → Value.okWide Try.prog W .any base t v := hval0
  have hW' := hW
  obtain ⟨p, q, hA0, hV, rfl, hfz, hnd⟩ := hW
  have hA : DataW.TrodAll enc Try.prog W 0 (fun _ => true) true Try.f17.params.toList args.toList ds p := hA0
  rw [Try.params17] at hA hval
  obtain ⟨v0, v1, v2, d0, d1, d2, p0, p1, p2, rfl, rfl, rfl, h0, h1, h2⟩ := trodAll_three hA
  obtain ⟨rfl, rfl⟩ := trodVars_none hV
  have k0 := h0
  have lt0 : ∀ x ∈ p0, x.block < W.heap.size := by obtain ⟨m, hm⟩ := k0; exact DataW.trod_lt m _ _ _ hm
  have k1 := h1
  have lt1 : ∀ x ∈ p1, x.block < W.heap.size := by obtain ⟨m, hm⟩ := k1; exact DataW.trod_lt m _ _ _ hm
  have k2 := h2
  have lt2 : ∀ x ∈ p2, x.block < W.heap.size := by obtain ⟨m, hm⟩ := k2; exact DataW.trod_lt m _ _ _ hm
  obtain ⟨A0, n0, cp0, xs0, rfl, ln0, row0⟩ := open_species (hval 0 22 v0 rfl rfl) h0
  obtain ⟨A1, n1, cp1, xs1, rfl, ln1, row1⟩ := open_stock (hval 1 35 v1 rfl rfl) h1
  obtain ⟨kn2, ks2, kl2, kw2, kt2, kc2, rfl, bk2⟩ := open_blank (hval 2 116 v2 rfl rfl) h2
  clear hA0 hval0
  refine (fitting_law A0 n0 cp0 xs0 A1 n1 cp1 xs1 kn2 ks2 kl2 kw2 kt2 kc2 ln0 ln1 bk2 W row0 row1).mono fun e W' ⟨he, bel⟩ => ?_
  subst he
  exact ⟨_, rfl, _, _, _, [], _, [], hW', trodAll_mk1 (shut_bool Try.underlying4 _), trodAll_mk3 (Below.trod laidOut (by kernel_rfl) (of_decide_eq_true (by kernel_rfl)) k0 bel lt0) (Below.trod laidOut (by kernel_rfl) (of_decide_eq_true (by kernel_rfl)) k1 bel lt1) (Below.trod laidOut (by kernel_rfl) (of_decide_eq_true (by kernel_rfl)) k2 bel lt2), rfl, bel.frame _, fun h => by cases h⟩

theorem timberFitting_place : (Rows.timberFittingRow.inPlace == Try.pinned.checked.prog.inPlace 17) = true := by kernel_rfl
theorem timberFitting_unfollowed : (Rows.timberFittingRow.unfollowed == Try.pinned.checked.prog.unfollowed 17) = true := by kernel_rfl
theorem timberFitting_recurses : (Rows.timberFittingRow.recurses == Try.pinned.checked.prog.recurses 17) = true := by kernel_rfl
theorem timberFitting_vars : (Rows.timberFittingRow.named == Try.pinned.checked.prog.varsNamed 17) = true := by kernel_rfl
theorem timberFitting_facts : joinedFacts Try.pinned.checked.prog 17 Try.f17 Rows.timberFittingSpec Rows.timberFittingRow = true := by
  unfold joinedFacts
  rw [timberFitting_place, timberFitting_unfollowed, timberFitting_recurses, timberFitting_vars, laidOut', mapsRow, heads.1, show (Rows.timberFittingRow.lifted == Try.pinned.checked.prog.liftsFinal) = true from heads.2.1, show (Try.pinned.checked.prog.make == some Rows.timberFittingRow.make) = true from heads.2.2]
  kernel_rfl
theorem timberFitting_func : Try.pinned.checked.prog.funcNamed Rows.timberFittingRow.func = some 17 := by kernel_rfl
theorem timberFitting_inst : Try.f17.isInstance Try.pinned.checked.prog Rows.timberFittingRow.origin Rows.timberFittingRow.targs := of_decide_eq_true (by kernel_rfl)
theorem timberFitting_wrap : Try.f17.isWrapper Try.pinned.checked.prog Rows.timberFittingRow.wrapper Rows.timberFittingRow.mainSum := by
  unfold Func.isWrapper
  first | (rw [if_pos (by decide +kernel)]; kernel_rfl) | (rw [if_neg (by decide +kernel)]; exact ⟨rfl, rfl⟩)
theorem timberFitting_holds : Rows.TimberFittingSaid :=
  OpenClaim.holds_of_wide 17 Try.f17 rfl rfl rfl rfl rfl rfl rfl ⟨rfl, rfl, rfl, rfl, rfl⟩ rfl rfl rfl rfl rfl timberFitting_func Try.func17 timberFitting_facts timberFitting_inst timberFitting_wrap
    (fun os started H enc _ => timberFitting_lifted os started H enc)
#print axioms timberFitting_holds
end Go.Proofs.Ytnjbhidncicfiaa
