/- FitSlots (chapter 6): for every piece, every diameter and every list of seasons the law returns true, and its arguments read behind the call as before. No condition. -/
import Derived.Test.YtcjhodlimpgegaaRows
import Derived.Test.YtcjhodlimpgegaaFZ
import Derived.Test.YtcjhodlimpgegaaGO
import Derived.Test.YtcjhodlimpgegaaFacts
import Derived.WalkKit
import Derived.ProofKit
import Derived.OpenShut
import Derived.ShutString
import Derived.ChangeOld
import Derived.Below
import Derived.Lib.SmallJoins
namespace Go.Proofs.Ytcjhodlimpgegaa
open Go.ChangeShapes Go.WideShapes Go.ChangeAt Go.RowKit Go.Joins

set_option maxRecDepth 100000 in
theorem fitSlots_lifted (os : Os) (started : os.Started) (H : Type) (enc : TypeId × Value → H) :
    ReturnsInHanded {} Try.checked os 5 .any (Rows.fitSlotsSpec.pre6 enc Try.prog Try.f5 Rows.fitSlotsRow.domain false) (Rows.fitSlotsSpec.post enc Try.prog Try.f5 false true false false) := by
  refine returnsInHanded_of_change (C := Try.checked) own started (by kernel_rfl) Try.func5
    (ChangeSpec.witness6 (enc := enc) (C := Try.checked) false ⟨#[], #[.agg #[.int .i64 0, .int .i64 0, .int .i64 0, .int .i64 0, .int .i64 0, .int .i64 0], .int .i64 0, .slice none 0 0], []⟩ 8 (by kernel_rfl) (by kernel_rfl) (by kernel_rfl) (by kernel_rfl)) ?_
  intro W base args ds gs before hval0 hW hcnd _
  have hval : ∀ (j : Nat) t v, Try.f5.params[j]? = some t → args[j]? = some v → Value.okWide Try.prog W .any base t v := hval0
  have hW' := hW
  obtain ⟨p, q, hA0, hV, rfl, hfz, hnd⟩ := hW
  have hA : DataW.TrodAll enc Try.prog W 0 (fun _ => true) true Try.f5.params.toList args.toList ds p := hA0
  rw [Try.params5] at hA hval
  obtain ⟨v0, v1, v2, d0, d1, d2, p0, p1, p2, rfl, rfl, rfl, h0, h1, h2⟩ := trodAll_three hA
  obtain ⟨rfl, rfl⟩ := trodVars_none hV
  have k0 := h0
  have lt0 : ∀ x ∈ p0, x.block < W.heap.size := by obtain ⟨m, hm⟩ := k0; exact DataW.trod_lt m _ _ _ hm
  have k1 := h1
  have lt1 : ∀ x ∈ p1, x.block < W.heap.size := by obtain ⟨m, hm⟩ := k1; exact DataW.trod_lt m _ _ _ hm
  have k2 := h2
  have lt2 : ∀ x ∈ p2, x.block < W.heap.size := by obtain ⟨m, hm⟩ := k2; exact DataW.trod_lt m _ _ _ hm
  obtain ⟨x0, rfl⟩ := open_md (hval 0 44 v0 rfl rfl) h0
  obtain ⟨a1, rfl, -, -, wf1⟩ := open_int Try.underlying3 (hval 1 3 v1 rfl rfl) h1
  obtain ⟨A2, n2, cp2, xs2, rfl, ln2, row2⟩ := open_seasons (hval 2 23 v2 rfl rfl) h2
  clear hA0 hval0
  refine (fitSlots_law x0 a1 A2 n2 cp2 xs2 ln2 W row2).mono fun e W' ⟨he, bel⟩ => ?_
  subst he
  exact ⟨_, rfl, _, _, _, [], _, [], hW', trodAll_mk1 (shut_bool Try.underlying4 _), trodAll_mk3 (Below.trod laidOut (by kernel_rfl) (of_decide_eq_true (by kernel_rfl)) k0 bel lt0) (Below.trod laidOut (by kernel_rfl) (of_decide_eq_true (by kernel_rfl)) k1 bel lt1) (Below.trod laidOut (by kernel_rfl) (of_decide_eq_true (by kernel_rfl)) k2 bel lt2), rfl, bel.frame _, fun h => by cases h⟩

theorem fitSlots_place : (Rows.fitSlotsRow.inPlace == Try.pinned.checked.prog.inPlace 5) = true := by kernel_rfl
theorem fitSlots_unfollowed : (Rows.fitSlotsRow.unfollowed == Try.pinned.checked.prog.unfollowed 5) = true := by kernel_rfl
theorem fitSlots_recurses : (Rows.fitSlotsRow.recurses == Try.pinned.checked.prog.recurses 5) = true := by kernel_rfl
theorem fitSlots_vars : (Rows.fitSlotsRow.named == Try.pinned.checked.prog.varsNamed 5) = true := by kernel_rfl
theorem fitSlots_facts : joinedFacts Try.pinned.checked.prog 5 Try.f5 Rows.fitSlotsSpec Rows.fitSlotsRow = true := by
  unfold joinedFacts
  rw [fitSlots_place, fitSlots_unfollowed, fitSlots_recurses, fitSlots_vars, laidOut', mapsRow, heads.1, show (Rows.fitSlotsRow.lifted == Try.pinned.checked.prog.liftsFinal) = true from heads.2.1, show (Try.pinned.checked.prog.make == some Rows.fitSlotsRow.make) = true from heads.2.2]
  kernel_rfl
theorem fitSlots_func : Try.pinned.checked.prog.funcNamed Rows.fitSlotsRow.func = some 5 := by kernel_rfl
theorem fitSlots_inst : Try.f5.isInstance Try.pinned.checked.prog Rows.fitSlotsRow.origin Rows.fitSlotsRow.targs := of_decide_eq_true (by kernel_rfl)
theorem fitSlots_wrap : Try.f5.isWrapper Try.pinned.checked.prog Rows.fitSlotsRow.wrapper Rows.fitSlotsRow.mainSum := by
  unfold Func.isWrapper
  first | (rw [if_pos (by decide +kernel)]; kernel_rfl) | (rw [if_neg (by decide +kernel)]; exact ⟨rfl, rfl⟩)
theorem fitSlots_holds : Rows.FitSlotsSaid :=
  OpenClaim.holds_of_wide 5 Try.f5 rfl rfl rfl rfl rfl rfl rfl ⟨rfl, rfl, rfl, rfl, rfl⟩ rfl rfl rfl rfl rfl fitSlots_func Try.func5 fitSlots_facts fitSlots_inst fitSlots_wrap
    (fun os started H enc _ => fitSlots_lifted os started H enc)
#print axioms fitSlots_holds
end Go.Proofs.Ytcjhodlimpgegaa
