/- FitChecks (chapter 6): for every list of fits and every list of seasons the law returns true, and its arguments read behind the call as before. No condition. -/
import Derived.Test.YtcjhodlimpgegaaRows
import Derived.Test.YtcjhodlimpgegaaGZ
import Derived.Test.YtcjhodlimpgegaaGP
import Derived.Test.YtcjhodlimpgegaaFacts
import Derived.WalkKit
import Derived.ProofKit
import Derived.OpenShut
import Derived.ShutString
import Derived.ChangeOld
import Derived.Below
import Derived.Lib.SmallJoins
namespace Go.Proofs.Ytcjhodlimpgegaa
open Go.ChangeShapes Go.WideShapes Go.ChangeAt Go.RowKit Go.Joins

set_option maxRecDepth 100000 in
theorem fitChecks_lifted (os : Os) (started : os.Started) (H : Type) (enc : TypeId × Value → H) :
    ReturnsInHanded {} Try.checked os 3 .any (Rows.fitChecksSpec.pre6 enc Try.prog Try.f3 Rows.fitChecksRow.domain false) (Rows.fitChecksSpec.post enc Try.prog Try.f3 false true false false) := by
  refine returnsInHanded_of_change (C := Try.checked) own started (by kernel_rfl) Try.func3
    (ChangeSpec.witness6 (enc := enc) (C := Try.checked) false ⟨#[], #[.slice none 0 0, .slice none 0 0], []⟩ 8 (by kernel_rfl) (by kernel_rfl) (by kernel_rfl) (by kernel_rfl)) ?_
  intro W base args ds gs before hval0 hW hcnd _
  have hval : ∀ (j : Nat) t v, Try.f3.params[j]? = some t → args[j]? = some v → Value.okWide Try.prog W .any base t v := hval0
  have hW' := hW
  obtain ⟨p, q, hA0, hV, rfl, hfz, hnd⟩ := hW
  have hA : DataW.TrodAll enc Try.prog W 0 (fun _ => true) true Try.f3.params.toList args.toList ds p := hA0
  rw [Try.params3] at hA hval
  obtain ⟨v0, v1, d0, d1, p0, p1, rfl, rfl, rfl, h0, h1⟩ := trodAll_two hA
  obtain ⟨rfl, rfl⟩ := trodVars_none hV
  have k0 := h0
  have lt0 : ∀ x ∈ p0, x.block < W.heap.size := by obtain ⟨m, hm⟩ := k0; exact DataW.trod_lt m _ _ _ hm
  have k1 := h1
  have lt1 : ∀ x ∈ p1, x.block < W.heap.size := by obtain ⟨m, hm⟩ := k1; exact DataW.trod_lt m _ _ _ hm
  obtain ⟨A0, n0, cp0, xs0, rfl, ln0, row0⟩ := open_fits (hval 0 22 v0 rfl rfl) h0
  obtain ⟨A1, n1, cp1, xs1, rfl, ln1, row1⟩ := open_seasons (hval 1 23 v1 rfl rfl) h1
  clear hA0 hval0
  refine (fitChecks_law A0 n0 cp0 xs0 A1 n1 cp1 xs1 ln0 ln1 W row0 row1).mono fun e W' ⟨he, bel⟩ => ?_
  subst he
  exact ⟨_, rfl, _, _, _, [], _, [], hW', trodAll_mk1 (shut_bool Try.underlying4 _), trodAll_mk2 (Below.trod laidOut (by kernel_rfl) (of_decide_eq_true (by kernel_rfl)) k0 bel lt0) (Below.trod laidOut (by kernel_rfl) (of_decide_eq_true (by kernel_rfl)) k1 bel lt1), rfl, bel.frame _, fun h => by cases h⟩

theorem fitChecks_place : (Rows.fitChecksRow.inPlace == Try.pinned.checked.prog.inPlace 3) = true := by kernel_rfl
theorem fitChecks_unfollowed : (Rows.fitChecksRow.unfollowed == Try.pinned.checked.prog.unfollowed 3) = true := by kernel_rfl
theorem fitChecks_recurses : (Rows.fitChecksRow.recurses == Try.pinned.checked.prog.recurses 3) = true := by kernel_rfl
theorem fitChecks_vars : (Rows.fitChecksRow.named == Try.pinned.checked.prog.varsNamed 3) = true := by kernel_rfl
theorem fitChecks_facts : joinedFacts Try.pinned.checked.prog 3 Try.f3 Rows.fitChecksSpec Rows.fitChecksRow = true := by
  unfold joinedFacts
  rw [fitChecks_place, fitChecks_unfollowed, fitChecks_recurses, fitChecks_vars, laidOut', mapsRow, heads.1, show (Rows.fitChecksRow.lifted == Try.pinned.checked.prog.liftsFinal) = true from heads.2.1, show (Try.pinned.checked.prog.make == some Rows.fitChecksRow.make) = true from heads.2.2]
  kernel_rfl
theorem fitChecks_func : Try.pinned.checked.prog.funcNamed Rows.fitChecksRow.func = some 3 := by kernel_rfl
theorem fitChecks_inst : Try.f3.isInstance Try.pinned.checked.prog Rows.fitChecksRow.origin Rows.fitChecksRow.targs := of_decide_eq_true (by kernel_rfl)
theorem fitChecks_wrap : Try.f3.isWrapper Try.pinned.checked.prog Rows.fitChecksRow.wrapper Rows.fitChecksRow.mainSum := by
  unfold Func.isWrapper
  first | (rw [if_pos (by decide +kernel)]; kernel_rfl) | (rw [if_neg (by decide +kernel)]; exact ⟨rfl, rfl⟩)
theorem fitChecks_holds : Rows.FitChecksSaid :=
  OpenClaim.holds_of_wide 3 Try.f3 rfl rfl rfl rfl rfl rfl rfl ⟨rfl, rfl, rfl, rfl, rfl⟩ rfl rfl rfl rfl rfl fitChecks_func Try.func3 fitChecks_facts fitChecks_inst fitChecks_wrap
    (fun os started H enc _ => fitChecks_lifted os started H enc)
#print axioms fitChecks_holds
end Go.Proofs.Ytcjhodlimpgegaa
