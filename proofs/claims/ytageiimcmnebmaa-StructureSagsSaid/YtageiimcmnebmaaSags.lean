/- For every beam, burden, stiffness and place, in whatever memory: the law of sags answers true; no condition. -/
import Derived.Test.YtageiimcmnebmaaRows
import Derived.Test.YtageiimcmnebmaaDH
import Derived.Test.YtageiimcmnebmaaOPC
import Derived.Test.YtageiimcmnebmaaOPD
import Derived.Test.YtageiimcmnebmaaFacts
import Derived.WalkKit
import Derived.ProofKit
import Derived.OpenShut
import Derived.ShutString
import Derived.ChangeOld
import Derived.Below
import Derived.Lib.SmallJoins
namespace Go.Proofs.Ytageiimcmnebmaa
open Go.ChangeShapes Go.WideShapes Go.ChangeAt Go.RowKit Go.Joins

set_option maxRecDepth 100000 in
theorem structureSags_lifted (os : Os) (started : os.Started) (H : Type) (enc : TypeId × Value → H) :
    ReturnsInHanded {} Try.checked os 6 .any (Rows.structureSagsSpec.pre6 enc Try.prog Try.f6 Rows.structureSagsRow.domain false) (Rows.structureSagsSpec.post enc Try.prog Try.f6 false true false false) := by
  refine returnsInHanded_of_change (C := Try.checked) own started (by kernel_rfl) Try.func6
    (ChangeSpec.witness6 (enc := enc) (C := Try.checked) false ⟨#[], #[.agg #[.int .i64 0, .int .i64 0, .int .i64 0, .int .i64 0], .agg #[.slice none 0 0, .int .i64 0], .agg #[.int .i64 0, .int .i64 0]], []⟩ 8 (by kernel_rfl) (by kernel_rfl) (by kernel_rfl) (by kernel_rfl)) ?_
  intro W base args ds gs before hval0 hW hcnd _
  have hval : ∀ (j : Nat) t v, Try.f6.params[j]? = some t → args[j]? = some v → Value.okWide Try.prog W .any base t v := hval0
  have hW' := hW
  obtain ⟨p, q, hA0, hV, rfl, hfz, hnd⟩ := hW
  have hA : DataW.TrodAll enc Try.prog W 0 (fun _ => true) true Try.f6.params.toList args.toList ds p := hA0
  rw [Try.params6] at hA hval
  obtain ⟨v0, v1, v2, d0, d1, d2, p0, p1, p2, rfl, rfl, rfl, h0, h1, h2⟩ := trodAll_three hA
  obtain ⟨rfl, rfl⟩ := trodVars_none hV
  have k0 := h0
  have lt0 : ∀ x ∈ p0, x.block < W.heap.size := by obtain ⟨m, hm⟩ := k0; exact DataW.trod_lt m _ _ _ hm
  have k1 := h1
  have lt1 : ∀ x ∈ p1, x.block < W.heap.size := by obtain ⟨m, hm⟩ := k1; exact DataW.trod_lt m _ _ _ hm
  have k2 := h2
  have lt2 : ∀ x ∈ p2, x.block < W.heap.size := by obtain ⟨m, hm⟩ := k2; exact DataW.trod_lt m _ _ _ hm
  obtain ⟨x0, rfl⟩ := open_beam (hval 0 23 v0 rfl rfl) h0
  obtain ⟨A1, n1, cp1, S1, l1, rfl, ln1, row1⟩ := open_burden (hval 1 26 v1 rfl rfl) h1
  obtain ⟨a2, b2, rfl⟩ := open_bend (hval 2 56 v2 rfl rfl) h2
  clear hA0 hval0
  refine (sags_walk x0 A1 n1 cp1 S1 l1 a2 b2 ln1 W row1).mono fun e W' ⟨he, bel⟩ => ?_
  subst he
  exact ⟨_, rfl, _, _, _, [], _, [], hW', trodAll_mk1 (shut_bool Try.underlying4 _), trodAll_mk3 (Below.trod laidOut (by kernel_rfl) (of_decide_eq_true (by kernel_rfl)) k0 bel lt0) (Below.trod laidOut (by kernel_rfl) (of_decide_eq_true (by kernel_rfl)) k1 bel lt1) (Below.trod laidOut (by kernel_rfl) (of_decide_eq_true (by kernel_rfl)) k2 bel lt2), rfl, bel.frame _, fun h => by cases h⟩

theorem structureSags_place : (Rows.structureSagsRow.inPlace == Try.pinned.checked.prog.inPlace 6) = true := by kernel_rfl
theorem structureSags_unfollowed : (Rows.structureSagsRow.unfollowed == Try.pinned.checked.prog.unfollowed 6) = true := by kernel_rfl
theorem structureSags_recurses : (Rows.structureSagsRow.recurses == Try.pinned.checked.prog.recurses 6) = true := by kernel_rfl
theorem structureSags_vars : (Rows.structureSagsRow.named == Try.pinned.checked.prog.varsNamed 6) = true := by kernel_rfl
theorem structureSags_facts : joinedFacts Try.pinned.checked.prog 6 Try.f6 Rows.structureSagsSpec Rows.structureSagsRow = true := by
  unfold joinedFacts
  rw [structureSags_place, structureSags_unfollowed, structureSags_recurses, structureSags_vars, laidOut', mapsRow, heads.1, show (Rows.structureSagsRow.lifted == Try.pinned.checked.prog.liftsFinal) = true from heads.2.1, show (Try.pinned.checked.prog.make == some Rows.structureSagsRow.make) = true from heads.2.2]
  kernel_rfl
theorem structureSags_func : Try.pinned.checked.prog.funcNamed Rows.structureSagsRow.func = some 6 := by kernel_rfl
theorem structureSags_inst : Try.f6.isInstance Try.pinned.checked.prog Rows.structureSagsRow.origin Rows.structureSagsRow.targs := of_decide_eq_true (by kernel_rfl)
theorem structureSags_wrap : Try.f6.isWrapper Try.pinned.checked.prog Rows.structureSagsRow.wrapper Rows.structureSagsRow.mainSum := by
  unfold Func.isWrapper
  first | (rw [if_pos (by decide +kernel)]; kernel_rfl) | (rw [if_neg (by decide +kernel)]; exact ⟨rfl, rfl⟩)
theorem structureSags_holds : Rows.StructureSagsSaid :=
  OpenClaim.holds_of_wide 6 Try.f6 rfl rfl rfl rfl rfl rfl rfl ⟨rfl, rfl, rfl, rfl, rfl⟩ rfl rfl rfl rfl rfl structureSags_func Try.func6 structureSags_facts structureSags_inst structureSags_wrap
    (fun os started H enc _ => structureSags_lifted os started H enc)
#print axioms structureSags_holds
end Go.Proofs.Ytageiimcmnebmaa
