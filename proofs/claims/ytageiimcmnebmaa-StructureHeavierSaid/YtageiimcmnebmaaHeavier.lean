/- For every burden and thousandths, in whatever memory: the law of heavier weights answers true; no condition. -/
import Derived.Test.YtageiimcmnebmaaRows
import Derived.Test.YtageiimcmnebmaaEG
import Derived.Test.YtageiimcmnebmaaOPC
import Derived.Test.YtageiimcmnebmaaFacts
import Derived.WalkKit
import Derived.ProofKit
import Derived.OpenShut
import Derived.ShutString
import Derived.ChangeOld
import Derived.Below
import Derived.Lib.SmallJoins
namespace Go.Proofs.Ytageiimcmnebmaa
open Go.ChangeShapes Go.WideShapes Go.ChangeAt Go.RowKit Go.Joins

set_option maxRecDepth 100000 in
theorem structureHeavier_lifted (os : Os) (started : os.Started) (H : Type) (enc : TypeId × Value → H) :
    ReturnsInHanded {} Try.checked os 7 .any (Rows.structureHeavierSpec.pre6 enc Try.prog Try.f7 Rows.structureHeavierRow.domain false) (Rows.structureHeavierSpec.post enc Try.prog Try.f7 false true false false) := by
  refine returnsInHanded_of_change (C := Try.checked) own started (by kernel_rfl) Try.func7
    (ChangeSpec.witness6 (enc := enc) (C := Try.checked) false ⟨#[], #[.agg #[.slice none 0 0, .int .i64 0], .int .i64 0], []⟩ 8 (by kernel_rfl) (by kernel_rfl) (by kernel_rfl) (by kernel_rfl)) ?_
  intro W base args ds gs before hval0 hW hcnd _
  have hval : ∀ (j : Nat) t v, Try.f7.params[j]? = some t → args[j]? = some v → Value.okWide Try.prog W .any base t v := hval0
  have hW' := hW
  obtain ⟨p, q, hA0, hV, rfl, hfz, hnd⟩ := hW
  have hA : DataW.TrodAll enc Try.prog W 0 (fun _ => true) true Try.f7.params.toList args.toList ds p := hA0
  rw [Try.params7] at hA hval
  obtain ⟨v0, v1, d0, d1, p0, p1, rfl, rfl, rfl, h0, h1⟩ := trodAll_two hA
  obtain ⟨rfl, rfl⟩ := trodVars_none hV
  have k0 := h0
  have lt0 : ∀ x ∈ p0, x.block < W.heap.size := by obtain ⟨m, hm⟩ := k0; exact DataW.trod_lt m _ _ _ hm
  have k1 := h1
  have lt1 : ∀ x ∈ p1, x.block < W.heap.size := by obtain ⟨m, hm⟩ := k1; exact DataW.trod_lt m _ _ _ hm
  obtain ⟨A0, n0, cp0, S0, l0, rfl, ln0, row0⟩ := open_burden (hval 0 26 v0 rfl rfl) h0
  obtain ⟨a1, rfl, -, -, wf1⟩ := open_int Try.underlying3 (hval 1 3 v1 rfl rfl) h1
  clear hA0 hval0
  refine (heavier_walk A0 n0 cp0 S0 l0 a1 ln0 W row0).mono fun e W' ⟨he, bel⟩ => ?_
  subst he
  exact ⟨_, rfl, _, _, _, [], _, [], hW', trodAll_mk1 (shut_bool Try.underlying4 _), trodAll_mk2 (Below.trod laidOut (by kernel_rfl) (of_decide_eq_true (by kernel_rfl)) k0 bel lt0) (Below.trod laidOut (by kernel_rfl) (of_decide_eq_true (by kernel_rfl)) k1 bel lt1), rfl, bel.frame _, fun h => by cases h⟩

theorem structureHeavier_place : (Rows.structureHeavierRow.inPlace == Try.pinned.checked.prog.inPlace 7) = true := by kernel_rfl
theorem structureHeavier_unfollowed : (Rows.structureHeavierRow.unfollowed == Try.pinned.checked.prog.unfollowed 7) = true := by kernel_rfl
theorem structureHeavier_recurses : (Rows.structureHeavierRow.recurses == Try.pinned.checked.prog.recurses 7) = true := by kernel_rfl
theorem structureHeavier_vars : (Rows.structureHeavierRow.named == Try.pinned.checked.prog.varsNamed 7) = true := by kernel_rfl
theorem structureHeavier_facts : joinedFacts Try.pinned.checked.prog 7 Try.f7 Rows.structureHeavierSpec Rows.structureHeavierRow = true := by
  unfold joinedFacts
  rw [structureHeavier_place, structureHeavier_unfollowed, structureHeavier_recurses, structureHeavier_vars, laidOut', mapsRow, heads.1, show (Rows.structureHeavierRow.lifted == Try.pinned.checked.prog.liftsFinal) = true from heads.2.1, show (Try.pinned.checked.prog.make == some Rows.structureHeavierRow.make) = true from heads.2.2]
  kernel_rfl
theorem structureHeavier_func : Try.pinned.checked.prog.funcNamed Rows.structureHeavierRow.func = some 7 := by kernel_rfl
theorem structureHeavier_inst : Try.f7.isInstance Try.pinned.checked.prog Rows.structureHeavierRow.origin Rows.structureHeavierRow.targs := of_decide_eq_true (by kernel_rfl)
theorem structureHeavier_wrap : Try.f7.isWrapper Try.pinned.checked.prog Rows.structureHeavierRow.wrapper Rows.structureHeavierRow.mainSum := by
  unfold Func.isWrapper
  first | (rw [if_pos (by decide +kernel)]; kernel_rfl) | (rw [if_neg (by decide +kernel)]; exact ⟨rfl, rfl⟩)
theorem structureHeavier_holds : Rows.StructureHeavierSaid :=
  OpenClaim.holds_of_wide 7 Try.f7 rfl rfl rfl rfl rfl rfl rfl ⟨rfl, rfl, rfl, rfl, rfl⟩ rfl rfl rfl rfl rfl structureHeavier_func Try.func7 structureHeavier_facts structureHeavier_inst structureHeavier_wrap
    (fun os started H enc _ => structureHeavier_lifted os started H enc)
#print axioms structureHeavier_holds
end Go.Proofs.Ytageiimcmnebmaa
