/- For every beam and burden, in whatever memory: the law of beams answers true; no condition. -/
import Derived.Test.YtageiimcmnebmaaRows
import Derived.Test.YtageiimcmnebmaaDT
import Derived.Test.YtageiimcmnebmaaOPC
import Derived.Test.YtageiimcmnebmaaFacts
import Derived.WalkKit
import Derived.ProofKit
import Derived.OpenShut
import Derived.ShutString
import Derived.ChangeOld
import Derived.Below
import Derived.Lib.SmallJoins
namespace Go.Proofs.Ytageiimcmnebmaa
open Go.ChangeShapes Go.WideShapes Go.ChangeAt Go.RowKit Go.Joins

set_option maxRecDepth 100000 in
theorem structureBeams_lifted (os : Os) (started : os.Started) (H : Type) (enc : TypeId × Value → H) :
    ReturnsInHanded {} Try.checked os 3 .any (Rows.structureBeamsSpec.pre6 enc Try.prog Try.f3 Rows.structureBeamsRow.domain false) (Rows.structureBeamsSpec.post enc Try.prog Try.f3 false true false false) := by
  refine returnsInHanded_of_change (C := Try.checked) own started (by kernel_rfl) Try.func3
    (ChangeSpec.witness6 (enc := enc) (C := Try.checked) false ⟨#[], #[.agg #[.int .i64 0, .int .i64 0, .int .i64 0, .int .i64 0], .agg #[.slice none 0 0, .int .i64 0]], []⟩ 8 (by kernel_rfl) (by kernel_rfl) (by kernel_rfl) (by kernel_rfl)) ?_
  intro W base args ds gs before hval0 hW hcnd _
  have hval : ∀ (j : Nat) t v, Try.f3.params[j]? = some t → args[j]? = some v → Value.okWide Try.prog W .any base t v := hval0
  have hW' := hW
  obtain ⟨p, q, hA0, hV, rfl, hfz, hnd⟩ := hW
  have hA : DataW.TrodAll enc Try.prog W 0 (fun _ => true) true Try.f3.params.toList args.toList ds p := hA0
  rw [Try.params3] at hA hval
  obtain ⟨v0, v1, d0, d1, p0, p1, rfl, rfl, rfl, h0, h1⟩ := trodAll_two hA
  obtain ⟨rfl, rfl⟩ := trodVars_none hV
  have k0 := h0
  have lt0 : ∀ x ∈ p0, x.block < W.heap.size := by obtain ⟨m, hm⟩ := k0; exact DataW.trod_lt m _ _ _ hm
  have k1 := h1
  have lt1 : ∀ x ∈ p1, x.block < W.heap.size := by obtain ⟨m, hm⟩ := k1; exact DataW.trod_lt m _ _ _ hm
  obtain ⟨x0, rfl⟩ := open_beam (hval 0 23 v0 rfl rfl) h0
  obtain ⟨A1, n1, cp1, S1, l1, rfl, ln1, row1⟩ := open_burden (hval 1 26 v1 rfl rfl) h1
  clear hA0 hval0
  refine (beams_walk x0 A1 n1 cp1 S1 l1 ln1 W row1).mono fun e W' ⟨he, bel⟩ => ?_
  subst he
  exact ⟨_, rfl, _, _, _, [], _, [], hW', trodAll_mk1 (shut_bool Try.underlying4 _), trodAll_mk2 (Below.trod laidOut (by kernel_rfl) (of_decide_eq_true (by kernel_rfl)) k0 bel lt0) (Below.trod laidOut (by kernel_rfl) (of_decide_eq_true (by kernel_rfl)) k1 bel lt1), rfl, bel.frame _, fun h => by cases h⟩

theorem structureBeams_place : (Rows.structureBeamsRow.inPlace == Try.pinned.checked.prog.inPlace 3) = true := by kernel_rfl
theorem structureBeams_unfollowed : (Rows.structureBeamsRow.unfollowed == Try.pinned.checked.prog.unfollowed 3) = true := by kernel_rfl
theorem structureBeams_recurses : (Rows.structureBeamsRow.recurses == Try.pinned.checked.prog.recurses 3) = true := by kernel_rfl
theorem structureBeams_vars : (Rows.structureBeamsRow.named == Try.pinned.checked.prog.varsNamed 3) = true := by kernel_rfl
theorem structureBeams_facts : joinedFacts Try.pinned.checked.prog 3 Try.f3 Rows.structureBeamsSpec Rows.structureBeamsRow = true := by
  unfold joinedFacts
  rw [structureBeams_place, structureBeams_unfollowed, structureBeams_recurses, structureBeams_vars, laidOut', mapsRow, heads.1, show (Rows.structureBeamsRow.lifted == Try.pinned.checked.prog.liftsFinal) = true from heads.2.1, show (Try.pinned.checked.prog.make == some Rows.structureBeamsRow.make) = true from heads.2.2]
  kernel_rfl
theorem structureBeams_func : Try.pinned.checked.prog.funcNamed Rows.structureBeamsRow.func = some 3 := by kernel_rfl
theorem structureBeams_inst : Try.f3.isInstance Try.pinned.checked.prog Rows.structureBeamsRow.origin Rows.structureBeamsRow.targs := of_decide_eq_true (by kernel_rfl)
theorem structureBeams_wrap : Try.f3.isWrapper Try.pinned.checked.prog Rows.structureBeamsRow.wrapper Rows.structureBeamsRow.mainSum := by
  unfold Func.isWrapper
  first | (rw [if_pos (by decide +kernel)]; kernel_rfl) | (rw [if_neg (by decide +kernel)]; exact ⟨rfl, rfl⟩)
theorem structureBeams_holds : Rows.StructureBeamsSaid :=
  OpenClaim.holds_of_wide 3 Try.f3 rfl rfl rfl rfl rfl rfl rfl ⟨rfl, rfl, rfl, rfl, rfl⟩ rfl rfl rfl rfl rfl structureBeams_func Try.func3 structureBeams_facts structureBeams_inst structureBeams_wrap
    (fun os started H enc _ => structureBeams_lifted os started H enc)
#print axioms structureBeams_holds
end Go.Proofs.Ytageiimcmnebmaa
