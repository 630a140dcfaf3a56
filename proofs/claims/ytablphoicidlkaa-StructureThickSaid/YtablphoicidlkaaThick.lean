/- The least thickness that holds is the one that the reference tells; with it the beam holds, with one millimetre less it does not. No condition. -/
import Derived.Test.YtablphoicidlkaaRows
import Derived.WalkKit
import Derived.ProofKit
import Derived.OpenShut
import Derived.ShutString
import Derived.ChangeOld
import Derived.Below
import Derived.Lib.SmallJoins
import Derived.Test.YtablphoicidlkaaMGT
import Derived.Test.YtablphoicidlkaaMGO
import Derived.Test.YtablphoicidlkaaFacts
namespace Go.Proofs.Ytablphoicidlkaa
open Go.ChangeShapes Go.WideShapes Go.ChangeAt Go.RowKit Go.Joins

set_option maxRecDepth 100000 in
theorem structureThick_lifted (os : Os) (started : os.Started) (H : Type) (enc : TypeId × Value → H) :
    ReturnsInHanded {} Try.checked os 11 .any (Rows.structureThickSpec.pre6 enc Try.prog Try.f11 Rows.structureThickRow.domain false) (Rows.structureThickSpec.post enc Try.prog Try.f11 false true false false) := by
  refine returnsInHanded_of_change (C := Try.checked) own started (by kernel_rfl) Try.func11
    (ChangeSpec.witness6 (enc := enc) (C := Try.checked) false ⟨#[], #[.agg #[.int .i64 0, .int .i64 0, .int .i64 0, .int .i64 0], .agg #[.int .i64 0, .int .i64 0, .int .i64 0, .slice none 0 0, .int .i64 0, .int .i64 0]], []⟩ 8 (by kernel_rfl) (by kernel_rfl) (by kernel_rfl) (by kernel_rfl)) ?_
  intro W base args ds gs before hval0 hW hcnd _
  have hval : ∀ (j : Nat) t v, Try.f11.params[j]? = some t → args[j]? = some v → Value.okWide Try.prog W .any base t v := hval0
  have hW' := hW
  obtain ⟨p, q, hA0, hV, rfl, hfz, hnd⟩ := hW
  have hA : DataW.TrodAll enc Try.prog W 0 (fun _ => true) true Try.f11.params.toList args.toList ds p := hA0
  rw [Try.params11] at hA hval
  obtain ⟨v0, v1, d0, d1, p0, p1, rfl, rfl, rfl, h0, h1⟩ := trodAll_two hA
  obtain ⟨rfl, rfl⟩ := trodVars_none hV
  have k0 := h0
  have lt0 : ∀ x ∈ p0, x.block < W.heap.size := by obtain ⟨m, hm⟩ := k0; exact DataW.trod_lt m _ _ _ hm
  have k1 := h1
  have lt1 : ∀ x ∈ p1, x.block < W.heap.size := by obtain ⟨m, hm⟩ := k1; exact DataW.trod_lt m _ _ _ hm
  obtain ⟨x0, rfl⟩ := open_beam (hval 0 23 v0 rfl rfl) h0
  obtain ⟨x1, A1, n1, cp1, S1, l1, ra1, rfl, ln1, row1⟩ := open_shelf (hval 1 81 v1 rfl rfl) h1
  clear hA0 hval0
  refine (thick_walk x0 x1 A1 n1 cp1 S1 l1 ra1 ln1 W row1).mono fun e W' ⟨he, bel⟩ => ?_
  subst he
  exact ⟨_, rfl, _, _, _, [], _, [], hW', trodAll_mk1 (shut_bool Try.underlying4 _), trodAll_mk2 (Below.trod laidOut (by kernel_rfl) (of_decide_eq_true (by kernel_rfl)) k0 bel lt0) (Below.trod laidOut (by kernel_rfl) (of_decide_eq_true (by kernel_rfl)) k1 bel lt1), rfl, bel.frame _, fun h => by cases h⟩

theorem structureThick_place : (Rows.structureThickRow.inPlace == Try.pinned.checked.prog.inPlace 11) = true := by kernel_rfl
theorem structureThick_unfollowed : (Rows.structureThickRow.unfollowed == Try.pinned.checked.prog.unfollowed 11) = true := by kernel_rfl
theorem structureThick_recurses : (Rows.structureThickRow.recurses == Try.pinned.checked.prog.recurses 11) = true := by kernel_rfl
theorem structureThick_vars : (Rows.structureThickRow.named == Try.pinned.checked.prog.varsNamed 11) = true := by kernel_rfl
theorem structureThick_facts : joinedFacts Try.pinned.checked.prog 11 Try.f11 Rows.structureThickSpec Rows.structureThickRow = true := by
  unfold joinedFacts
  rw [structureThick_place, structureThick_unfollowed, structureThick_recurses, structureThick_vars, laidOut', mapsRow, heads.1, show (Rows.structureThickRow.lifted == Try.pinned.checked.prog.liftsFinal) = true from heads.2.1, show (Try.pinned.checked.prog.make == some Rows.structureThickRow.make) = true from heads.2.2]
  kernel_rfl
theorem structureThick_func : Try.pinned.checked.prog.funcNamed Rows.structureThickRow.func = some 11 := by kernel_rfl
theorem structureThick_inst : Try.f11.isInstance Try.pinned.checked.prog Rows.structureThickRow.origin Rows.structureThickRow.targs := of_decide_eq_true (by kernel_rfl)
theorem structureThick_wrap : Try.f11.isWrapper Try.pinned.checked.prog Rows.structureThickRow.wrapper Rows.structureThickRow.mainSum := by
  unfold Func.isWrapper
  first | (rw [if_pos (by decide +kernel)]; kernel_rfl) | (rw [if_neg (by decide +kernel)]; exact ⟨rfl, rfl⟩)
theorem structureThick_holds : Rows.StructureThickSaid :=
  OpenClaim.holds_of_wide 11 Try.f11 rfl rfl rfl rfl rfl rfl rfl ⟨rfl, rfl, rfl, rfl, rfl⟩ rfl rfl rfl rfl rfl structureThick_func Try.func11 structureThick_facts structureThick_inst structureThick_wrap
    (fun os started H enc _ => structureThick_lifted os started H enc)
#print axioms structureThick_holds
end Go.Proofs.Ytablphoicidlkaa
