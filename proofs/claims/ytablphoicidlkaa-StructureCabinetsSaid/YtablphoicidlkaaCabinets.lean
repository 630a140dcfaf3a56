/- Cabinets: the given statement, without condition. -/
import Derived.Test.YtablphoicidlkaaRows
import Derived.WalkKit
import Derived.ProofKit
import Derived.OpenShut
import Derived.ShutString
import Derived.ChangeOld
import Derived.Below
import Derived.Lib.SmallJoins
import Derived.Test.YtablphoicidlkaaMGX
import Derived.Test.YtablphoicidlkaaOPH
import Derived.Test.YtablphoicidlkaaFacts
namespace Go.Proofs.Ytablphoicidlkaa
open Go.ChangeShapes Go.WideShapes Go.ChangeAt Go.RowKit Go.Joins

set_option maxRecDepth 100000 in
theorem structureCabinets_lifted (os : Os) (started : os.Started) (H : Type) (enc : TypeId × Value → H) :
    ReturnsInHanded {} Try.checked os 14 .any (Rows.structureCabinetsSpec.pre6 enc Try.prog Try.f14 Rows.structureCabinetsRow.domain false) (Rows.structureCabinetsSpec.post enc Try.prog Try.f14 false true false false) := by
  refine returnsInHanded_of_change (C := Try.checked) own started (by kernel_rfl) Try.func14
    (ChangeSpec.witness6 (enc := enc) (C := Try.checked) false ⟨#[], #[.agg #[.int .i64 0, .slice none 0 0, .slice none 0 0], .slice none 0 0], []⟩ 8 (by kernel_rfl) (by kernel_rfl) (by kernel_rfl) (by kernel_rfl)) ?_
  intro W base args ds gs before hval0 hW hcnd _
  have hval : ∀ (j : Nat) t v, Try.f14.params[j]? = some t → args[j]? = some v → Value.okWide Try.prog W .any base t v := hval0
  have hW' := hW
  obtain ⟨p, q, hA0, hV, rfl, hfz, hnd⟩ := hW
  have hA : DataW.TrodAll enc Try.prog W 0 (fun _ => true) true Try.f14.params.toList args.toList ds p := hA0
  rw [Try.params14] at hA hval
  obtain ⟨v0, v1, d0, d1, p0, p1, rfl, rfl, rfl, h0, h1⟩ := trodAll_two hA
  obtain ⟨rfl, rfl⟩ := trodVars_none hV
  have k0 := h0
  have lt0 : ∀ x ∈ p0, x.block < W.heap.size := by obtain ⟨m, hm⟩ := k0; exact DataW.trod_lt m _ _ _ hm
  have k1 := h1
  have lt1 : ∀ x ∈ p1, x.block < W.heap.size := by obtain ⟨m, hm⟩ := k1; exact DataW.trod_lt m _ _ _ hm
  obtain ⟨D0, A0, n0, cp0, l0, A0', n0', cp0', l0', rfl, ln0, ln0', row0, row0'⟩ := open_cabinet (hval 0 119 v0 rfl rfl) h0
  obtain ⟨A1, n1, cp1, l1, rfl, ln1, row1⟩ := open_ints (hval 1 111 v1 rfl rfl) h1
  clear hA0 hval0
  refine (cab_walk D0 A0 n0 cp0 l0 A0' n0' cp0' l0' A1 n1 cp1 l1 ln0 ln0' ln1 W row0 row0' row1).mono fun e W' ⟨he, bel⟩ => ?_
  subst he
  exact ⟨_, rfl, _, _, _, [], _, [], hW', trodAll_mk1 (shut_bool Try.underlying4 _), trodAll_mk2 (Below.trod laidOut (by kernel_rfl) (of_decide_eq_true (by kernel_rfl)) k0 bel lt0) (Below.trod laidOut (by kernel_rfl) (of_decide_eq_true (by kernel_rfl)) k1 bel lt1), rfl, bel.frame _, fun h => by cases h⟩

theorem structureCabinets_place : (Rows.structureCabinetsRow.inPlace == Try.pinned.checked.prog.inPlace 14) = true := by kernel_rfl
theorem structureCabinets_unfollowed : (Rows.structureCabinetsRow.unfollowed == Try.pinned.checked.prog.unfollowed 14) = true := by kernel_rfl
theorem structureCabinets_recurses : (Rows.structureCabinetsRow.recurses == Try.pinned.checked.prog.recurses 14) = true := by kernel_rfl
theorem structureCabinets_vars : (Rows.structureCabinetsRow.named == Try.pinned.checked.prog.varsNamed 14) = true := by kernel_rfl
theorem structureCabinets_facts : joinedFacts Try.pinned.checked.prog 14 Try.f14 Rows.structureCabinetsSpec Rows.structureCabinetsRow = true := by
  unfold joinedFacts
  rw [structureCabinets_place, structureCabinets_unfollowed, structureCabinets_recurses, structureCabinets_vars, laidOut', mapsRow, heads.1, show (Rows.structureCabinetsRow.lifted == Try.pinned.checked.prog.liftsFinal) = true from heads.2.1, show (Try.pinned.checked.prog.make == some Rows.structureCabinetsRow.make) = true from heads.2.2]
  kernel_rfl
theorem structureCabinets_func : Try.pinned.checked.prog.funcNamed Rows.structureCabinetsRow.func = some 14 := by kernel_rfl
theorem structureCabinets_inst : Try.f14.isInstance Try.pinned.checked.prog Rows.structureCabinetsRow.origin Rows.structureCabinetsRow.targs := of_decide_eq_true (by kernel_rfl)
theorem structureCabinets_wrap : Try.f14.isWrapper Try.pinned.checked.prog Rows.structureCabinetsRow.wrapper Rows.structureCabinetsRow.mainSum := by
  unfold Func.isWrapper
  first | (rw [if_pos (by decide +kernel)]; kernel_rfl) | (rw [if_neg (by decide +kernel)]; exact ⟨rfl, rfl⟩)
theorem structureCabinets_holds : Rows.StructureCabinetsSaid :=
  OpenClaim.holds_of_wide 14 Try.f14 rfl rfl rfl rfl rfl rfl rfl ⟨rfl, rfl, rfl, rfl, rfl⟩ rfl rfl rfl rfl rfl structureCabinets_func Try.func14 structureCabinets_facts structureCabinets_inst structureCabinets_wrap
    (fun os started H enc _ => structureCabinets_lifted os started H enc)
#print axioms structureCabinets_holds
end Go.Proofs.Ytablphoicidlkaa
