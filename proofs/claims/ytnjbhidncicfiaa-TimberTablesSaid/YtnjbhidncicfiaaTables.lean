/- TimberTables (chapter 2): for every table and humidity the law returns true, and its arguments read behind the call as before. No condition. -/
import Derived.Test.YtnjbhidncicfiaaRows
import Derived.Test.YtnjbhidncicfiaaT4
import Derived.Test.YtnjbhidncicfiaaO2
import Derived.Test.YtnjbhidncicfiaaFacts
import Derived.WalkKit
import Derived.ProofKit
import Derived.OpenShut
import Derived.ShutString
import Derived.ChangeOld
import Derived.Below
import Derived.Lib.SmallJoins
namespace Go.Proofs.Ytnjbhidncicfiaa
open Go.ChangeShapes Go.WideShapes Go.ChangeAt Go.RowKit Go.Joins


set_option maxRecDepth 100000 in
theorem timberTables_lifted (os : Os) (started : os.Started) (H : Type) (enc : TypeId × Value → H) :
    ReturnsInHanded {} Try.checked os 15 .any (Rows.timberTablesSpec.pre6 enc Try.prog Try.f15 Rows.timberTablesRow.domain false) (Rows.timberTablesSpec.post enc Try.prog Try.f15 false true false false) := by
  refine returnsInHanded_of_change (C := Try.checked) own started (by kernel_rfl) Try.func15
    (ChangeSpec.witness6 (enc := enc) (C := Try.checked) false ⟨#[], #[.slice none 0 0, .int .i64 0], []⟩ 8 (by kernel_rfl) (by kernel_rfl) (by kernel_rfl) (by kernel_rfl)) ?_
  intro W base args ds gs before hval0 hW hcnd _
  have hval : ∀ (j : Nat) t v, Try.f15.params[j]? = some t → args[j]? = some v → Value.okWide Try.prog W .any base t v := hval0
  have hW' := hW
  obtain ⟨p, q, hA0, hV, rfl, hfz, hnd⟩ := hW
  have hA : DataW.TrodAll enc Try.prog W 0 (fun _ => true) true Try.f15.params.toList args.toList ds p := hA0
  rw [Try.params15] at hA hval
  obtain ⟨v0, v1, d0, d1, p0, p1, rfl, rfl, rfl, h0, h1⟩ := trodAll_two hA
  obtain ⟨rfl, rfl⟩ := trodVars_none hV
  have k0 := h0
  have lt0 : ∀ x ∈ p0, x.block < W.heap.size := by obtain ⟨m, hm⟩ := k0; exact DataW.trod_lt m _ _ _ hm
  have k1 := h1
  have lt1 : ∀ x ∈ p1, x.block < W.heap.size := by obtain ⟨m, hm⟩ := k1; exact DataW.trod_lt m _ _ _ hm
  obtain ⟨A0, n0, cp0, xs0, rfl, ln0, row0⟩ := open_knots (hval 0 104 v0 rfl rfl) h0
  obtain ⟨a1, rfl, -, -, wf1⟩ := open_int Try.underlying3 (hval 1 3 v1 rfl rfl) h1
  clear hA0 hval0
  refine (tables_any A0 n0 cp0 xs0 a1 ln0 W row0).mono fun e W' ⟨he, bel⟩ => ?_
  subst he
  exact ⟨_, rfl, _, _, _, [], _, [], hW', trodAll_mk1 (shut_bool Try.underlying4 _), trodAll_mk2 (Below.trod laidOut (by kernel_rfl) (of_decide_eq_true (by kernel_rfl)) k0 bel lt0) (Below.trod laidOut (by kernel_rfl) (of_decide_eq_true (by kernel_rfl)) k1 bel lt1), rfl, bel.frame _, fun h => by cases h⟩

theorem timberTables_place : (Rows.timberTablesRow.inPlace == Try.pinned.checked.prog.inPlace 15) = true := by kernel_rfl
theorem timberTables_unfollowed : (Rows.timberTablesRow.unfollowed == Try.pinned.checked.prog.unfollowed 15) = true := by kernel_rfl
theorem timberTables_recurses : (Rows.timberTablesRow.recurses == Try.pinned.checked.prog.recurses 15) = true := by kernel_rfl
theorem timberTables_vars : (Rows.timberTablesRow.named == Try.pinned.checked.prog.varsNamed 15) = true := by kernel_rfl
theorem timberTables_facts : joinedFacts Try.pinned.checked.prog 15 Try.f15 Rows.timberTablesSpec Rows.timberTablesRow = true := by
  unfold joinedFacts
  rw [timberTables_place, timberTables_unfollowed, timberTables_recurses, timberTables_vars, laidOut', mapsRow, heads.1, show (Rows.timberTablesRow.lifted == Try.pinned.checked.prog.liftsFinal) = true from heads.2.1, show (Try.pinned.checked.prog.make == some Rows.timberTablesRow.make) = true from heads.2.2]
  kernel_rfl
theorem timberTables_func : Try.pinned.checked.prog.funcNamed Rows.timberTablesRow.func = some 15 := by kernel_rfl
theorem timberTables_inst : Try.f15.isInstance Try.pinned.checked.prog Rows.timberTablesRow.origin Rows.timberTablesRow.targs := of_decide_eq_true (by kernel_rfl)
theorem timberTables_wrap : Try.f15.isWrapper Try.pinned.checked.prog Rows.timberTablesRow.wrapper Rows.timberTablesRow.mainSum := by
  unfold Func.isWrapper
  first | (rw [if_pos (by decide +kernel)]; kernel_rfl) | (rw [if_neg (by decide +kernel)]; exact ⟨rfl, rfl⟩)
theorem timberTables_holds : Rows.TimberTablesSaid :=
  OpenClaim.holds_of_wide 15 Try.f15 rfl rfl rfl rfl rfl rfl rfl ⟨rfl, rfl, rfl, rfl, rfl⟩ rfl rfl rfl rfl rfl timberTables_func Try.func15 timberTables_facts timberTables_inst timberTables_wrap
    (fun os started H enc _ => timberTables_lifted os started H enc)
#print axioms timberTables_holds
end Go.Proofs.Ytnjbhidncicfiaa
