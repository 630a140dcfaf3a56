/- TimberRates (chapter 2): for every species, cut and axis the law returns true, and its arguments read behind the call as before. No condition. -/
import Derived.Test.YtnjbhidncicfiaaRows
import Derived.Test.YtnjbhidncicfiaaS3
import Derived.Test.YtnjbhidncicfiaaO1
import Derived.Test.YtnjbhidncicfiaaFacts
import Derived.WalkKit
import Derived.ProofKit
import Derived.OpenShut
import Derived.ShutString
import Derived.ChangeOld
import Derived.Below
import Derived.Lib.SmallJoins
namespace Go.Proofs.Ytnjbhidncicfiaa
open Go.ChangeShapes Go.WideShapes Go.ChangeAt Go.RowKit Go.Joins
theorem cells44 : Try.prog.cellsOf 44 = 7 := by kernel_rfl

set_option maxRecDepth 100000 in
theorem timberRates_lifted (os : Os) (started : os.Started) (H : Type) (enc : TypeId × Value → H) :
    ReturnsInHanded {} Try.checked os 5 .any (Rows.timberRatesSpec.pre6 enc Try.prog Try.f5 Rows.timberRatesRow.domain false) (Rows.timberRatesSpec.post enc Try.prog Try.f5 false true false false) := by
  refine returnsInHanded_of_change (C := Try.checked) own started (by kernel_rfl) Try.func5
    (ChangeSpec.witness6 (enc := enc) (C := Try.checked) false ⟨#[], #[.agg #[.string ByteArray.empty, .int .i64 0, .int .i64 0, .int .i64 0, .int .i64 0, .int .i64 0, .int .i64 0], .int .i64 0, .int .i64 0], []⟩ 8 (by kernel_rfl) (by kernel_rfl) (by kernel_rfl) (by kernel_rfl)) ?_
  intro W base args ds gs before hval0 hW hcnd _
  have hval : ∀ (j : Nat) t v, Try.f5.params[j]? = some t → args[j]? = some v → Value.okWide Try.prog W .any base t v := hval0
  have hW' := hW
  obtain ⟨p, q, hA0, hV, rfl, hfz, hnd⟩ := hW
  have hA : DataW.TrodAll enc Try.prog W 0 (fun _ => true) true Try.f5.params.toList args.toList ds p := hA0
  rw [Try.params5] at hA hval
  obtain ⟨v0, v1, v2, d0, d1, d2, p0, p1, p2, rfl, rfl, rfl, h0, h1, h2⟩ := trodAll_three hA
  obtain ⟨rfl, rfl⟩ := trodVars_none hV
  have k0 := h0
  have lt0 : ∀ x ∈ p0, x.block < W.heap.size := by obtain ⟨m, hm⟩ := k0; exact DataW.trod_lt m _ _ _ hm
  have k1 := h1
  have lt1 : ∀ x ∈ p1, x.block < W.heap.size := by obtain ⟨m, hm⟩ := k1; exact DataW.trod_lt m _ _ _ hm
  have k2 := h2
  have lt2 : ∀ x ∈ p2, x.block < W.heap.size := by obtain ⟨m, hm⟩ := k2; exact DataW.trod_lt m _ _ _ hm
  obtain ⟨c00, c01, c02, c03, c04, c05, c06, y00, y01, y02, y03, y04, y05, y06, m0, rfl, hy00, hy01, hy02, hy03, hy04, hy05, hy06⟩ := open_agg7 Try.underlying44 (by kernel_rfl) cells44 (hval 0 44 v0 rfl rfl) h0
  obtain ⟨b00, e00, -, ls0⟩ := DataW.trod_string Try.underlying9 hy00
  obtain ⟨b01, e01, -, -⟩ := DataW.trod_int Try.underlying3 hy01
  obtain ⟨b02, e02, -, -⟩ := DataW.trod_int Try.underlying3 hy02
  obtain ⟨b03, e03, -, -⟩ := DataW.trod_int Try.underlying3 hy03
  obtain ⟨b04, e04, -, -⟩ := DataW.trod_int Try.underlying3 hy04
  obtain ⟨b05, e05, -, -⟩ := DataW.trod_int Try.underlying3 hy05
  obtain ⟨b06, e06, -, -⟩ := DataW.trod_int Try.underlying3 hy06
  simp at e00 e01 e02 e03 e04 e05 e06; subst e00 e01 e02 e03 e04 e05 e06
  obtain ⟨a1, rfl, -, -, wf1⟩ := open_int Try.underlying3 (hval 1 3 v1 rfl rfl) h1
  obtain ⟨a2, rfl, -, -, wf2⟩ := open_int Try.underlying3 (hval 2 3 v2 rfl rfl) h2
  clear hA0 hval0
  refine (rates_any b00 b01 b02 b03 b04 b05 b06 a1 a2 ls0 W).mono fun e W' ⟨he, bel⟩ => ?_
  subst he
  exact ⟨_, rfl, _, _, _, [], _, [], hW', trodAll_mk1 (shut_bool Try.underlying4 _), trodAll_mk3 (Below.trod laidOut (by kernel_rfl) (of_decide_eq_true (by kernel_rfl)) k0 bel lt0) (Below.trod laidOut (by kernel_rfl) (of_decide_eq_true (by kernel_rfl)) k1 bel lt1) (Below.trod laidOut (by kernel_rfl) (of_decide_eq_true (by kernel_rfl)) k2 bel lt2), rfl, bel.frame _, fun h => by cases h⟩

theorem timberRates_place : (Rows.timberRatesRow.inPlace == Try.pinned.checked.prog.inPlace 5) = true := by kernel_rfl
theorem timberRates_unfollowed : (Rows.timberRatesRow.unfollowed == Try.pinned.checked.prog.unfollowed 5) = true := by kernel_rfl
theorem timberRates_recurses : (Rows.timberRatesRow.recurses == Try.pinned.checked.prog.recurses 5) = true := by kernel_rfl
theorem timberRates_vars : (Rows.timberRatesRow.named == Try.pinned.checked.prog.varsNamed 5) = true := by kernel_rfl
theorem timberRates_facts : joinedFacts Try.pinned.checked.prog 5 Try.f5 Rows.timberRatesSpec Rows.timberRatesRow = true := by
  unfold joinedFacts
  rw [timberRates_place, timberRates_unfollowed, timberRates_recurses, timberRates_vars, laidOut', mapsRow, heads.1, show (Rows.timberRatesRow.lifted == Try.pinned.checked.prog.liftsFinal) = true from heads.2.1, show (Try.pinned.checked.prog.make == some Rows.timberRatesRow.make) = true from heads.2.2]
  kernel_rfl
theorem timberRates_func : Try.pinned.checked.prog.funcNamed Rows.timberRatesRow.func = some 5 := by kernel_rfl
theorem timberRates_inst : Try.f5.isInstance Try.pinned.checked.prog Rows.timberRatesRow.origin Rows.timberRatesRow.targs := of_decide_eq_true (by kernel_rfl)
theorem timberRates_wrap : Try.f5.isWrapper Try.pinned.checked.prog Rows.timberRatesRow.wrapper Rows.timberRatesRow.mainSum := by
  unfold Func.isWrapper
  first | (rw [if_pos (by decide +kernel)]; kernel_rfl) | (rw [if_neg (by decide +kernel)]; exact ⟨rfl, rfl⟩)
theorem timberRates_holds : Rows.TimberRatesSaid :=
  OpenClaim.holds_of_wide 5 Try.f5 rfl rfl rfl rfl rfl rfl rfl ⟨rfl, rfl, rfl, rfl, rfl⟩ rfl rfl rfl rfl rfl timberRates_func Try.func5 timberRates_facts timberRates_inst timberRates_wrap
    (fun os started H enc _ => timberRates_lifted os started H enc)
#print axioms timberRates_holds
end Go.Proofs.Ytnjbhidncicfiaa
