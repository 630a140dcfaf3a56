/- For every three numbers and every vector the statement on the group of turns answers true. -/
import Derived.Test.YtcboppdjjpeeoaaGreatRows
import Derived.Test.YtcboppdjjpeeoaaGreatQD
import Derived.Test.YtcboppdjjpeeoaaGreatFacts
import Derived.Test.YtcboppdjjpeeoaaGreatOA
import Derived.WalkKit
import Derived.ProofKit
import Derived.OpenShut
import Derived.ShutString
import Derived.ChangeOld
import Derived.Below
import Derived.Lib.SmallJoins
namespace Go.Proofs.YtcboppdjjpeeoaaGreat
open Go.ChangeShapes Go.WideShapes Go.ChangeAt Go.RowKit Go.Joins
theorem cells76 : Tryz.prog.cellsOf 76 = 3 := by kernel_rfl

set_option maxRecDepth 100000 in
theorem solidGroup_lifted (os : Os) (started : os.Started) (H : Type) (enc : TypeId × Value → H) :
    ReturnsInHanded {} Tryz.checked os 7 .any (Rows.solidGroupSpec.pre6 enc Tryz.prog Tryz.f7 Rows.solidGroupRow.domain false) (Rows.solidGroupSpec.post enc Tryz.prog Tryz.f7 false true false false) := by
  refine returnsInHanded_of_change (C := Tryz.checked) own started (by kernel_rfl) Tryz.func7
    (ChangeSpec.witness6 (enc := enc) (C := Tryz.checked) false ⟨#[], #[.agg #[.int .i64 0, .int .i64 0, .int .i64 0], .agg #[.int .i64 0, .int .i64 0, .int .i64 0]], []⟩ 8 (by kernel_rfl) (by kernel_rfl) (by kernel_rfl) (by kernel_rfl)) ?_
  intro W base args ds gs before hval0 hW hcnd _
  have hval : ∀ (j : Nat) t v, Tryz.f7.params[j]? = some t → args[j]? = some v → Value.okWide Tryz.prog W .any base t v := hval0
  have hW' := hW
  obtain ⟨p, q, hA0, hV, rfl, hfz, hnd⟩ := hW
  have hA : DataW.TrodAll enc Tryz.prog W 0 (fun _ => true) true Tryz.f7.params.toList args.toList ds p := hA0
  rw [Tryz.params7] at hA hval
  obtain ⟨v0, v1, d0, d1, p0, p1, rfl, rfl, rfl, h0, h1⟩ := trodAll_two hA
  obtain ⟨rfl, rfl⟩ := trodVars_none hV
  have k0 := h0
  have lt0 : ∀ x ∈ p0, x.block < W.heap.size := by obtain ⟨m, hm⟩ := k0; exact DataW.trod_lt m _ _ _ hm
  have k1 := h1
  have lt1 : ∀ x ∈ p1, x.block < W.heap.size := by obtain ⟨m, hm⟩ := k1; exact DataW.trod_lt m _ _ _ hm
  obtain ⟨c00, c01, c02, y00, y01, y02, m0, rfl, -, -, hy00, hy01, hy02⟩ := open_arr3 Tryz.underlying76 (by kernel_rfl) cells76 (hval 0 76 v0 rfl rfl) h0
  obtain ⟨b00, e00, -, -⟩ := DataW.trod_int Tryz.underlying3 hy00
  obtain ⟨b01, e01, -, -⟩ := DataW.trod_int Tryz.underlying3 hy01
  obtain ⟨b02, e02, -, -⟩ := DataW.trod_int Tryz.underlying3 hy02
  simp at e00 e01 e02; subst e00 e01 e02
  obtain ⟨c10, c11, c12, y10, y11, y12, m1, rfl, -, -, hy10, hy11, hy12⟩ := open_arr3 Tryz.underlying76 (by kernel_rfl) cells76 (hval 1 76 v1 rfl rfl) h1
  obtain ⟨b10, e10, -, -⟩ := DataW.trod_int Tryz.underlying3 hy10
  obtain ⟨b11, e11, -, -⟩ := DataW.trod_int Tryz.underlying3 hy11
  obtain ⟨b12, e12, -, -⟩ := DataW.trod_int Tryz.underlying3 hy12
  simp at e10 e11 e12; subst e10 e11 e12
  clear hA0 hval0
  refine (law_any b00 b01 b02 b10 b11 b12 W ).mono fun e W' ⟨he, bel⟩ => ?_
  subst he
  exact ⟨_, rfl, _, _, _, [], _, [], hW', trodAll_mk1 (shut_bool Tryz.underlying4 _), trodAll_mk2 (Below.trod laidOut (by kernel_rfl) (of_decide_eq_true (by kernel_rfl)) k0 bel lt0) (Below.trod laidOut (by kernel_rfl) (of_decide_eq_true (by kernel_rfl)) k1 bel lt1), rfl, bel.frame _, fun h => by cases h⟩

theorem solidGroup_place : (Rows.solidGroupRow.inPlace == Tryz.pinned.checked.prog.inPlace 7) = true := by kernel_rfl
theorem solidGroup_unfollowed : (Rows.solidGroupRow.unfollowed == Tryz.pinned.checked.prog.unfollowed 7) = true := by kernel_rfl
theorem solidGroup_recurses : (Rows.solidGroupRow.recurses == Tryz.pinned.checked.prog.recurses 7) = true := by kernel_rfl
theorem solidGroup_vars : (Rows.solidGroupRow.named == Tryz.pinned.checked.prog.varsNamed 7) = true := by kernel_rfl
theorem solidGroup_facts : joinedFacts Tryz.pinned.checked.prog 7 Tryz.f7 Rows.solidGroupSpec Rows.solidGroupRow = true := by
  unfold joinedFacts
  rw [solidGroup_place, solidGroup_unfollowed, solidGroup_recurses, solidGroup_vars, laidOut', mapsRow, heads.1, show (Rows.solidGroupRow.lifted == Tryz.pinned.checked.prog.liftsFinal) = true from heads.2.1, show (Tryz.pinned.checked.prog.make == some Rows.solidGroupRow.make) = true from heads.2.2]
  kernel_rfl
theorem solidGroup_func : Tryz.pinned.checked.prog.funcNamed Rows.solidGroupRow.func = some 7 := by kernel_rfl
theorem solidGroup_inst : Tryz.f7.isInstance Tryz.pinned.checked.prog Rows.solidGroupRow.origin Rows.solidGroupRow.targs := of_decide_eq_true (by kernel_rfl)
theorem solidGroup_wrap : Tryz.f7.isWrapper Tryz.pinned.checked.prog Rows.solidGroupRow.wrapper Rows.solidGroupRow.mainSum := by
  unfold Func.isWrapper
  first | (rw [if_pos (by decide +kernel)]; kernel_rfl) | (rw [if_neg (by decide +kernel)]; exact ⟨rfl, rfl⟩)
theorem solidGroup_holds : Rows.SolidGroupSaid :=
  OpenClaim.holds_of_wide 7 Tryz.f7 rfl rfl rfl rfl rfl rfl rfl ⟨rfl, rfl, rfl, rfl, rfl⟩ rfl rfl rfl rfl rfl solidGroup_func Tryz.func7 solidGroup_facts solidGroup_inst solidGroup_wrap
    (fun os started H enc _ => solidGroup_lifted os started H enc)
#print axioms solidGroup_holds
end Go.Proofs.YtcboppdjjpeeoaaGreat
