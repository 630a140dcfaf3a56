/- FitWorst (chapter 6): for every fit and every list of seasons the law returns true, and its arguments read behind the call as before. No condition. -/
import Derived.Test.YtcjhodlimpgegaaGreatRows
import Derived.Test.YtcjhodlimpgegaaGreatHI
import Derived.Test.YtcjhodlimpgegaaGreatGO
import Derived.Test.YtcjhodlimpgegaaGreatFacts
import Derived.WalkKit
import Derived.ProofKit
import Derived.OpenShut
import Derived.ShutString
import Derived.ChangeOld
import Derived.Below
import Derived.Lib.SmallJoins
namespace Go.Proofs.YtcjhodlimpgegaaGreat
open Go.ChangeShapes Go.WideShapes Go.ChangeAt Go.RowKit Go.Joins

set_option maxRecDepth 100000 in
theorem fitWorst_lifted (os : Os) (started : os.Started) (H : Type) (enc : TypeId × Value → H) :
    ReturnsInHanded {} Tryz.checked os 8 .any (Rows.fitWorstSpec.pre6 enc Tryz.prog Tryz.f8 Rows.fitWorstRow.domain false) (Rows.fitWorstSpec.post enc Tryz.prog Tryz.f8 false true false false) := by
  refine returnsInHanded_of_change (C := Tryz.checked) own started (by kernel_rfl) Tryz.func8
    (ChangeSpec.witness6 (enc := enc) (C := Tryz.checked) false ⟨#[], #[.agg #[.string ByteArray.empty, .slice none 0 0, .slice none 0 0, .int .i64 0, .int .i64 0], .slice none 0 0], []⟩ 8 (by kernel_rfl) (by kernel_rfl) (by kernel_rfl) (by kernel_rfl)) ?_
  intro W base args ds gs before hval0 hW hcnd _
  have hval : ∀ (j : Nat) t v, Tryz.f8.params[j]? = some t → args[j]? = some v → Value.okWide Tryz.prog W .any base t v := hval0
  have hW' := hW
  obtain ⟨p, q, hA0, hV, rfl, hfz, hnd⟩ := hW
  have hA : DataW.TrodAll enc Tryz.prog W 0 (fun _ => true) true Tryz.f8.params.toList args.toList ds p := hA0
  rw [Tryz.params8] at hA hval
  obtain ⟨v0, v1, d0, d1, p0, p1, rfl, rfl, rfl, h0, h1⟩ := trodAll_two hA
  obtain ⟨rfl, rfl⟩ := trodVars_none hV
  have k0 := h0
  have lt0 : ∀ x ∈ p0, x.block < W.heap.size := by obtain ⟨m, hm⟩ := k0; exact DataW.trod_lt m _ _ _ hm
  have k1 := h1
  have lt1 : ∀ x ∈ p1, x.block < W.heap.size := by obtain ⟨m, hm⟩ := k1; exact DataW.trod_lt m _ _ _ hm
  obtain ⟨nm0, F0, A0, n0, cp0, B0, m0, dp0, rfl, ln0, row0⟩ := open_fit (hval 0 24 v0 rfl rfl) h0
  obtain ⟨A1, n1, cp1, xs1, rfl, ln1, row1⟩ := open_seasons (hval 1 45 v1 rfl rfl) h1
  clear hA0 hval0
  refine (fitWorst_law nm0 F0 A0 n0 cp0 B0 m0 dp0 A1 n1 cp1 xs1 ln0 ln1 W row0 row1).mono fun e W' ⟨he, bel⟩ => ?_
  subst he
  exact ⟨_, rfl, _, _, _, [], _, [], hW', trodAll_mk1 (shut_bool Tryz.underlying4 _), trodAll_mk2 (Below.trod laidOut (by kernel_rfl) (of_decide_eq_true (by kernel_rfl)) k0 bel lt0) (Below.trod laidOut (by kernel_rfl) (of_decide_eq_true (by kernel_rfl)) k1 bel lt1), rfl, bel.frame _, fun h => by cases h⟩

theorem fitWorst_place : (Rows.fitWorstRow.inPlace == Tryz.pinned.checked.prog.inPlace 8) = true := by kernel_rfl
theorem fitWorst_unfollowed : (Rows.fitWorstRow.unfollowed == Tryz.pinned.checked.prog.unfollowed 8) = true := by kernel_rfl
theorem fitWorst_recurses : (Rows.fitWorstRow.recurses == Tryz.pinned.checked.prog.recurses 8) = true := by kernel_rfl
theorem fitWorst_vars : (Rows.fitWorstRow.named == Tryz.pinned.checked.prog.varsNamed 8) = true := by kernel_rfl
theorem fitWorst_facts : joinedFacts Tryz.pinned.checked.prog 8 Tryz.f8 Rows.fitWorstSpec Rows.fitWorstRow = true := by
  unfold joinedFacts
  rw [fitWorst_place, fitWorst_unfollowed, fitWorst_recurses, fitWorst_vars, laidOut', mapsRow, heads.1, show (Rows.fitWorstRow.lifted == Tryz.pinned.checked.prog.liftsFinal) = true from heads.2.1, show (Tryz.pinned.checked.prog.make == some Rows.fitWorstRow.make) = true from heads.2.2]
  kernel_rfl
theorem fitWorst_func : Tryz.pinned.checked.prog.funcNamed Rows.fitWorstRow.func = some 8 := by kernel_rfl
theorem fitWorst_inst : Tryz.f8.isInstance Tryz.pinned.checked.prog Rows.fitWorstRow.origin Rows.fitWorstRow.targs := of_decide_eq_true (by kernel_rfl)
theorem fitWorst_wrap : Tryz.f8.isWrapper Tryz.pinned.checked.prog Rows.fitWorstRow.wrapper Rows.fitWorstRow.mainSum := by
  unfold Func.isWrapper
  first | (rw [if_pos (by decide +kernel)]; kernel_rfl) | (rw [if_neg (by decide +kernel)]; exact ⟨rfl, rfl⟩)
theorem fitWorst_holds : Rows.FitWorstSaid :=
  OpenClaim.holds_of_wide 8 Tryz.f8 rfl rfl rfl rfl rfl rfl rfl ⟨rfl, rfl, rfl, rfl, rfl⟩ rfl rfl rfl rfl rfl fitWorst_func Tryz.func8 fitWorst_facts fitWorst_inst fitWorst_wrap
    (fun os started H enc _ => fitWorst_lifted os started H enc)
#print axioms fitWorst_holds
end Go.Proofs.YtcjhodlimpgegaaGreat
