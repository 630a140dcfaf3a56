/- TimberSpecies (chapter 2): for every list of species and every text the law returns true, and its arguments read behind the call as before. No condition. -/
import Derived.Test.YtnjbhidncicfiaaRows
import Derived.Test.YtnjbhidncicfiaaS7
import Derived.Test.YtnjbhidncicfiaaO3
import Derived.Test.YtnjbhidncicfiaaFacts
import Derived.WalkKit
import Derived.ProofKit
import Derived.OpenShut
import Derived.ShutString
import Derived.ChangeOld
import Derived.Below
import Derived.Lib.SmallJoins
namespace Go.Proofs.Ytnjbhidncicfiaa
open Go.ChangeShapes Go.WideShapes Go.ChangeAt Go.RowKit Go.Joins


set_option maxRecDepth 100000 in
theorem timberSpecies_lifted (os : Os) (started : os.Started) (H : Type) (enc : TypeId × Value → H) :
    ReturnsInHanded {} Try.checked os 3 .any (Rows.timberSpeciesSpec.pre6 enc Try.prog Try.f3 Rows.timberSpeciesRow.domain false) (Rows.timberSpeciesSpec.post enc Try.prog Try.f3 false true false false) := by
  refine returnsInHanded_of_change (C := Try.checked) own started (by kernel_rfl) Try.func3
    (ChangeSpec.witness6 (enc := enc) (C := Try.checked) false ⟨#[], #[.slice none 0 0, .string ByteArray.empty], []⟩ 8 (by kernel_rfl) (by kernel_rfl) (by kernel_rfl) (by kernel_rfl)) ?_
  intro W base args ds gs before hval0 hW hcnd _
  have hval : ∀ (j : Nat) t v, Try.f3.params[j]? = some t → args[j]? = some v → Value.okWide Try.prog W .any base t v := hval0
  have hW' := hW
  obtain ⟨p, q, hA0, hV, rfl, hfz, hnd⟩ := hW
  have hA : DataW.TrodAll enc Try.prog W 0 (fun _ => true) true Try.f3.params.toList args.toList ds p := hA0
  rw [Try.params3] at hA hval
  obtain ⟨v0, v1, d0, d1, p0, p1, rfl, rfl, rfl, h0, h1⟩ := trodAll_two hA
  obtain ⟨rfl, rfl⟩ := trodVars_none hV
  have k0 := h0
  have lt0 : ∀ x ∈ p0, x.block < W.heap.size := by obtain ⟨m, hm⟩ := k0; exact DataW.trod_lt m _ _ _ hm
  have k1 := h1
  have lt1 : ∀ x ∈ p1, x.block < W.heap.size := by obtain ⟨m, hm⟩ := k1; exact DataW.trod_lt m _ _ _ hm
  obtain ⟨A0, n0, cp0, xs0, rfl, ln0, row0⟩ := open_species (hval 0 22 v0 rfl rfl) h0
  obtain ⟨a1, rfl⟩ := okWide_string Try.underlying9 (hval 1 9 v1 rfl rfl)
  obtain ⟨_, hs1⟩ := h1
  obtain ⟨z1, ez1, -, ls1⟩ := DataW.trod_string Try.underlying9 hs1
  simp [Value.cells] at ez1; subst ez1
  clear hA0 hval0
  refine (species_law A0 n0 cp0 xs0 a1 ln0 ls1 W row0).mono fun e W' ⟨he, bel⟩ => ?_
  subst he
  exact ⟨_, rfl, _, _, _, [], _, [], hW', trodAll_mk1 (shut_bool Try.underlying4 _), trodAll_mk2 (Below.trod laidOut (by kernel_rfl) (of_decide_eq_true (by kernel_rfl)) k0 bel lt0) (Below.trod laidOut (by kernel_rfl) (of_decide_eq_true (by kernel_rfl)) k1 bel lt1), rfl, bel.frame _, fun h => by cases h⟩

theorem timberSpecies_place : (Rows.timberSpeciesRow.inPlace == Try.pinned.checked.prog.inPlace 3) = true := by kernel_rfl
theorem timberSpecies_unfollowed : (Rows.timberSpeciesRow.unfollowed == Try.pinned.checked.prog.unfollowed 3) = true := by kernel_rfl
theorem timberSpecies_recurses : (Rows.timberSpeciesRow.recurses == Try.pinned.checked.prog.recurses 3) = true := by kernel_rfl
theorem timberSpecies_vars : (Rows.timberSpeciesRow.named == Try.pinned.checked.prog.varsNamed 3) = true := by kernel_rfl
theorem timberSpecies_facts : joinedFacts Try.pinned.checked.prog 3 Try.f3 Rows.timberSpeciesSpec Rows.timberSpeciesRow = true := by
  unfold joinedFacts
  rw [timberSpecies_place, timberSpecies_unfollowed, timberSpecies_recurses, timberSpecies_vars, laidOut', mapsRow, heads.1, show (Rows.timberSpeciesRow.lifted == Try.pinned.checked.prog.liftsFinal) = true from heads.2.1, show (Try.pinned.checked.prog.make == some Rows.timberSpeciesRow.make) = true from heads.2.2]
  kernel_rfl
theorem timberSpecies_func : Try.pinned.checked.prog.funcNamed Rows.timberSpeciesRow.func = some 3 := by kernel_rfl
theorem timberSpecies_inst : Try.f3.isInstance Try.pinned.checked.prog Rows.timberSpeciesRow.origin Rows.timberSpeciesRow.targs := of_decide_eq_true (by kernel_rfl)
theorem timberSpecies_wrap : Try.f3.isWrapper Try.pinned.checked.prog Rows.timberSpeciesRow.wrapper Rows.timberSpeciesRow.mainSum := by
  unfold Func.isWrapper
  first | (rw [if_pos (by decide +kernel)]; kernel_rfl) | (rw [if_neg (by decide +kernel)]; exact ⟨rfl, rfl⟩)
theorem timberSpecies_holds : Rows.TimberSpeciesSaid :=
  OpenClaim.holds_of_wide 3 Try.f3 rfl rfl rfl rfl rfl rfl rfl ⟨rfl, rfl, rfl, rfl, rfl⟩ rfl rfl rfl rfl rfl timberSpecies_func Try.func3 timberSpecies_facts timberSpecies_inst timberSpecies_wrap
    (fun os started H enc _ => timberSpecies_lifted os started H enc)
#print axioms timberSpecies_holds
end Go.Proofs.Ytnjbhidncicfiaa
