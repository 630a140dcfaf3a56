/- For every number and every name the statement on the names of kinds answers true; the package variables hold what the program lays. -/
import Derived.Test.YtipfdkecodadnaaGreatDoorRows
import Derived.Test.YtipfdkecodadnaaGreatDoorJ3
import Derived.Test.YtipfdkecodadnaaGreatDoorFacts
import Derived.Test.YtipfdkecodadnaaGreatDoorL0
import Derived.Test.YtipfdkecodadnaaGreatDoorTie
import Derived.Test.YtipfdkecodadnaaGreatDoorCards
import Derived.SevenTiedAt
import Derived.WalkKit
import Derived.ProofKit
import Derived.OpenShut
import Derived.ShutString
import Derived.ChangeOld
import Derived.Below
import Derived.Lib.SmallJoins
namespace Go.Proofs.YtipfdkecodadnaaGreatDoor
open Go.ChangeShapes Go.WideShapes Go.ChangeAt Go.RowKit Go.Joins


set_option maxRecDepth 100000 in
theorem jointNames_lifted (os : Os) (started : os.Started) (H : Type) (enc : TypeId × Value → H) :
    ReturnsInHanded {} Tryz.checked os 4 .any (fun w args => (Rows.jointNamesSpec.pre enc Tryz.prog Tryz.f4 [] false w args ∧ laidMetH Tryz.prog laidL w) ∧ sizedMet enc Tryz.prog Tryz.f4 (OpenSpec.ofChange Rows.jointNamesSpec) false w args)
      (Rows.jointNamesSpec.post enc Tryz.prog Tryz.f4 false true false false) := by
  refine returns_gv (s := Rows.jointNamesSpec) (conds := []) started (by kernel_rfl) Tryz.func4
    (ChangeSpec.witness_shaped (enc := enc) (C := Tryz.checked) (os := os) (X := fun w _ => laidMetH Tryz.prog laidL w) false (World.doorLaid Tryz.prog 40 os) #[.int .i64 0, .string ByteArray.empty] 8 rfl (World.shaped_of_RefB (by kernel_rfl) (by kernel_rfl)) (by kernel_rfl) (by kernel_rfl) (by kernel_rfl) (door_met os _)) ?_
  intro W base args ds gs before hval0 hW hgv
  have hval : ∀ (j : Nat) t v, Tryz.f4.params[j]? = some t → args[j]? = some v → Value.okWide Tryz.prog W .any base t v := hval0
  have hW' := hW
  obtain ⟨p, q, hA0, hV, rfl, hfz, hnd⟩ := hW
  have hA : DataW.TrodAll enc Tryz.prog W 0 (fun _ => true) true Tryz.f4.params.toList args.toList ds p := hA0
  rw [Tryz.params4] at hA hval
  obtain ⟨v0, v1, d0, d1, p0, p1, rfl, rfl, rfl, h0, h1⟩ := trodAll_two hA
  obtain ⟨rfl, rfl⟩ := trodVars_none hV
  have k0 := h0
  have lt0 : ∀ x ∈ p0, x.block < W.heap.size := by obtain ⟨m, hm⟩ := k0; exact DataW.trod_lt m _ _ _ hm
  have k1 := h1
  have lt1 : ∀ x ∈ p1, x.block < W.heap.size := by obtain ⟨m, hm⟩ := k1; exact DataW.trod_lt m _ _ _ hm
  obtain ⟨a0, rfl, -, -, wf0⟩ := open_int Tryz.underlying3 (hval 0 3 v0 rfl rfl) h0
  obtain ⟨a1, rfl⟩ := okWide_string Tryz.underlying9 (hval 1 9 v1 rfl rfl)
  obtain ⟨_, hs1⟩ := h1
  obtain ⟨z1, ez1, -, ls1⟩ := DataW.trod_string Tryz.underlying9 hs1
  simp [Value.cells] at ez1; subst ez1
  clear hA0 hval0
  refine (law_any a0 a1 ls1 W hgv ).mono fun e W' ⟨he, bel⟩ => ?_
  subst he
  exact ⟨_, rfl, _, _, _, [], _, [], hW', trodAll_mk1 (shut_bool Tryz.underlying4 _), trodAll_mk2 (Below.trod laidOut (by kernel_rfl) (of_decide_eq_true (by kernel_rfl)) k0 bel lt0) (Below.trod laidOut (by kernel_rfl) (of_decide_eq_true (by kernel_rfl)) k1 bel lt1), rfl, bel.frame _, fun h => by cases h⟩

theorem jointNames_place : (Rows.jointNamesRow.inPlace == Tryz.pinned.checked.prog.inPlace 4) = true := by kernel_rfl
theorem jointNames_unfollowed : (Rows.jointNamesRow.unfollowed == Tryz.pinned.checked.prog.unfollowed 4) = true := by kernel_rfl
theorem jointNames_recurses : (Rows.jointNamesRow.recurses == Tryz.pinned.checked.prog.recurses 4) = true := by kernel_rfl
theorem jointNames_vars : (Rows.jointNamesRow.named == Tryz.pinned.checked.prog.varsNamed 4) = true := by kernel_rfl
theorem jointNames_facts : joinedFacts Tryz.pinned.checked.prog 4 Tryz.f4 Rows.jointNamesSpec Rows.jointNamesRow = true := by
  unfold joinedFacts
  rw [jointNames_place, jointNames_unfollowed, jointNames_recurses, jointNames_vars, laidOut', mapsRow, heads.1, show (Rows.jointNamesRow.lifted == Tryz.pinned.checked.prog.liftsFinal) = true from heads.2.1, show (Tryz.pinned.checked.prog.make == some Rows.jointNamesRow.make) = true from heads.2.2]
  kernel_rfl
theorem jointNames_func : Tryz.pinned.checked.prog.funcNamed Rows.jointNamesRow.func = some 4 := by kernel_rfl
theorem jointNames_inst : Tryz.f4.isInstance Tryz.pinned.checked.prog Rows.jointNamesRow.origin Rows.jointNamesRow.targs := of_decide_eq_true (by kernel_rfl)
theorem jointNames_wrap : Tryz.f4.isWrapper Tryz.pinned.checked.prog Rows.jointNamesRow.wrapper Rows.jointNamesRow.mainSum := by
  unfold Func.isWrapper
  first | (rw [if_pos (by decide +kernel)]; kernel_rfl) | (rw [if_neg (by decide +kernel)]; exact ⟨rfl, rfl⟩)
theorem jointNames_holds : Rows.JointNamesSaid :=
  OpenClaim.holds_of_wide 4 Tryz.f4 rfl rfl rfl rfl rfl rfl rfl ⟨rfl, rfl, rfl, rfl, rfl⟩ rfl rfl rfl rfl rfl jointNames_func Tryz.func4 jointNames_facts jointNames_inst jointNames_wrap
    (fun os started H enc _ => jointNames_lifted os started H enc)
theorem jointNames_params (j : Nat) (t : TypeId) (h : Tryz.f4.params[j]? = some t) : Tryz.prog.wantsStandIn t = false := by
  rw [Tryz.params4] at h
  have hm : t ∈ [3, 9] := by simpa using Array.mem_of_getElem? h
  have hall : ([3, 9].all fun u => !Tryz.prog.wantsStandIn u) = true := by kernel_rfl
  simpa using List.all_eq_true.1 hall t hm
theorem jointNames_card : Rows.JointNamesCardSaid :=
  Claim7.holds_tied_plain_at .later [] [.data, .data, .data, .data] true (true, "72bbd1c0c54453a2c2ecd22c6b9ae27e9a9d207e68d8161fe74609dccc82cdec") false
    jointNames_holds (fun _ h => by cases h) (by kernel_rfl) (fun _ h => by cases h) jointNames_row_tie rfl ⟨rfl, rfl⟩ (by kernel_rfl) rfl
    (fun f fn hf hfn => by
      obtain rfl : f = 4 := Option.some.inj ((show Tryz.prog.funcNamed "spokeshave/spokeshavelaw03.JointNames" = some 4 by kernel_rfl).symm.trans hf) |>.symm
      obtain rfl : fn = Tryz.f4 := (Option.some.inj (Tryz.func4.symm.trans hfn)).symm
      exact ⟨by kernel_rfl, jointNames_params⟩)
    (by kernel_rfl)
#print axioms jointNames_card
end Go.Proofs.YtipfdkecodadnaaGreatDoor
