/- TimberBoards (chapter 2): for every list of species, every board and every stock the law returns true, and its arguments read behind the call as before. No condition. -/
import Derived.Test.YtnjbhidncicfiaaRows
import Derived.Test.YtnjbhidncicfiaaB9
import Derived.Test.YtnjbhidncicfiaaO5
import Derived.Test.YtnjbhidncicfiaaFacts
import Derived.WalkKit
import Derived.ProofKit
import Derived.OpenShut
import Derived.ShutString
import Derived.ChangeOld
import Derived.Below
import Derived.Lib.SmallJoins
namespace Go.Proofs.Ytnjbhidncicfiaa
open Go.ChangeShapes Go.WideShapes Go.ChangeAt Go.RowKit Go.Joins


set_option maxRecDepth 100000 in
theorem timberBoards_lifted (os : Os) (started : os.Started) (H : Type) (enc : TypeId × Value → H) :
    ReturnsInHanded {} Try.checked os 4 .any (Rows.timberBoardsSpec.pre6 enc Try.prog Try.f4 Rows.timberBoardsRow.domain false) (Rows.timberBoardsSpec.post enc Try.prog Try.f4 false true false false) := by
  refine returnsInHanded_of_change (C := Try.checked) own started (by kernel_rfl) Try.func4
    (ChangeSpec.witness6 (enc := enc) (C := Try.checked) false ⟨#[], #[.slice none 0 0, .agg #[.string ByteArray.empty, .string ByteArray.empty, .int .i64 0, .int .i64 0, .int .i64 0, .int .i64 0, .int .i64 0, .slice none 0 0], .slice none 0 0], []⟩ 8 (by kernel_rfl) (by kernel_rfl) (by kernel_rfl) (by kernel_rfl)) ?_
  intro W base args ds gs before hval0 hW hcnd _
  have hval : ∀ (j : Nat) t v, Try.f4.params[j]? = some t → args[j]? = some v → Value.okWide Try.prog W .any base t v := hval0
  have hW' := hW
  obtain ⟨p, q, hA0, hV, rfl, hfz, hnd⟩ := hW
  have hA : DataW.TrodAll enc Try.prog W 0 (fun _ => true) true Try.f4.params.toList args.toList ds p := hA0
  rw [Try.params4] at hA hval
  obtain ⟨v0, v1, v2, d0, d1, d2, p0, p1, p2, rfl, rfl, rfl, h0, h1, h2⟩ := trodAll_three hA
  obtain ⟨rfl, rfl⟩ := trodVars_none hV
  have k0 := h0
  have lt0 : ∀ x ∈ p0, x.block < W.heap.size := by obtain ⟨m, hm⟩ := k0; exact DataW.trod_lt m _ _ _ hm
  have k1 := h1
  have lt1 : ∀ x ∈ p1, x.block < W.heap.size := by obtain ⟨m, hm⟩ := k1; exact DataW.trod_lt m _ _ _ hm
  have k2 := h2
  have lt2 : ∀ x ∈ p2, x.block < W.heap.size := by obtain ⟨m, hm⟩ := k2; exact DataW.trod_lt m _ _ _ hm
  obtain ⟨A0, n0, cp0, xs0, rfl, ln0, row0⟩ := open_species (hval 0 22 v0 rfl rfl) h0
  obtain ⟨bd1, A1, n1, cp1, rfl, bn1, row1⟩ := open_board (hval 1 34 v1 rfl rfl) h1
  obtain ⟨A2, n2, cp2, xs2, rfl, ln2, row2⟩ := open_stock (hval 2 35 v2 rfl rfl) h2
  clear hA0 hval0
  refine (boards_law A0 n0 cp0 xs0 bd1 A1 n1 cp1 A2 n2 cp2 xs2 ln0 bn1 ln2 W row0 row1 row2).mono fun e W' ⟨he, bel⟩ => ?_
  subst he
  exact ⟨_, rfl, _, _, _, [], _, [], hW', trodAll_mk1 (shut_bool Try.underlying4 _), trodAll_mk3 (Below.trod laidOut (by kernel_rfl) (of_decide_eq_true (by kernel_rfl)) k0 bel lt0) (Below.trod laidOut (by kernel_rfl) (of_decide_eq_true (by kernel_rfl)) k1 bel lt1) (Below.trod laidOut (by kernel_rfl) (of_decide_eq_true (by kernel_rfl)) k2 bel lt2), rfl, bel.frame _, fun h => by cases h⟩

theorem timberBoards_place : (Rows.timberBoardsRow.inPlace == Try.pinned.checked.prog.inPlace 4) = true := by kernel_rfl
theorem timberBoards_unfollowed : (Rows.timberBoardsRow.unfollowed == Try.pinned.checked.prog.unfollowed 4) = true := by kernel_rfl
theorem timberBoards_recurses : (Rows.timberBoardsRow.recurses == Try.pinned.checked.prog.recurses 4) = true := by kernel_rfl
theorem timberBoards_vars : (Rows.timberBoardsRow.named == Try.pinned.checked.prog.varsNamed 4) = true := by kernel_rfl
theorem timberBoards_facts : joinedFacts Try.pinned.checked.prog 4 Try.f4 Rows.timberBoardsSpec Rows.timberBoardsRow = true := by
  unfold joinedFacts
  rw [timberBoards_place, timberBoards_unfollowed, timberBoards_recurses, timberBoards_vars, laidOut', mapsRow, heads.1, show (Rows.timberBoardsRow.lifted == Try.pinned.checked.prog.liftsFinal) = true from heads.2.1, show (Try.pinned.checked.prog.make == some Rows.timberBoardsRow.make) = true from heads.2.2]
  kernel_rfl
theorem timberBoards_func : Try.pinned.checked.prog.funcNamed Rows.timberBoardsRow.func = some 4 := by kernel_rfl
theorem timberBoards_inst : Try.f4.isInstance Try.pinned.checked.prog Rows.timberBoardsRow.origin Rows.timberBoardsRow.targs := of_decide_eq_true (by kernel_rfl)
theorem timberBoards_wrap : Try.f4.isWrapper Try.pinned.checked.prog Rows.timberBoardsRow.wrapper Rows.timberBoardsRow.mainSum := by
  unfold Func.isWrapper
  first | (rw [if_pos (by decide +kernel)]; kernel_rfl) | (rw [if_neg (by decide +kernel)]; exact ⟨rfl, rfl⟩)
theorem timberBoards_holds : Rows.TimberBoardsSaid :=
  OpenClaim.holds_of_wide 4 Try.f4 rfl rfl rfl rfl rfl rfl rfl ⟨rfl, rfl, rfl, rfl, rfl⟩ rfl rfl rfl rfl rfl timberBoards_func Try.func4 timberBoards_facts timberBoards_inst timberBoards_wrap
    (fun os started H enc _ => timberBoards_lifted os started H enc)
#print axioms timberBoards_holds
end Go.Proofs.Ytnjbhidncicfiaa
