/- Walks over the timber seat: sorting intervals by where they begin. -/
import Derived.Test.YtnjbhidncicfiaaD2
import Derived.Shelf.SlSortCmp.WholeK
import Derived.Shelf.SlGeneric
import Derived.Shelf.Lay
import Derived.Ground.SlsfProg
import Derived.Test.YtnjbhidncicfiaaMC
import Derived.Laws.AppendOwn
namespace Go.Proofs.Ytnjbhidncicfiaa
open Go.Shelf Go.RowKit Go.Lib Go.Sort
shelf_lay_g SlLaysF0.n6 Slsf 6 at Try 130 as Try.sortIv
def encIv (x : Int × Int) : List Value := [.int .i64 x.1, .int .i64 x.2]
set_option maxHeartbeats 1000000 in
theorem compare_any (x y : Int) (w : World) : Calls Try.prog 132 #[.int .i64 x, .int .i64 y] w fun e w' => e = .returned (.int .i64 (Lib.compareInt x y)) ∧ w = w' := by
  go_enter Try.func132, Try.ntmps132
  go_wp2_with go_in
  all_goals
    go_ret
    refine ⟨ret_int ?_, rfl⟩
    unfold Lib.compareInt
    first | (rw [if_pos (by omega)]) | (rw [if_neg (by omega), if_pos (by omega)]) | (rw [if_neg (by omega), if_neg (by omega)])
set_option maxHeartbeats 1000000 in
theorem closure131 (x y : Int × Int) (W : World) : Calls Try.prog 131 #[.agg #[.int .i64 x.1, .int .i64 x.2], .agg #[.int .i64 y.1, .int .i64 y.2]] W fun e w' => e = .returned (.int .i64 (Lib.compareInt x.1 y.1)) ∧ ∃ q os', w' = grow (W.drewN q) os' := by
  have hcon := fun W' => Lib.hid (compare_any x.1 y.1 W')
  generalize Lib.compareInt x.1 y.1 = r at hcon ⊢
  go_enter Try.func131, Try.ntmps131
  go_wp2_with (go_at_call 132; refine (Calls.mono (hcon _).out ?_); rintro e w' ⟨rfl, rfl⟩)
  go_ret
  exact ⟨rfl, 0, _, by rw [alloc_eq_grow, alloc_eq_grow, grow_grow]; rfl⟩
theorem cmpLays131 (blk off size : Nat) (w : World) : CmpLays Try.prog 131 #[] encIv 2 (fun x y => Lib.compareInt x.1 y.1) blk off size w :=
  fun _ _ _ _ x y => closure131 x y _
theorem ltLo (x y : Int × Int) : ltOf (fun x y : Int × Int => Lib.compareInt x.1 y.1) x y = decide (x.1 < y.1) := by
  unfold ltOf Lib.compareInt
  by_cases h1 : x.1 < y.1
  · simp [h1]
  · by_cases h2 : y.1 < x.1 <;> simp [h1, h2]
theorem swoLo : SWO (ltOf fun x y : Int × Int => Lib.compareInt x.1 y.1) where
  irrefl x := by rw [ltLo]; simp
  trans x y z h1 h2 := by rw [ltLo] at *; simp at *; omega
  ntrans x y z h1 h2 := by rw [ltLo] at *; simp at *; omega
theorem isAgg50 (w : World) : (isAgg 50).run Try.prog w = .ok true w := by kernel_rfl
theorem sizeOf50 (w : World) : (Go.sizeOf 50).run Try.prog w = .ok 2 w := by kernel_rfl
def ivCells (xs : List Iv) : List Value := xs.flatMap encIv
set_option maxHeartbeats 1000000 in
/-- The sort of a row that is held: a permutation, by where they begin. -/
theorem sortIv_any (g cap : Nat) (d : Array Iv) (w : World) (hH : HoldsK encIv 2 w g 0 d) (hblk : g < w.heap.size) (hsz : d.size < 4611686018427387904) :
    Calls Try.prog 130 #[.slice (some ⟨g, 0, none⟩) d.size cap, .func (.func 131) #[] #[]] w fun e w' => e = .returned (.tuple #[]) ∧ ∃ d' n os, PermIn 0 d.size d d' ∧ SortedIn (ltOf fun x y : Int × Int => Lib.compareInt x.1 y.1) 0 d.size d' ∧ w' = sortWorldK encIv 2 w g 0 n d' os := by
  have eg : ∀ args w, (callFunc 131 args).run Try.prog w = .ok (.enter 131 args) w := enters_of Try.func131 (by kernel_rfl) rfl
  exact AnyQ.slices_SortFunc Try.sortIv 2 isAgg50 sizeOf50 encIv (fun _ => rfl) (fun x v hv => by simp [encIv] at hv; rcases hv with rfl | rfl <;> rfl) (fun x y => Lib.compareInt x.1 y.1) swoLo 131 #[] g 0 cap d w eg (cmpLays131 g 0 d.size w) hH hblk hsz
theorem perm_of {d d' : Array Iv} (h : PermIn 0 d.size d d') : d'.toList.Perm d.toList := by
  obtain ⟨h1, -, h3⟩ := h
  have e1 : d'.extract 0 d.size = d' := by rw [← h1]; simp
  have e2 : d.extract 0 d.size = d := by simp
  rw [e1, e2] at h3
  exact h3
theorem sorted_of {d : Array Iv} {n : Nat} (hn : n = d.size) (h : SortedIn (ltOf fun x y : Int × Int => Lib.compareInt x.1 y.1) 0 n d) : d.toList.Pairwise (fun a b => a.1 ≤ b.1) := by
  subst hn
  rw [List.pairwise_iff_getElem]
  intro i j hi hj hij
  have hj' : j < d.size := by simpa using hj
  have := h i j (Nat.zero_le _) hij hj'
  rw [ltLo, getElem!_pos d j hj', getElem!_pos d i (by omega)] at this
  simp only [Array.getElem_toList]
  have := of_decide_eq_false this
  omega
end Go.Proofs.Ytnjbhidncicfiaa
