/- Walks over the timber seat: rectangles, boards. -/
import Derived.Test.YtnjbhidncicfiaaS4
import Derived.Test.YtnjbhidncicfiaaS1
import Derived.Test.YtnjbhidncicfiaaMC
import Derived.Test.YtnjbhidncicfiaaT2
import Derived.Test.YtnjbhidncicfiaaW9
namespace Go.Proofs.Ytnjbhidncicfiaa
open Go.RowKit

theorem within_twob {lo hi x y : Int} {v : Bool} (hv : allIn lo hi [x, y] = v) (w : World) (e : TypeId) {blk : Nat} (hblk : blk = w.heap.size) :
    Calls Try.prog 79 #[.int .i64 lo, .int .i64 hi, .slice (some ⟨blk, 0, none⟩) 2 2] (w.alloc (.cells #[.int .i64 x, .int .i64 y] e)) fun e' w' => e' = .returned (.bool v) ∧ Below w.heap.size w w' :=
  by subst hblk; exact within_new hv 2 2 w e _ rfl rfl (by decide)
/-- The error of a rectangle on a board of this length and width. -/
def rcK (ln wd x1 y1 x2 y2 : Int) : Int := bif decide (x1 < x2) && decide (y1 < y2) then (bif allIn 0 ln [x1, x2] && allIn 0 wd [y1, y2] then 0 else 2) else 3
theorem rcK_eq (b : Bd) (r : Rc) : rcCode b r = rcK b.ln b.wd r.x1 r.y1 r.x2 r.y2 := rfl
set_option maxHeartbeats 1000000 in
theorem checkRect_any {nm sp : ByteArray} {ln wd th cu mo : Int} {D : Option Addr} {dn dc : Nat} {x1 y1 x2 y2 c : Int} (hc : rcK ln wd x1 y1 x2 y2 = c) (w : World) :
    Calls Try.prog 90 #[.agg #[.string nm, .string sp, .int .i64 ln, .int .i64 wd, .int .i64 th, .int .i64 cu, .int .i64 mo, .slice D dn dc], .agg #[.int .i64 x1, .int .i64 y1, .int .i64 x2, .int .i64 y2]] w fun e w' => e = .returned (.int .i64 c) ∧ Below w.heap.size w w' := by
  have HC := Lib.hid hc
  clear hc
  by_cases hx : x1 < x2
  · by_cases hy : y1 < y2
    · have d1 : decide (x1 < x2) = true := decide_eq_true hx
      have d2 : decide (y1 < y2) = true := decide_eq_true hy
      have HD : Hid (c = bif allIn 0 ln [x1, x2] && allIn 0 wd [y1, y2] then (0 : Int) else 2) := Lib.hid (by rw [← HC.out]; unfold rcK; rw [d1, d2]; rfl)
      clear d1 d2
      cases h1 : allIn 0 ln [x1, x2]
      · have X1 := Lib.hid h1; clear h1
        go_enter Try.func90, Try.ntmps90
        go_wp2_with (go_at_call 79; (with_reducible refine (within_twob X1.out _ _ (by simp)).mono ?_); rintro e w1 ⟨rfl, hb1⟩; have hs1 : w.heap.size + 1 < w1.heap.size := (by have := hb1.size; (try simp at this); omega); have ht1 : w.heap.size < w1.heap.size := (by omega); obtain ⟨hc1, hf1⟩ := bcell hb1)
        go_ret
        exact ⟨ret_int (by rw [HD.out, X1.out]; rfl), (((Below.refl _ _).alloc (Nat.le_refl _) _).alloc (by simp) _).trans (hb1.mono (by simp; omega))⟩
      · have X1 := Lib.hid h1; clear h1
        cases h2 : allIn 0 wd [y1, y2]
        all_goals
          have X2 := Lib.hid h2; clear h2
          go_enter Try.func90, Try.ntmps90
          go_wp2_with (first | (go_at_call 79; (with_reducible refine (within_twob X1.out _ _ (by simp)).mono ?_); rintro e w1 ⟨rfl, hb1⟩; have hs1 : w.heap.size + 1 < w1.heap.size := (by have := hb1.size; (try simp at this); omega); have ht1 : w.heap.size < w1.heap.size := (by omega); obtain ⟨hc1, hf1⟩ := bcell hb1) | (go_at_call 79; (with_reducible refine (within_twob X2.out _ _ (by simp)).mono ?_); rintro e w2 ⟨rfl, hb2⟩))
          go_ret
          exact ⟨ret_int (by rw [HD.out, X1.out, X2.out]; rfl), ((((Below.refl _ _).alloc (Nat.le_refl _) _).alloc (by simp) _).trans (hb1.mono (by simp; omega))).trans (hb2.mono (by omega))⟩
    · have HD : Hid (c = 3) := Lib.hid (by rw [← HC.out]; unfold rcK; rw [decide_eq_false hy, Bool.and_false]; rfl)
      go_enter Try.func90, Try.ntmps90
      go_wp2
      go_ret
      exact ⟨ret_int HD.out.symm, by go_grown⟩
  · have HD : Hid (c = 3) := Lib.hid (by rw [← HC.out]; unfold rcK; rw [decide_eq_false hx, Bool.false_and]; rfl)
    go_enter Try.func90, Try.ntmps90
    go_wp2
    go_ret
    exact ⟨ret_int HD.out.symm, by go_grown⟩
end Go.Proofs.Ytnjbhidncicfiaa
