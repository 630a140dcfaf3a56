/- Walks over the timber seat: one species, its rates. -/
import Derived.Test.YtnjbhidncicfiaaN2
import Derived.Test.YtnjbhidncicfiaaMS
namespace Go.Proofs.Ytnjbhidncicfiaa
open Go.RowKit

theorem within_three {lo hi x y z : Int} {v : Bool} (hv : allIn lo hi [x, y, z] = v) (w : World) (e : TypeId) {blk : Nat} (hblk : blk = w.heap.size) :
    Calls Try.prog 79 #[.int .i64 lo, .int .i64 hi, .slice (some ⟨blk, 0, none⟩) 3 3] (w.alloc (.cells #[.int .i64 x, .int .i64 y, .int .i64 z] e)) fun e' w' => e' = .returned (.bool v) ∧ Below w.heap.size w w' :=
  by subst hblk; exact within_new hv 3 3 w e _ rfl rfl (by decide)

set_option maxHeartbeats 1000000 in
theorem checkOne_any {nm : ByteArray} {al ac ra de st sr : Int} {c : Int} (hc : spCode ⟨nm, al, ac, ra, de, st, sr⟩ = c) (hn : nm.size ≤ maxLen) (w : World) :
    Calls Try.prog 78 #[.agg #[.string nm, .int .i64 al, .int .i64 ac, .int .i64 ra, .int .i64 de, .int .i64 st, .int .i64 sr]] w fun e w' => e = .returned (.int .i64 c) ∧ Below w.heap.size w w' := by
  have HC := Lib.hid hc
  clear hc
  cases h0 : nameB nm
  · have NM := fun wx => Lib.hid (isName_any (w := wx) h0 hn)
    have X0 := Lib.hid h0; clear h0
    go_enter Try.func78, Try.ntmps78
    go_wp2_with (go_at_call 113; (refine Calls.mono (NM _).out ?_); rintro e w' ⟨rfl, rfl⟩)
    go_ret
    exact ⟨ret_int (by rw [← HC.out]; unfold spCode; rw [X0.out]; rfl), (Below.refl _ _).alloc (Nat.le_refl _) _⟩
  · have NM := fun wx => Lib.hid (isName_any (w := wx) h0 hn)
    have X0 := Lib.hid h0; clear h0
    cases h1 : allIn 0 2000 [al, ac, ra]
    · have X1 := Lib.hid h1; clear h1
      go_enter Try.func78, Try.ntmps78
      go_wp2_with (first | (go_at_call 113; (refine Calls.mono (NM _).out ?_); rintro e w' ⟨rfl, rfl⟩) | (go_at_call 79; (with_reducible refine (within_three X1.out _ _ (by simp)).mono ?_); rintro e w1 ⟨rfl, hb1⟩; have hs1 : w.heap.size < w1.heap.size := (by have := hb1.size; (try simp at this); omega); obtain ⟨hc1, hf1⟩ := bcell hb1))
      go_ret
      exact ⟨ret_int (by rw [← HC.out]; unfold spCode spRange; rw [X0.out, X1.out]; rfl), (((Below.refl _ _).alloc (Nat.le_refl _) _).trans (hb1.mono (by first | omega | (simp; omega) | simp)))⟩
    · have X1 := Lib.hid h1; clear h1
      cases h2 : allIn 1 2000 [de]
      · have X2 := Lib.hid h2; clear h2
        go_enter Try.func78, Try.ntmps78
        go_wp2_with (first | (go_at_call 113; (refine Calls.mono (NM _).out ?_); rintro e w' ⟨rfl, rfl⟩) | (go_at_call 79; (with_reducible refine (within_three X1.out _ _ (by simp)).mono ?_); rintro e w1 ⟨rfl, hb1⟩; have hs1 : w.heap.size < w1.heap.size := (by have := hb1.size; (try simp at this); omega); obtain ⟨hc1, hf1⟩ := bcell hb1) | (go_at_call 79; (with_reducible refine (within_one X2.out _ _).mono ?_); rintro e w2 ⟨rfl, hb2⟩; have hs2 : w.heap.size < w2.heap.size := (by have := hb2.size; (try simp at this); omega); obtain ⟨hc2, hf2⟩ := bcell hb2))
        go_ret
        exact ⟨ret_int (by rw [← HC.out]; unfold spCode spRange; rw [X0.out, X1.out, X2.out]; rfl), ((((Below.refl _ _).alloc (Nat.le_refl _) _).trans (hb1.mono (by first | omega | (simp; omega) | simp))).trans (hb2.mono (by first | omega | (simp; omega) | simp)))⟩
      · have X2 := Lib.hid h2; clear h2
        cases h3 : allIn 1 100000 [st]
        · have X3 := Lib.hid h3; clear h3
          go_enter Try.func78, Try.ntmps78
          go_wp2_with (first | (go_at_call 113; (refine Calls.mono (NM _).out ?_); rintro e w' ⟨rfl, rfl⟩) | (go_at_call 79; (with_reducible refine (within_three X1.out _ _ (by simp)).mono ?_); rintro e w1 ⟨rfl, hb1⟩; have hs1 : w.heap.size < w1.heap.size := (by have := hb1.size; (try simp at this); omega); obtain ⟨hc1, hf1⟩ := bcell hb1) | (go_at_call 79; (with_reducible refine (within_one X2.out _ _).mono ?_); rintro e w2 ⟨rfl, hb2⟩; have hs2 : w.heap.size < w2.heap.size := (by have := hb2.size; (try simp at this); omega); obtain ⟨hc2, hf2⟩ := bcell hb2) | (go_at_call 79; (with_reducible refine (within_one X3.out _ _).mono ?_); rintro e w3 ⟨rfl, hb3⟩; have hs3 : w.heap.size < w3.heap.size := (by have := hb3.size; (try simp at this); omega); obtain ⟨hc3, hf3⟩ := bcell hb3))
          go_ret
          exact ⟨ret_int (by rw [← HC.out]; unfold spCode spRange; rw [X0.out, X1.out, X2.out, X3.out]; rfl), (((((Below.refl _ _).alloc (Nat.le_refl _) _).trans (hb1.mono (by first | omega | (simp; omega) | simp))).trans (hb2.mono (by first | omega | (simp; omega) | simp))).trans (hb3.mono (by first | omega | (simp; omega) | simp)))⟩
        · have X3 := Lib.hid h3; clear h3
          cases h4 : allIn 1 1000 [sr]
          · have X4 := Lib.hid h4; clear h4
            go_enter Try.func78, Try.ntmps78
            go_wp2_with (first | (go_at_call 113; (refine Calls.mono (NM _).out ?_); rintro e w' ⟨rfl, rfl⟩) | (go_at_call 79; (with_reducible refine (within_three X1.out _ _ (by simp)).mono ?_); rintro e w1 ⟨rfl, hb1⟩; have hs1 : w.heap.size < w1.heap.size := (by have := hb1.size; (try simp at this); omega); obtain ⟨hc1, hf1⟩ := bcell hb1) | (go_at_call 79; (with_reducible refine (within_one X2.out _ _).mono ?_); rintro e w2 ⟨rfl, hb2⟩; have hs2 : w.heap.size < w2.heap.size := (by have := hb2.size; (try simp at this); omega); obtain ⟨hc2, hf2⟩ := bcell hb2) | (go_at_call 79; (with_reducible refine (within_one X3.out _ _).mono ?_); rintro e w3 ⟨rfl, hb3⟩; have hs3 : w.heap.size < w3.heap.size := (by have := hb3.size; (try simp at this); omega); obtain ⟨hc3, hf3⟩ := bcell hb3) | (go_at_call 79; (with_reducible refine (within_one X4.out _ _).mono ?_); rintro e w4 ⟨rfl, hb4⟩; have hs4 : w.heap.size < w4.heap.size := (by have := hb4.size; (try simp at this); omega); obtain ⟨hc4, hf4⟩ := bcell hb4))
            go_ret
            exact ⟨ret_int (by rw [← HC.out]; unfold spCode spRange; rw [X0.out, X1.out, X2.out, X3.out, X4.out]; rfl), ((((((Below.refl _ _).alloc (Nat.le_refl _) _).trans (hb1.mono (by first | omega | (simp; omega) | simp))).trans (hb2.mono (by first | omega | (simp; omega) | simp))).trans (hb3.mono (by first | omega | (simp; omega) | simp))).trans (hb4.mono (by first | omega | (simp; omega) | simp)))⟩
          · have X4 := Lib.hid h4; clear h4
            go_enter Try.func78, Try.ntmps78
            go_wp2_with (first | (go_at_call 113; (refine Calls.mono (NM _).out ?_); rintro e w' ⟨rfl, rfl⟩) | (go_at_call 79; (with_reducible refine (within_three X1.out _ _ (by simp)).mono ?_); rintro e w1 ⟨rfl, hb1⟩; have hs1 : w.heap.size < w1.heap.size := (by have := hb1.size; (try simp at this); omega); obtain ⟨hc1, hf1⟩ := bcell hb1) | (go_at_call 79; (with_reducible refine (within_one X2.out _ _).mono ?_); rintro e w2 ⟨rfl, hb2⟩; have hs2 : w.heap.size < w2.heap.size := (by have := hb2.size; (try simp at this); omega); obtain ⟨hc2, hf2⟩ := bcell hb2) | (go_at_call 79; (with_reducible refine (within_one X3.out _ _).mono ?_); rintro e w3 ⟨rfl, hb3⟩; have hs3 : w.heap.size < w3.heap.size := (by have := hb3.size; (try simp at this); omega); obtain ⟨hc3, hf3⟩ := bcell hb3) | (go_at_call 79; (with_reducible refine (within_one X4.out _ _).mono ?_); rintro e w4 ⟨rfl, hb4⟩; have hs4 : w.heap.size < w4.heap.size := (by have := hb4.size; (try simp at this); omega); obtain ⟨hc4, hf4⟩ := bcell hb4))
            go_ret
            exact ⟨ret_int (by rw [← HC.out]; unfold spCode spRange; rw [X0.out, X1.out, X2.out, X3.out, X4.out]; rfl), ((((((Below.refl _ _).alloc (Nat.le_refl _) _).trans (hb1.mono (by first | omega | (simp; omega) | simp))).trans (hb2.mono (by first | omega | (simp; omega) | simp))).trans (hb3.mono (by first | omega | (simp; omega) | simp))).trans (hb4.mono (by first | omega | (simp; omega) | simp)))⟩
end Go.Proofs.Ytnjbhidncicfiaa
