/- Walks over the timber seat: TimberMoves. -/
import Derived.Test.YtnjbhidncicfiaaW3
import Derived.Test.YtnjbhidncicfiaaW7
import Derived.Deep.RegionHeld3
namespace Go.Proofs.Ytnjbhidncicfiaa
open Go.RowKit

theorem moveErr_two {size rate a b c : Int} (hc : moveCode size rate [a, b] = c) (w : World) (e : TypeId) {blk : Nat} (hblk : blk = w.heap.size) :
    Calls Try.prog 34 #[.int .i64 size, .int .i64 rate, .slice (some ⟨blk, 0, none⟩) 2 2] (w.alloc (.cells #[.int .i64 a, .int .i64 b] e)) fun e' w' => e' = .returned (.int .i64 c) ∧ w.alloc (.cells #[.int .i64 a, .int .i64 b] e) = w' := by
  subst hblk; subst hc
  exact moveErr_any size rate _ 2 2 [a, b] _ rfl (by decide) (fun k h => by rw [World.cell?_alloc_new]; match k, h with | 0, _ => rfl | 1, _ => rfl)
theorem kept6 {W wx w' : World} {b0 b1 b2 : Nat} {v0 v1 v2 v3 v4 v5 : Value} (hb : Below wx.heap.size wx w') (h : Below W.heap.size W wx ∧ wx.cell? ⟨b0, 0, none⟩ = some v0 ∧ wx.cell? ⟨b0, 1, none⟩ = some v1 ∧ wx.cell? ⟨b1, 0, none⟩ = some v2 ∧ wx.cell? ⟨b1, 1, none⟩ = some v3 ∧ wx.cell? ⟨b2, 0, none⟩ = some v4 ∧ wx.cell? ⟨b2, 1, none⟩ = some v5)
    (h0 : b0 < W.heap.size) (h1 : b1 < W.heap.size) (h2 : b2 < W.heap.size) :
    Below W.heap.size W w' ∧ w'.cell? ⟨b0, 0, none⟩ = some v0 ∧ w'.cell? ⟨b0, 1, none⟩ = some v1 ∧ w'.cell? ⟨b1, 0, none⟩ = some v2 ∧ w'.cell? ⟨b1, 1, none⟩ = some v3 ∧ w'.cell? ⟨b2, 0, none⟩ = some v4 ∧ w'.cell? ⟨b2, 1, none⟩ = some v5 := by
  obtain ⟨a, c0, c1, c2, c3, c4, c5⟩ := h
  have hs := a.size
  have k : ∀ b o, b < W.heap.size → w'.cell? ⟨b, o, none⟩ = wx.cell? ⟨b, o, none⟩ := fun b o hlt => hb.cell (p := ⟨b, o, none⟩) (Nat.lt_of_lt_of_le hlt hs)
  exact ⟨a.trans (hb.mono hs), by rw [k _ _ h0, c0], by rw [k _ _ h0, c1], by rw [k _ _ h1, c2], by rw [k _ _ h1, c3], by rw [k _ _ h2, c4], by rw [k _ _ h2, c5]⟩
set_option maxHeartbeats 1000000 in
theorem moves_no {size rate a b : Int} (hno : moveOk size rate [a, b] = false) (w : World) :
    Calls Try.prog 6 #[.int .i64 size, .int .i64 rate, .agg #[.int .i64 a, .int .i64 b]] w fun e w' => e = .returned (.bool true) ∧ Below w.heap.size w w' := by
  have C := Lib.hid (moveCode_no hno)
  have N := Lib.hid hno
  clear hno
  go_enter Try.func6, Try.ntmps6
  go_wp2_with (first | (go_at_call 18; refine (awake_any _).mono ?_; rintro e w1 ⟨rfl, hb1⟩; have hs1 : w.heap.size < w1.heap.size := (by have := hb1.size; simp at this; omega); obtain ⟨hc1, hf1⟩ := bcell hb1) | (go_at_call 32; (with_reducible refine (exact_err N.out _).mono ?_); rintro e w2 ⟨rfl, hb2⟩; have hs2 : w1.heap.size ≤ w2.heap.size := (by have := hb2.size; omega); have ht2 : w.heap.size < w2.heap.size := (by omega); obtain ⟨hc2, hf2⟩ := bcell hb2) | (go_at_call 33; (with_reducible refine (at_err N.out _).mono ?_); rintro e w3 ⟨rfl, hb3⟩; have hs3 : w2.heap.size < w3.heap.size := (by have := hb3.size; simp at this; omega); have ht3 : w.heap.size < w3.heap.size := (by omega); obtain ⟨hc3, hf3⟩ := bcell hb3) | (go_at_call 34; (with_reducible refine (moveErr_two C.out _ _ (by simp)).mono ?_); rintro e w4 ⟨rfl, rfl⟩))
  go_ret
  exact ⟨rfl, ((((((((Below.refl _ _).alloc (Nat.le_refl _) _).trans (hb1.mono (by simp))).trans (hb2.mono (by omega))).alloc (by omega) _).trans (hb3.mono (by simp; omega))).alloc (by omega) _).alloc (by simp; omega) _)⟩
set_option maxHeartbeats 1000000 in
theorem moves_yes {size rate a b : Int} (hok : moveOk size rate [a, b] = true) (w : World) :
    Calls Try.prog 6 #[.int .i64 size, .int .i64 rate, .agg #[.int .i64 a, .int .i64 b]] w fun e w' => e = .returned (.bool true) ∧ Below w.heap.size w w' := by
  have hm := mov_of hok (f := a) (t := b) (by simp) (by simp)
  obtain ⟨p, hp, hp'⟩ := millis_nat hm
  have C := Lib.hid (moveCode_ok hok)
  have EX := fun wx => Lib.hid (exact_ok hok hp hp' wx)
  have AT := fun wx => Lib.hid (at_ok hok wx)
  have RX := fun wx => Lib.hid (rexact_any hm hp hp' wx)
  have RA := fun wx => Lib.hid (rat_any hm wx)
  obtain ⟨u, hu⟩ : ∃ x, fracNum p = x := ⟨_, rfl⟩
  obtain ⟨v, hv⟩ : ∃ x, fracDen p = x := ⟨_, rfl⟩
  obtain ⟨il, hil⟩ : ∃ x, movedLo size rate a b = x := ⟨_, rfl⟩
  obtain ⟨ih, hih⟩ : ∃ x, movedHi size rate a b = x := ⟨_, rfl⟩
  rw [hu, hv] at EX RX
  rw [hil, hih] at AT RA
  clear hok hm hp hp' hu hv hil hih
  go_enter Try.func6, Try.ntmps6
  go_wp2_with (first | (go_at_call 18; refine (awake_any _).mono ?_; rintro e w1 ⟨rfl, hb1⟩; have hs1 : w.heap.size < w1.heap.size := (by have := hb1.size; simp at this; omega); obtain ⟨hc1, hf1⟩ := bcell hb1) | (go_at_call 32; (refine Calls.mono (EX _).out ?_); rintro e w2 ⟨rfl, hb2⟩; have hs2 : w1.heap.size ≤ w2.heap.size := (by have := hb2.size; omega); have ht2 : w.heap.size < w2.heap.size := (by omega); obtain ⟨hc2, hf2⟩ := bcell hb2) | (go_at_call 33; (refine Calls.mono (AT _).out ?_); rintro e w3 ⟨rfl, hb3⟩; have hs3 : w2.heap.size < w3.heap.size := (by have := hb3.size; simp at this; omega); have ht3 : w.heap.size < w3.heap.size := (by omega); obtain ⟨hc3, hf3⟩ := bcell hb3) | (go_at_call 34; (with_reducible refine (moveErr_two C.out _ _ (by simp)).mono ?_); rintro e w4 ⟨rfl, rfl⟩))
  have hB := (((((((Below.refl w.heap.size w).alloc (Nat.le_refl _) (.cells #[.int .i64 a, .int .i64 b] 50)).trans (hb1.mono (by simp))).trans (hb2.mono (by omega))).alloc (by omega) (.cells #[.int .i64 u, .int .i64 v] 52)).trans (hb3.mono (by simp; omega))).alloc (by omega) (.cells #[.int .i64 il, .int .i64 ih] 50)).alloc (by simp; omega) (.cells #[.int .i64 a, .int .i64 b] 3)
  have z0 : ((w3.alloc (.cells #[.int .i64 il, .int .i64 ih] 50)).alloc (.cells #[.int .i64 a, .int .i64 b] 3)).cell? ⟨w.heap.size, 0, none⟩ = some (.int .i64 a) := by simp [go_sem, *]
  have z1 : ((w3.alloc (.cells #[.int .i64 il, .int .i64 ih] 50)).alloc (.cells #[.int .i64 a, .int .i64 b] 3)).cell? ⟨w.heap.size, 1, none⟩ = some (.int .i64 b) := by simp [go_sem, *]
  have z2 : ((w3.alloc (.cells #[.int .i64 il, .int .i64 ih] 50)).alloc (.cells #[.int .i64 a, .int .i64 b] 3)).cell? ⟨w2.heap.size, 0, none⟩ = some (.int .i64 u) := by simp [go_sem, *]
  have z3 : ((w3.alloc (.cells #[.int .i64 il, .int .i64 ih] 50)).alloc (.cells #[.int .i64 a, .int .i64 b] 3)).cell? ⟨w2.heap.size, 1, none⟩ = some (.int .i64 v) := by simp [go_sem, *]
  have z4 : ((w3.alloc (.cells #[.int .i64 il, .int .i64 ih] 50)).alloc (.cells #[.int .i64 a, .int .i64 b] 3)).cell? ⟨w3.heap.size, 0, none⟩ = some (.int .i64 il) := by simp [go_sem, *]
  have z5 : ((w3.alloc (.cells #[.int .i64 il, .int .i64 ih] 50)).alloc (.cells #[.int .i64 a, .int .i64 b] 3)).cell? ⟨w3.heap.size, 1, none⟩ = some (.int .i64 ih) := by simp [go_sem, *]
  have q3 : w3.heap.size < ((w3.alloc (.cells #[.int .i64 il, .int .i64 ih] 50)).alloc (.cells #[.int .i64 a, .int .i64 b] 3)).heap.size := by simp; omega
  obtain ⟨W, hW⟩ : ∃ W, ((w3.alloc (.cells #[.int .i64 il, .int .i64 ih] 50)).alloc (.cells #[.int .i64 a, .int .i64 b] 3)) = W := ⟨_, rfl⟩
  rw [hW] at z0 z1 z2 z3 z4 z5 q3 hB
  rw [hW]
  have HB := Lib.hid hB
  have Q3 := Lib.hid q3
  have Q2 := Lib.hid (show w2.heap.size < W.heap.size by omega)
  have Q1 := Lib.hid (show w.heap.size < W.heap.size by omega)
  clear hW hB hc1 hc2 hc3 hf1 hf2 hf3 hb1 hb2 hb3 hs1 hs2 ht2 hs3 ht3 EX AT
  go_region_held3 (fun wx => Below W.heap.size W wx ∧ wx.cell? ⟨w.heap.size, 0, none⟩ = some (.int .i64 a) ∧ wx.cell? ⟨w.heap.size, 1, none⟩ = some (.int .i64 b) ∧ wx.cell? ⟨w2.heap.size, 0, none⟩ = some (.int .i64 u) ∧ wx.cell? ⟨w2.heap.size, 1, none⟩ = some (.int .i64 v) ∧ wx.cell? ⟨w3.heap.size, 0, none⟩ = some (.int .i64 il) ∧ wx.cell? ⟨w3.heap.size, 1, none⟩ = some (.int .i64 ih)) ((first | (refine ⟨(Below.refl _ _).drew, ?_, ?_, ?_, ?_, ?_, ?_⟩ <;> assumption) | (refine ⟨?_, ?_, ?_, ?_, ?_, ?_, ?_⟩ <;> assumption) | (apply kept6 <;> first | assumption | exact Q1.out | exact Q2.out | exact Q3.out)))
    (first | (go_at_call 35; refine Calls.mono (RX _).out ?_; rintro e w' ⟨rfl, hbx⟩) | (go_at_call 36; refine Calls.mono (RA _).out ?_; rintro e w' ⟨rfl, hbx⟩))
  obtain ⟨hWx, -⟩ := ‹Below W.heap.size W w' ∧ _›
  go_wp2
  go_ret
  exact ⟨rfl, HB.out.trans (hWx.mono (by have := Q1.out; omega))⟩
theorem moves_any (size rate a b : Int) (w : World) :
    Calls Try.prog 6 #[.int .i64 size, .int .i64 rate, .agg #[.int .i64 a, .int .i64 b]] w fun e w' => e = .returned (.bool true) ∧ Below w.heap.size w w' := by
  cases h : moveOk size rate [a, b]
  · exact moves_no h w
  · exact moves_yes h w
end Go.Proofs.Ytnjbhidncicfiaa
