/- Walks over the fits: the law of stacks. -/
import Derived.Test.YtcjhodlimpgegaaGT
import Derived.Test.YtcjhodlimpgegaaFV
import Derived.BigRegion
namespace Go.Proofs.Ytcjhodlimpgegaa
open Go.RowKit Go.Maps

structure LC (w wr : World) (X B : Nat) (xa xb a b : Int) : Prop where
  x0 : wr.cell? ⟨X, 0, none⟩ = some (.int .i64 xa)
  x1 : wr.cell? ⟨X, 1, none⟩ = some (.int .i64 xb)
  c0 : wr.cell? ⟨B, 0, none⟩ = some (.int .i64 a)
  c1 : wr.cell? ⟨B, 1, none⟩ = some (.int .i64 b)
  f0 : wr.frozen? ⟨B, 0, none⟩ = false
  f1 : wr.frozen? ⟨B, 1, none⟩ = false
  bel : Below w.heap.size w wr
theorem LC.below {w wr w' : World} {X B : Nat} {xa xb a b : Int} (h : LC w wr X B xa xb a b) (hb : Below wr.heap.size wr w') : LC w w' X B xa xb a b := by
  obtain ⟨x0, x1, c0, c1, f0, f1, bel⟩ := h
  obtain ⟨k, kf⟩ := bcell hb
  have lX := World.block_lt_of_cell? wr _ x0
  have lB := World.block_lt_of_cell? wr _ c0
  exact ⟨(k _ _ lX).trans x0, (k _ _ lX).trans x1, (k _ _ lB).trans c0, (k _ _ lB).trans c1, (kf _ _ lB).trans f0, (kf _ _ lB).trans f1, bel.trans (hb.mono bel.size)⟩
theorem LC.set {w wr : World} {X B : Nat} {xa xb a b : Int} (h : LC w wr X B xa xb a b) (hB : w.heap.size ≤ B) (hne : B ≠ X) (a' b' : Int) : LC w ((wr.setCell ⟨B, 0, none⟩ (.int .i64 a')).setCell ⟨B, 1, none⟩ (.int .i64 b')) X B xa xb a' b' := by
  obtain ⟨x0, x1, c0, c1, f0, f1, bel⟩ := h
  have far : ∀ (wx : World) (b o j : Nat) (v : Value), B ≠ b → (wx.setCell ⟨B, j, none⟩ v).cell? ⟨b, o, none⟩ = wx.cell? ⟨b, o, none⟩ := fun wx b o j v hne => World.cell?_setCell_far wx ⟨B, j, none⟩ ⟨b, o, none⟩ v hne
  refine ⟨?_, ?_, ?_, ?_, ?_, ?_, ?_⟩
  · rw [far _ _ _ _ _ hne, far _ _ _ _ _ hne]; exact x0
  · rw [far _ _ _ _ _ hne, far _ _ _ _ _ hne]; exact x1
  · rw [World.cell?_setCell_other _ _ _ _ (by simp)]; exact World.cell?_setCell_same _ _ _ c0
  · exact World.cell?_setCell_same _ _ _ ((World.cell?_setCell_other _ _ _ _ (by simp)).trans c1)
  · rw [World.frozen?_setCell, World.frozen?_setCell]; exact f0
  · rw [World.frozen?_setCell, World.frozen?_setCell]; exact f1
  · exact (bel.setCell (p := ⟨B, 0, none⟩) hB _).setCell (p := ⟨B, 1, none⟩) hB _
theorem LC.drew {w wr : World} {X B : Nat} {xa xb a b : Int} (h : LC w wr X B xa xb a b) (n : Nat) : LC w (wr.drewN n) X B xa xb a b := h.below (below_drewN (Below.refl _ _) n)
def sumsIv (l : List Md) (cd : Int) : Value := .agg #[.int .i64 (bif decide (cd = 0) then sumLo l else 0), .int .i64 (bif decide (cd = 0) then sumHi l else 0)]
theorem stack_any {A : Option Addr} {n c : Nat} {l : List Md} {cd : Int} (hc : madesCode l = cd) (hn : n ≤ 1000000) (w : World) (hA : MdRow w A n l) :
    Calls Try.prog 32 #[.slice A n c] w fun e w' => e = .returned (.tuple #[.agg #[.int .i64 (bif decide (cd = 0) then sumLo l else 0), .int .i64 (bif decide (cd = 0) then sumHi l else 0)], .int .i64 cd]) ∧ Below w.heap.size w w' := by
  by_cases h0 : cd = 0
  · subst h0
    exact stack_ok hc w hA
  · rw [decide_eq_false h0]
    exact stack_bad hc h0 hn w hA
set_option maxHeartbeats 2000000 in
set_option maxRecDepth 20000 in
theorem stacks_out {A B : Option Addr} {n c m d : Nat} {lim : Int} (h : 30 < n ∨ 30 < m) (hn : n ≤ maxLen) (hm : m ≤ maxLen) (w : World) :
    Calls Try.prog 6 #[.slice A n c, .slice B m d, .int .i64 lim] w fun e w' => e = .returned (.bool true) ∧ Below w.heap.size w w' := by
  have h1 : n ≤ 9223372036854775807 := Nat.le_trans hn (by decide)
  have h2 : m ≤ 9223372036854775807 := Nat.le_trans hm (by decide)
  clear hn hm
  by_cases hn : 30 < n
  · have d1 : decide (30 < (n : Int)) = true := decide_eq_true (by omega)
    go_enter Try.func6, Try.ntmps6
    go_wp2_with (go_at_call 8; refine Calls.mono (awake_any _) ?_; rintro e w1 ⟨rfl, hb1⟩)
    go_ret
    exact ⟨rfl, hb1⟩
  · have d1 : decide (30 < (n : Int)) = false := decide_eq_false (by omega)
    have d2 : decide (30 < (m : Int)) = true := decide_eq_true (by omega)
    go_enter Try.func6, Try.ntmps6
    go_wp2_with (go_at_call 8; refine Calls.mono (awake_any _) ?_; rintro e w1 ⟨rfl, hb1⟩)
    go_ret
    exact ⟨rfl, hb1⟩
set_option maxHeartbeats 2000000 in
set_option maxRecDepth 20000 in
theorem stacks_bad {A B : Option Addr} {n c m d : Nat} {l : List Md} {lim cd : Int} (hc : madesCode l = cd) (h0 : cd ≠ 0) (hn : n ≤ 30) (hm : m ≤ 30) (w : World) (hA : MdRow w A n l) :
    Calls Try.prog 6 #[.slice A n c, .slice B m d, .int .i64 lim] w fun e w' => e = .returned (.bool true) ∧ Below w.heap.size w w' := by
  have d1 : decide (30 < (n : Int)) = false := decide_eq_false (by omega)
  have d2 : decide (30 < (m : Int)) = false := decide_eq_false (by omega)
  have HMD := Lib.hid (fun wx (hb : Below w.heap.size w wx) => hA.below hb)
  have hlk : lkCode l lim = cd := by unfold lkCode; rw [hc, decide_eq_false h0]; rfl
  have hlv : lkV l lim = false := by unfold lkV; rw [hlk, decide_eq_false h0]; rfl
  have ST := Lib.hid (fun wx (hb : Below w.heap.size w wx) => stack_bad (c := c) hc h0 (by omega) wx (HMD.out wx hb))
  have LK := Lib.hid (fun wx (hb : Below w.heap.size w wx) => likely_any (c := c) hlk (by omega) wx (HMD.out wx hb))
  have RS := Lib.hid (fun wx (hb : Below w.heap.size w wx) => rstack_any (c := c) hc (by omega) wx (HMD.out wx hb))
  simp only [hlv] at LK
  have hcb : (cd == 0) = false := beq_eq_false_iff_ne.2 h0
  have hcb' : (cd != 0) = true := bne_iff_ne.2 h0
  clear hA hc hlk hlv HMD
  go_enter Try.func6, Try.ntmps6
  go_wp2_with (first | (go_at_call 8; refine Calls.mono (awake_any _) ?_; rintro e w1 ⟨rfl, hb1⟩) | (go_at_call 32; refine Calls.mono (ST.out _ hb1) ?_; rintro e w2 ⟨rfl, hb2⟩; have hB2 := hb1.trans (hb2.mono hb1.size); have hB3 := hB2.alloc hB2.size (.cells #[.int .i64 0, .int .i64 0] 48)) | (go_at_call 33; refine Calls.mono (LK.out _ hB3) ?_; rintro e w4 ⟨rfl, hb4⟩; have hB4 := hB3.trans (hb4.mono hB3.size)) | (go_at_call 34; refine Calls.mono (RS.out _ hB4) ?_; rintro e w5 ⟨rfl, hb5⟩; have hB5 := hB4.trans (hb5.mono hB4.size); obtain ⟨hc5, hf5⟩ := bcell (hb4.trans (hb5.mono hb4.size))))
  go_ret
  exact ⟨rfl, hB5⟩
end Go.Proofs.Ytcjhodlimpgegaa
