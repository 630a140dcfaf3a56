/- The law of beams. -/
import Derived.Test.YtageiimcmnebmaaCH
import Derived.Test.YtageiimcmnebmaaDQ
import Derived.Test.YtageiimcmnebmaaDR
namespace Go.Proofs.Ytageiimcmnebmaa
open Go.RowKit

set_option maxHeartbeats 2000000 in
theorem none_three {b c : Nat} (w : World) (h0 : w.cell? ⟨b, 0, none⟩ = some (.int .i64 0)) (h1 : w.cell? ⟨b, 1, none⟩ = some (.int .i64 0)) (h2 : w.cell? ⟨b, 2, none⟩ = some (.int .i64 0)) (h3 : w.cell? ⟨b, 3, none⟩ = some (.int .i64 0)) (h4 : w.cell? ⟨b, 4, none⟩ = some (.int .i64 0)) (h5 : w.cell? ⟨b, 5, none⟩ = some (.int .i64 0)) :
    Calls Try.prog 27 #[.slice (some ⟨b, 0, none⟩) 3 c] w fun e w' => e = .returned (.bool true) ∧ w = w' := by
  go_enter Try.func27, Try.ntmps27
  go_wp2
  go_loopw [3] (fun i wr => (i = .int .i64 0 ∨ i = .int .i64 1 ∨ i = .int .i64 2 ∨ i = .int .i64 3) ∧ wr = w) (fun i _ => 3 - (intOf i).toNat)
  case atStart => exact ⟨.inl rfl, rfl⟩
  case round =>
    obtain ⟨hcase, rfl⟩ := hrel
    rcases hcase with rfl | rfl | rfl | rfl
    · go_wp2
      exact ⟨by simp, by simp [intOf]⟩
    · go_wp2
      exact ⟨by simp, by simp [intOf]⟩
    · go_wp2
      exact ⟨by simp, by simp [intOf]⟩
    · go_wp2
      go_ret
      exact ⟨rfl, rfl⟩
set_option maxHeartbeats 16000000 in
set_option maxRecDepth 20000 in
theorem beams_law {s ww t en : Int} {A : Option Addr} {n c : Nat} {S : Int} {l : List Pt} (hn : n ≤ 12) {n1 e1 n2 e2 n3 e3 eh dz bz wt : Int}
    (GM : ∀ A c wx, PtRow wx A n l → Calls Try.prog 21 #[.agg #[.int .i64 s, .int .i64 ww, .int .i64 t, .int .i64 en], buV A n c S] wx fun e w' => e = .returned (.tuple #[.agg #[.int .i64 n1, .int .i64 e1], .agg #[.int .i64 n2, .int .i64 e2], .agg #[.int .i64 n3, .int .i64 e3], .int .i64 eh]) ∧ Below wx.heap.size wx w')
    (CF : ∀ A c wx, PtRow wx A n l → Calls Try.prog 26 #[.agg #[.int .i64 s, .int .i64 ww, .int .i64 t, .int .i64 en], buV A n c S] wx fun e w' => e = .returned (.int .i64 dz) ∧ Below wx.heap.size wx w')
    (KB : ∀ wx, Calls Try.prog 24 #[.agg #[.int .i64 s, .int .i64 ww, .int .i64 t, .int .i64 en]] wx fun e w' => e = .returned (.int .i64 bz) ∧ Below wx.heap.size wx w')
    (RB : ∀ wx, Calls Try.prog 25 #[.agg #[.int .i64 s, .int .i64 ww, .int .i64 t, .int .i64 en]] wx fun e w' => e = .returned (.int .i64 bz) ∧ Below wx.heap.size wx w')
    (w : World) (CB : ∀ wx, Below w.heap.size w wx → Calls Try.prog 23 #[.agg #[.int .i64 s, .int .i64 ww, .int .i64 t, .int .i64 en], buV A n c S] wx fun e w' => e = .returned (.int .i64 dz) ∧ Below wx.heap.size wx w')
    (RG : dz = 0 → ∀ wx, Below w.heap.size w wx → Calls Try.prog 28 #[.agg #[.int .i64 s, .int .i64 ww, .int .i64 t, .int .i64 en], buV A n c S] wx fun e w' => e = .returned (.agg #[.int .i64 n1, .int .i64 e1, .int .i64 n2, .int .i64 e2, .int .i64 n3, .int .i64 e3]) ∧ Below wx.heap.size wx w')
    (RW : dz = 0 → ∀ wx, Below w.heap.size w wx → Calls Try.prog 29 #[buV A n c S] wx fun e w' => e = .returned (.int .i64 wt) ∧ Below wx.heap.size wx w')
    (HQ : dz = 0 → n1.natAbs ≤ 1000000000000 ∧ n2.natAbs ≤ 1000000000000 ∧ e1.natAbs ≤ 4000 ∧ e2.natAbs ≤ 4000 ∧ wt.natAbs ≤ 100000 ∧ n1 * e2 + n2 * e1 = wt * e1 * e2)
    (H : (dz ≠ 0 ∧ eh = dz ∧ n1 = 0 ∧ e1 = 0 ∧ n2 = 0 ∧ e2 = 0 ∧ n3 = 0 ∧ e3 = 0) ∨ (dz = 0 ∧ eh = 0))
    (h : PtRow w A n l) :
    Calls Try.prog 3 #[.agg #[.int .i64 s, .int .i64 ww, .int .i64 t, .int .i64 en], buV A n c S] w fun e w' => e = .returned (.bool true) ∧ Below w.heap.size w w' := by
  have HR := Lib.hid h
  have HGM := Lib.hid GM
  have HCF := Lib.hid CF
  have HKB := Lib.hid KB
  have HRB := Lib.hid RB
  have HCB := Lib.hid CB
  have HRG := Lib.hid RG
  have HRW := Lib.hid RW
  have HHQ := Lib.hid HQ
  have HH := Lib.hid H
  have AW := fun wx => Lib.hid (awake_any wx)
  have FE := Lib.hid (fun wx => few_any (A := A) (n := n) (c := c) (S := S) wx)
  have hd : decide (n ≤ 12) = true := decide_eq_true hn
  rw [hd] at FE
  clear h GM CF KB RB CB RG RW HQ H hd
  unfold buV at *
  go_enter Try.func3, Try.ntmps3
  go_upto_region 1 with fail
  obtain ⟨w0, hw0⟩ : ∃ w0, ((w.alloc (.cells #[.int .i64 s, .int .i64 ww, .int .i64 t, .int .i64 en] 23)).alloc (.cells #[.slice A n c, .int .i64 S] 26)) = w0 := ⟨_, rfl⟩
  have HB0 : Hid (Below w.heap.size w w0) := Lib.hid (by rw [← hw0]; exact (((Below.refl _ _).alloc (Nat.le_refl _) _).alloc (by simp; try omega) _))
  have HC := Lib.hid (fun wx (hb : Below w0.heap.size w0 wx) => (show wx.cell? ⟨w.heap.size, 0, none⟩ = some (.int .i64 s) ∧ wx.cell? ⟨w.heap.size, 1, none⟩ = some (.int .i64 ww) ∧ wx.cell? ⟨w.heap.size, 2, none⟩ = some (.int .i64 t) ∧ wx.cell? ⟨w.heap.size, 3, none⟩ = some (.int .i64 en) ∧ wx.cell? ⟨w.heap.size + 1, 0, none⟩ = some (.slice A n c) ∧ wx.cell? ⟨w.heap.size + 1, 1, none⟩ = some (.int .i64 S) from by
    subst hw0
    obtain ⟨k, kf⟩ := bcell hb
    exact ⟨(k _ _ (by simp; try omega)).trans (by simp [go_sem]), (k _ _ (by simp; try omega)).trans (by simp [go_sem]), (k _ _ (by simp; try omega)).trans (by simp [go_sem]), (k _ _ (by simp; try omega)).trans (by simp [go_sem]), (k _ _ (by simp; try omega)).trans (by simp [go_sem]), (k _ _ (by simp; try omega)).trans (by simp [go_sem])⟩))
  rw [hw0]
  clear hw0
  have HZ0 := Lib.hid (Below.refl w0.heap.size w0)
  obtain ⟨c0, c1, c2, c3, c4, c5⟩ := HC.out w0 HZ0.out
  go_upto_region 3 with (go_at_call 19; (refine Calls.mono (AW _).out ?_); rintro e w1 ⟨rfl, hb1⟩; have H1 := Lib.hid hb1; clear hb1)
  obtain ⟨d0, d1, d2, d3, d4, d5⟩ := HC.out w1 H1.out
  go_upto_region 5 with (go_at_call 20; (refine Calls.mono (FE.out _) ?_); rintro e w2 ⟨rfl, hb2⟩; have H2 := Lib.hid (H1.out.trans (hb2.mono H1.out.size)); clear hb2)
  have HC2 := Lib.hid (fun wy (hy : Below w2.heap.size w2 wy) => HC.out wy (H2.out.trans (hy.mono H2.out.size)))
  have HW2 := Lib.hid (HB0.out.trans (H2.out.mono HB0.out.size))
  clear c0 c1 c2 c3 c4 c5 d0 d1 d2 d3 d4 d5
  refine wp_region_ptrs (t := 30) [17, 18, 19, 20, 16, 21, 22, 23, 24, 5, 6, 7, 95, 94, 93, 8] [⟨9, 12, n1, e1⟩, ⟨10, 13, n2, e2⟩, ⟨11, 14, n3, e3⟩] [rEq (.agg #[.int .i64 s, .int .i64 ww, .int .i64 t, .int .i64 en]), rEq (.agg #[.slice A n c, .int .i64 S]), (rBur 0 l n S), rEq (.tuple #[.agg #[.int .i64 n1, .int .i64 e1], .agg #[.int .i64 n2, .int .i64 e2], .agg #[.int .i64 n3, .int .i64 e3], .int .i64 eh]), rEq (.tuple #[.agg #[.int .i64 n1, .int .i64 e1], .agg #[.int .i64 n2, .int .i64 e2], .agg #[.int .i64 n3, .int .i64 e3], .int .i64 eh]), rEq (.agg #[.int .i64 n1, .int .i64 e1]), rEq (.agg #[.int .i64 n2, .int .i64 e2]), rEq (.agg #[.int .i64 n3, .int .i64 e3]), rEq (.int .i64 eh), (rAny), (rAny), (rAny), (rAny), (rAny), (rAny), rEq (.int .i64 eh)] [rEq (.agg #[.int .i64 s, .int .i64 ww, .int .i64 t, .int .i64 en]), rEq (.agg #[.slice A n c, .int .i64 S]), (rAny), rEq (.tuple #[.agg #[.int .i64 n1, .int .i64 e1], .agg #[.int .i64 n2, .int .i64 e2], .agg #[.int .i64 n3, .int .i64 e3], .int .i64 eh]), rEq (.tuple #[.agg #[.int .i64 n1, .int .i64 e1], .agg #[.int .i64 n2, .int .i64 e2], .agg #[.int .i64 n3, .int .i64 e3], .int .i64 eh]), rEq (.agg #[.int .i64 n1, .int .i64 e1]), rEq (.agg #[.int .i64 n2, .int .i64 e2]), rEq (.agg #[.int .i64 n3, .int .i64 e3]), rEq (.int .i64 eh), (rAny), (rAny), (rAny), (rAny), (rAny), (rAny), rEq (.int .i64 eh)] [9, 10, 11, 12, 13, 14, 15] [0, 1, 2, 3, 4, 5, 9, 10, 11, 12, 13, 14] (by kernel_rfl) (by kernel_rfl) (by decide) rfl ?_ ?_ ?_ ?_ ?_ ?_ ?_ ?_ ?_ ?_ (by simp)
  · refine ⟨fun i h1 h2 => ?_, fun q hq => ?_, fun q hq q' hq' h => ?_, fun q hq o ho => ?_, fun q hq => ?_⟩
    · have h3 : i = 12 ∨ i = 13 ∨ i = 14 := by
        revert h2
        revert h1
        revert i
        decide +kernel
      rcases h3 with rfl | rfl | rfl
      · exact ⟨⟨9, 12, n1, e1⟩, by simp, rfl⟩
      · exact ⟨⟨10, 13, n2, e2⟩, by simp, rfl⟩
      · exact ⟨⟨11, 14, n3, e3⟩, by simp, rfl⟩
    · simp only [List.mem_cons, List.not_mem_nil, or_false] at hq
      rcases hq with rfl | rfl | rfl
      · exact ⟨by kernel_rfl, by kernel_rfl, (show 9 < _ by decide +kernel)⟩
      · exact ⟨by kernel_rfl, by kernel_rfl, (show 10 < _ by decide +kernel)⟩
      · exact ⟨by kernel_rfl, by kernel_rfl, (show 11 < _ by decide +kernel)⟩
    · simp only [List.mem_cons, List.not_mem_nil, or_false] at hq
      simp only [List.mem_cons, List.not_mem_nil, or_false] at hq'
      rcases hq with rfl | rfl | rfl <;> rcases hq' with rfl | rfl | rfl <;> first | rfl | (exfalso; revert h; simp)
    · simp only [List.mem_cons, List.not_mem_nil, or_false] at hq
      rcases hq with rfl | rfl | rfl
      · dsimp only at ho
        have ho2 : _ = o := Option.some.inj ho
        subst ho2
        show 9 ∈ depsOf _
        decide
      · dsimp only at ho
        have ho2 : _ = o := Option.some.inj ho
        subst ho2
        show 10 ∈ depsOf _
        decide
      · dsimp only at ho
        have ho2 : _ = o := Option.some.inj ho
        subst ho2
        show 11 ∈ depsOf _
        decide
    · simp only [List.mem_cons, List.not_mem_nil, or_false] at hq
      rcases hq with rfl | rfl | rfl <;> exact ⟨rfl, rfl, rfl⟩
  · intro i o ho he
    have he' : i = 9 ∨ i = 10 ∨ i = 11 ∨ i = 12 ∨ i = 13 ∨ i = 14 ∨ i = 15 := by simpa using he
    rcases he' with rfl | rfl | rfl | rfl | rfl | rfl | rfl
    · exact .inl ⟨⟨9, 12, n1, e1⟩, by simp, .inl rfl⟩
    · exact .inl ⟨⟨10, 13, n2, e2⟩, by simp, .inl rfl⟩
    · exact .inl ⟨⟨11, 14, n3, e3⟩, by simp, .inl rfl⟩
    · exact .inl ⟨⟨9, 12, n1, e1⟩, by simp, .inr rfl⟩
    · exact .inl ⟨⟨10, 13, n2, e2⟩, by simp, .inr rfl⟩
    · exact .inl ⟨⟨11, 14, n3, e3⟩, by simp, .inr rfl⟩
    · cases ho; exact .inr ⟨⟨9, 12, n1, e1⟩, by simp, (show 12 ∈ _ by decide)⟩
  · intro i hi he
    have he' : i = 0 ∨ i = 1 ∨ i = 2 ∨ i = 3 ∨ i = 4 ∨ i = 5 ∨ i = 9 ∨ i = 10 ∨ i = 11 ∨ i = 12 ∨ i = 13 ∨ i = 14 := by simpa using he
    rcases he' with rfl | rfl | rfl | rfl | rfl | rfl | rfl | rfl | rfl | rfl | rfl | rfl
    · exact .inr (fun q hq os hos => by
        simp only [List.mem_cons, List.not_mem_nil, or_false] at hq
        rcases hq with rfl | rfl | rfl <;> (dsimp only at hos; have ho2 : _ = os := Option.some.inj hos; subst ho2; decide))
    · exact .inr (fun q hq os hos => by
        simp only [List.mem_cons, List.not_mem_nil, or_false] at hq
        rcases hq with rfl | rfl | rfl <;> (dsimp only at hos; have ho2 : _ = os := Option.some.inj hos; subst ho2; decide))
    · exact .inr (fun q hq os hos => by
        simp only [List.mem_cons, List.not_mem_nil, or_false] at hq
        rcases hq with rfl | rfl | rfl <;> (dsimp only at hos; have ho2 : _ = os := Option.some.inj hos; subst ho2; decide))
    · exact .inr (fun q hq os hos => by
        simp only [List.mem_cons, List.not_mem_nil, or_false] at hq
        rcases hq with rfl | rfl | rfl <;> (dsimp only at hos; have ho2 : _ = os := Option.some.inj hos; subst ho2; decide))
    · exact .inr (fun q hq os hos => by
        simp only [List.mem_cons, List.not_mem_nil, or_false] at hq
        rcases hq with rfl | rfl | rfl <;> (dsimp only at hos; have ho2 : _ = os := Option.some.inj hos; subst ho2; decide))
    · exact .inr (fun q hq os hos => by
        simp only [List.mem_cons, List.not_mem_nil, or_false] at hq
        rcases hq with rfl | rfl | rfl <;> (dsimp only at hos; have ho2 : _ = os := Option.some.inj hos; subst ho2; decide))
    · exact .inl ⟨⟨9, 12, n1, e1⟩, by simp, .inl rfl⟩
    · exact .inl ⟨⟨10, 13, n2, e2⟩, by simp, .inl rfl⟩
    · exact .inl ⟨⟨11, 14, n3, e3⟩, by simp, .inl rfl⟩
    · exact .inl ⟨⟨9, 12, n1, e1⟩, by simp, .inr rfl⟩
    · exact .inl ⟨⟨10, 13, n2, e2⟩, by simp, .inr rfl⟩
    · exact .inl ⟨⟨11, 14, n3, e3⟩, by simp, .inr rfl⟩
  · intro j v w1' w2' h
    match j, h with
    | 0, h => exact h
    | 1, h => exact h
    | 2, h => exact trivial
    | 3, h => exact h
    | 4, h => exact h
    | 5, h => exact h
    | 6, h => exact h
    | 7, h => exact h
    | 8, h => exact h
    | 9, h => exact trivial
    | 10, h => exact trivial
    | 11, h => exact trivial
    | 12, h => exact trivial
    | 13, h => exact trivial
    | 14, h => exact trivial
    | 15, h => exact h
    | _ + 16, _ => exact trivial
  · intro j v w1' w2' h
    match j, h with
    | 0, h => exact h
    | 1, h => exact h
    | 2, h => exact trivial
    | 3, h => exact h
    | 4, h => exact h
    | 5, h => exact h
    | 6, h => exact h
    | 7, h => exact h
    | 8, h => exact h
    | 9, h => exact trivial
    | 10, h => exact trivial
    | 11, h => exact trivial
    | 12, h => exact trivial
    | 13, h => exact trivial
    | 14, h => exact trivial
    | 15, h => exact h
    | _ + 16, _ => exact trivial
  · refine ⟨?_, ?_, ?_, ?_, ?_, ?_, ?_, ?_, ?_, ?_, ?_, ?_, ?_, ?_, ?_, ?_, trivial⟩
    · intro _ ac wx hf hb hd -- 0
      have f2 : ac.tmps[2]?.getD undef = .pointer (some ⟨w.heap.size, 0, none⟩) := by rw [← Array.getD_eq_getD_getElem?]; exact hf.same 2 (by decide)
      obtain ⟨c0, c1, c2, c3, c4, c5⟩ := HC2.out wx hb
      exact rstep_eq (by simp [execOp, Act.eval, f2, c0, c1, c2, c3, go_sem]) rfl
    · intro _ ac wx hf hb hd -- 1
      have f3 : ac.tmps[3]?.getD undef = .pointer (some ⟨w.heap.size + 1, 0, none⟩) := by rw [← Array.getD_eq_getD_getElem?]; exact hf.same 3 (by decide)
      obtain ⟨c0, c1, c2, c3, c4, c5⟩ := HC2.out wx hb
      exact rstep_eq (by simp [execOp, Act.eval, f3, c4, c5, go_sem]) rfl
    · intro _ ac wx hf hb hd -- 2
      have d1 : ac.tmps[18]?.getD undef = .agg #[.slice A n c, .int .i64 S] := by rw [← Array.getD_eq_getD_getElem?]; exact hd 1 (by decide)
      exact rstep_copied (A := A) (c := c) (by omega) (HR.out.below (HW2.out.trans (hb.mono HW2.out.size))) (by simp [Act.eval, d1, buV, go_sem]) rfl
    · intro _ ac wx hf hb hd -- 3
      have d0 : ac.tmps[17]?.getD undef = .agg #[.int .i64 s, .int .i64 ww, .int .i64 t, .int .i64 en] := by rw [← Array.getD_eq_getD_getElem?]; exact hd 0 (by decide)
      obtain ⟨A2, cc2, d2, r2, -⟩ : ∃ A c, ac.tmps[19]?.getD undef = buV A n c S ∧ PtRow wx A n l ∧ _ := by rw [← Array.getD_eq_getD_getElem?]; exact hd 2 (by decide)
      refine rstep_call (f := 21) (args := #[.agg #[.int .i64 s, .int .i64 ww, .int .i64 t, .int .i64 en], buV A2 n cc2 S]) (by simp [Act.eval, d0, d2, go_sem]) ?_ rfl
      exact HGM.out _ _ _ r2
    · intro _ ac wx hf hb hd -- 4
      have d3 : ac.tmps[20]?.getD undef = .tuple #[.agg #[.int .i64 n1, .int .i64 e1], .agg #[.int .i64 n2, .int .i64 e2], .agg #[.int .i64 n3, .int .i64 e3], .int .i64 eh] := by rw [← Array.getD_eq_getD_getElem?]; exact hd 3 (by decide)
      exact rstep_eq (by simp [execOp, Act.eval, d3, go_sem]) rfl
    · intro _ ac wx hf hb hd -- 5
      have d4 : ac.tmps[16]?.getD undef = .tuple #[.agg #[.int .i64 n1, .int .i64 e1], .agg #[.int .i64 n2, .int .i64 e2], .agg #[.int .i64 n3, .int .i64 e3], .int .i64 eh] := by rw [← Array.getD_eq_getD_getElem?]; exact hd 4 (by decide)
      exact rstep_eq (by simp [execOp, Act.eval, d4, go_sem]) rfl
    · intro _ ac wx hf hb hd -- 6
      have d4 : ac.tmps[16]?.getD undef = .tuple #[.agg #[.int .i64 n1, .int .i64 e1], .agg #[.int .i64 n2, .int .i64 e2], .agg #[.int .i64 n3, .int .i64 e3], .int .i64 eh] := by rw [← Array.getD_eq_getD_getElem?]; exact hd 4 (by decide)
      exact rstep_eq (by simp [execOp, Act.eval, d4, go_sem]) rfl
    · intro _ ac wx hf hb hd -- 7
      have d4 : ac.tmps[16]?.getD undef = .tuple #[.agg #[.int .i64 n1, .int .i64 e1], .agg #[.int .i64 n2, .int .i64 e2], .agg #[.int .i64 n3, .int .i64 e3], .int .i64 eh] := by rw [← Array.getD_eq_getD_getElem?]; exact hd 4 (by decide)
      exact rstep_eq (by simp [execOp, Act.eval, d4, go_sem]) rfl
    · intro _ ac wx hf hb hd -- 8
      have d4 : ac.tmps[16]?.getD undef = .tuple #[.agg #[.int .i64 n1, .int .i64 e1], .agg #[.int .i64 n2, .int .i64 e2], .agg #[.int .i64 n3, .int .i64 e3], .int .i64 eh] := by rw [← Array.getD_eq_getD_getElem?]; exact hd 4 (by decide)
      exact rstep_eq (by simp [execOp, Act.eval, d4, go_sem]) rfl
    · intro h; cases h
    · intro h; cases h
    · intro h; cases h
    · intro h; cases h
    · intro h; cases h
    · intro h; cases h
    · intro h; cases h
  · refine ⟨?_, ?_, ?_, ?_, ?_, ?_, ?_, ?_, ?_, ?_, ?_, ?_, ?_, ?_, ?_, ?_, trivial⟩
    · intro h; cases h
    · intro h; cases h
    · intro h; cases h
    · intro h; cases h
    · intro h; cases h
    · intro h; cases h
    · intro _ ac wx hf hb hd -- 6
      have d4 : ac.tmps[16]?.getD undef = .tuple #[.agg #[.int .i64 n1, .int .i64 e1], .agg #[.int .i64 n2, .int .i64 e2], .agg #[.int .i64 n3, .int .i64 e3], .int .i64 eh] := by rw [← Array.getD_eq_getD_getElem?]; exact hd 4 (by decide)
      exact rstep_eq (by simp [execOp, Act.eval, d4, go_sem]) rfl
    · intro _ ac wx hf hb hd -- 7
      have d4 : ac.tmps[16]?.getD undef = .tuple #[.agg #[.int .i64 n1, .int .i64 e1], .agg #[.int .i64 n2, .int .i64 e2], .agg #[.int .i64 n3, .int .i64 e3], .int .i64 eh] := by rw [← Array.getD_eq_getD_getElem?]; exact hd 4 (by decide)
      exact rstep_eq (by simp [execOp, Act.eval, d4, go_sem]) rfl
    · intro _ ac wx hf hb hd -- 8
      have d4 : ac.tmps[16]?.getD undef = .tuple #[.agg #[.int .i64 n1, .int .i64 e1], .agg #[.int .i64 n2, .int .i64 e2], .agg #[.int .i64 n3, .int .i64 e3], .int .i64 eh] := by rw [← Array.getD_eq_getD_getElem?]; exact hd 4 (by decide)
      exact rstep_eq (by simp [execOp, Act.eval, d4, go_sem]) rfl
    · intro h; cases h
    · intro h; cases h
    · intro h; cases h
    · intro h; cases h
    · intro h; cases h
    · intro h; cases h
    · intro _ ac wx hf hb hd -- 15
      have d8 : ac.tmps[24]?.getD undef = .int .i64 eh := by rw [← Array.getD_eq_getD_getElem?]; exact hd 8 (by decide)
      exact rstep_eq (by simp [execOp, Act.eval, d8, go_sem]) rfl
  · intro q hq o ac wx ho
    simp only [List.mem_cons, List.not_mem_nil, or_false] at hq
    rcases hq with rfl | rfl | rfl <;> (cases ho; simp [execOp, go_sem])
  · intro q hq o ac wx bb ho hf hp z0 z1 y0 y1 hd
    simp only [List.mem_cons, List.not_mem_nil, or_false] at hq
    rcases hq with rfl | rfl | rfl
    · dsimp only at ho
      have ho2 : _ = o := Option.some.inj ho
      subst ho2
      clear ho
      have dp : ac.tmps[5]?.getD undef = .pointer (some ⟨bb, 0, none⟩) := by rw [← Array.getD_eq_getD_getElem?]; exact hp
      have dv : ac.tmps[21]?.getD undef = .agg #[.int .i64 n1, .int .i64 e1] := by rw [← Array.getD_eq_getD_getElem?]; exact hd 5 (by decide)
      simp [Oper.wp, Oper.upon, execOp, Act.eval, go_sem, dp, dv, z0, z1, y0, y1]
    · dsimp only at ho
      have ho2 : _ = o := Option.some.inj ho
      subst ho2
      clear ho
      have dp : ac.tmps[6]?.getD undef = .pointer (some ⟨bb, 0, none⟩) := by rw [← Array.getD_eq_getD_getElem?]; exact hp
      have dv : ac.tmps[22]?.getD undef = .agg #[.int .i64 n2, .int .i64 e2] := by rw [← Array.getD_eq_getD_getElem?]; exact hd 6 (by decide)
      simp [Oper.wp, Oper.upon, execOp, Act.eval, go_sem, dp, dv, z0, z1, y0, y1]
    · dsimp only at ho
      have ho2 : _ = o := Option.some.inj ho
      subst ho2
      clear ho
      have dp : ac.tmps[7]?.getD undef = .pointer (some ⟨bb, 0, none⟩) := by rw [← Array.getD_eq_getD_getElem?]; exact hp
      have dv : ac.tmps[23]?.getD undef = .agg #[.int .i64 n3, .int .i64 e3] := by rw [← Array.getD_eq_getD_getElem?]; exact hd 7 (by decide)
      simp [Oper.wp, Oper.upon, execOp, Act.eval, go_sem, dp, dv, z0, z1, y0, y1]
  rintro ⟨⟨ll⟩, df⟩ w3 hf hbw3 hall ⟨blkf, hq1, hq2⟩
  have hdf : df = [] := hf.defers
  subst hdf
  have hsz : ll.length = 96 := hf.size
  obtain ⟨x0, ll0, rfl, hsz0⟩ := cons_of hsz
  obtain ⟨x1, ll1, rfl, hsz1⟩ := cons_of hsz0
  obtain ⟨x2, ll2, rfl, hsz2⟩ := cons_of hsz1
  obtain ⟨x3, ll3, rfl, hsz3⟩ := cons_of hsz2
  obtain ⟨x4, ll4, rfl, hsz4⟩ := cons_of hsz3
  obtain ⟨x5, ll5, rfl, hsz5⟩ := cons_of hsz4
  obtain ⟨x6, ll6, rfl, hsz6⟩ := cons_of hsz5
  obtain ⟨x7, ll7, rfl, hsz7⟩ := cons_of hsz6
  obtain ⟨x8, ll8, rfl, hsz8⟩ := cons_of hsz7
  obtain ⟨x9, ll9, rfl, hsz9⟩ := cons_of hsz8
  obtain ⟨x10, ll10, rfl, hsz10⟩ := cons_of hsz9
  obtain ⟨x11, ll11, rfl, hsz11⟩ := cons_of hsz10
  obtain ⟨x12, ll12, rfl, hsz12⟩ := cons_of hsz11
  obtain ⟨x13, ll13, rfl, hsz13⟩ := cons_of hsz12
  obtain ⟨x14, ll14, rfl, hsz14⟩ := cons_of hsz13
  obtain ⟨x15, ll15, rfl, hsz15⟩ := cons_of hsz14
  obtain ⟨x16, ll16, rfl, hsz16⟩ := cons_of hsz15
  obtain ⟨x17, ll17, rfl, hsz17⟩ := cons_of hsz16
  obtain ⟨x18, ll18, rfl, hsz18⟩ := cons_of hsz17
  obtain ⟨x19, ll19, rfl, hsz19⟩ := cons_of hsz18
  obtain ⟨x20, ll20, rfl, hsz20⟩ := cons_of hsz19
  obtain ⟨x21, ll21, rfl, hsz21⟩ := cons_of hsz20
  obtain ⟨x22, ll22, rfl, hsz22⟩ := cons_of hsz21
  obtain ⟨x23, ll23, rfl, hsz23⟩ := cons_of hsz22
  obtain ⟨x24, ll24, rfl, hsz24⟩ := cons_of hsz23
  obtain ⟨x25, ll25, rfl, hsz25⟩ := cons_of hsz24
  obtain ⟨x26, ll26, rfl, hsz26⟩ := cons_of hsz25
  obtain ⟨x27, ll27, rfl, hsz27⟩ := cons_of hsz26
  obtain ⟨x28, ll28, rfl, hsz28⟩ := cons_of hsz27
  obtain ⟨x29, ll29, rfl, hsz29⟩ := cons_of hsz28
  obtain ⟨x30, ll30, rfl, hsz30⟩ := cons_of hsz29
  obtain ⟨x31, ll31, rfl, hsz31⟩ := cons_of hsz30
  obtain ⟨x32, ll32, rfl, hsz32⟩ := cons_of hsz31
  obtain ⟨x33, ll33, rfl, hsz33⟩ := cons_of hsz32
  obtain ⟨x34, ll34, rfl, hsz34⟩ := cons_of hsz33
  obtain ⟨x35, ll35, rfl, hsz35⟩ := cons_of hsz34
  obtain ⟨x36, ll36, rfl, hsz36⟩ := cons_of hsz35
  obtain ⟨x37, ll37, rfl, hsz37⟩ := cons_of hsz36
  obtain ⟨x38, ll38, rfl, hsz38⟩ := cons_of hsz37
  obtain ⟨x39, ll39, rfl, hsz39⟩ := cons_of hsz38
  obtain ⟨x40, ll40, rfl, hsz40⟩ := cons_of hsz39
  obtain ⟨x41, ll41, rfl, hsz41⟩ := cons_of hsz40
  obtain ⟨x42, ll42, rfl, hsz42⟩ := cons_of hsz41
  obtain ⟨x43, ll43, rfl, hsz43⟩ := cons_of hsz42
  obtain ⟨x44, ll44, rfl, hsz44⟩ := cons_of hsz43
  obtain ⟨x45, ll45, rfl, hsz45⟩ := cons_of hsz44
  obtain ⟨x46, ll46, rfl, hsz46⟩ := cons_of hsz45
  obtain ⟨x47, ll47, rfl, hsz47⟩ := cons_of hsz46
  obtain ⟨x48, ll48, rfl, hsz48⟩ := cons_of hsz47
  obtain ⟨x49, ll49, rfl, hsz49⟩ := cons_of hsz48
  obtain ⟨x50, ll50, rfl, hsz50⟩ := cons_of hsz49
  obtain ⟨x51, ll51, rfl, hsz51⟩ := cons_of hsz50
  obtain ⟨x52, ll52, rfl, hsz52⟩ := cons_of hsz51
  obtain ⟨x53, ll53, rfl, hsz53⟩ := cons_of hsz52
  obtain ⟨x54, ll54, rfl, hsz54⟩ := cons_of hsz53
  obtain ⟨x55, ll55, rfl, hsz55⟩ := cons_of hsz54
  obtain ⟨x56, ll56, rfl, hsz56⟩ := cons_of hsz55
  obtain ⟨x57, ll57, rfl, hsz57⟩ := cons_of hsz56
  obtain ⟨x58, ll58, rfl, hsz58⟩ := cons_of hsz57
  obtain ⟨x59, ll59, rfl, hsz59⟩ := cons_of hsz58
  obtain ⟨x60, ll60, rfl, hsz60⟩ := cons_of hsz59
  obtain ⟨x61, ll61, rfl, hsz61⟩ := cons_of hsz60
  obtain ⟨x62, ll62, rfl, hsz62⟩ := cons_of hsz61
  obtain ⟨x63, ll63, rfl, hsz63⟩ := cons_of hsz62
  obtain ⟨x64, ll64, rfl, hsz64⟩ := cons_of hsz63
  obtain ⟨x65, ll65, rfl, hsz65⟩ := cons_of hsz64
  obtain ⟨x66, ll66, rfl, hsz66⟩ := cons_of hsz65
  obtain ⟨x67, ll67, rfl, hsz67⟩ := cons_of hsz66
  obtain ⟨x68, ll68, rfl, hsz68⟩ := cons_of hsz67
  obtain ⟨x69, ll69, rfl, hsz69⟩ := cons_of hsz68
  obtain ⟨x70, ll70, rfl, hsz70⟩ := cons_of hsz69
  obtain ⟨x71, ll71, rfl, hsz71⟩ := cons_of hsz70
  obtain ⟨x72, ll72, rfl, hsz72⟩ := cons_of hsz71
  obtain ⟨x73, ll73, rfl, hsz73⟩ := cons_of hsz72
  obtain ⟨x74, ll74, rfl, hsz74⟩ := cons_of hsz73
  obtain ⟨x75, ll75, rfl, hsz75⟩ := cons_of hsz74
  obtain ⟨x76, ll76, rfl, hsz76⟩ := cons_of hsz75
  obtain ⟨x77, ll77, rfl, hsz77⟩ := cons_of hsz76
  obtain ⟨x78, ll78, rfl, hsz78⟩ := cons_of hsz77
  obtain ⟨x79, ll79, rfl, hsz79⟩ := cons_of hsz78
  obtain ⟨x80, ll80, rfl, hsz80⟩ := cons_of hsz79
  obtain ⟨x81, ll81, rfl, hsz81⟩ := cons_of hsz80
  obtain ⟨x82, ll82, rfl, hsz82⟩ := cons_of hsz81
  obtain ⟨x83, ll83, rfl, hsz83⟩ := cons_of hsz82
  obtain ⟨x84, ll84, rfl, hsz84⟩ := cons_of hsz83
  obtain ⟨x85, ll85, rfl, hsz85⟩ := cons_of hsz84
  obtain ⟨x86, ll86, rfl, hsz86⟩ := cons_of hsz85
  obtain ⟨x87, ll87, rfl, hsz87⟩ := cons_of hsz86
  obtain ⟨x88, ll88, rfl, hsz88⟩ := cons_of hsz87
  obtain ⟨x89, ll89, rfl, hsz89⟩ := cons_of hsz88
  obtain ⟨x90, ll90, rfl, hsz90⟩ := cons_of hsz89
  obtain ⟨x91, ll91, rfl, hsz91⟩ := cons_of hsz90
  obtain ⟨x92, ll92, rfl, hsz92⟩ := cons_of hsz91
  obtain ⟨x93, ll93, rfl, hsz93⟩ := cons_of hsz92
  obtain ⟨x94, ll94, rfl, hsz94⟩ := cons_of hsz93
  obtain ⟨x95, ll95, rfl, hsz95⟩ := cons_of hsz94
  obtain rfl := List.eq_nil_of_length_eq_zero hsz95
  obtain rfl : x2 = .pointer (some ⟨w.heap.size, 0, none⟩) := hf.same 2 (by decide)
  obtain rfl : x3 = .pointer (some ⟨w.heap.size + 1, 0, none⟩) := hf.same 3 (by decide)
  obtain rfl : x8 = .int .i64 eh := hall 15 8 rfl
  obtain rfl : x16 = .tuple #[.agg #[.int .i64 n1, .int .i64 e1], .agg #[.int .i64 n2, .int .i64 e2], .agg #[.int .i64 n3, .int .i64 e3], .int .i64 eh] := hall 4 16 rfl
  obtain rfl : x17 = .agg #[.int .i64 s, .int .i64 ww, .int .i64 t, .int .i64 en] := hall 0 17 rfl
  obtain rfl : x18 = .agg #[.slice A n c, .int .i64 S] := hall 1 18 rfl
  obtain rfl : x20 = .tuple #[.agg #[.int .i64 n1, .int .i64 e1], .agg #[.int .i64 n2, .int .i64 e2], .agg #[.int .i64 n3, .int .i64 e3], .int .i64 eh] := hall 3 20 rfl
  obtain rfl : x21 = .agg #[.int .i64 n1, .int .i64 e1] := hall 5 21 rfl
  obtain rfl : x22 = .agg #[.int .i64 n2, .int .i64 e2] := hall 6 22 rfl
  obtain rfl : x23 = .agg #[.int .i64 n3, .int .i64 e3] := hall 7 23 rfl
  obtain rfl : x24 = .int .i64 eh := hall 8 24 rfl
  obtain ⟨pA, hxA, plA, psA, paA, pcA⟩ : ∃ blk, x5 = .pointer (some ⟨blk, 0, none⟩) ∧ w2.heap.size ≤ blk ∧ blk < w3.heap.size ∧ w3.cell? ⟨blk, 0, none⟩ = some (.int .i64 n1) ∧ w3.cell? ⟨blk, 1, none⟩ = some (.int .i64 e1) := by
    obtain ⟨g0, g1, g2, -, -, g5, g6⟩ := hq1 ⟨9, 12, n1, e1⟩ (by simp) rfl
    exact ⟨blkf 9, g0, g1, g2, g5, g6⟩
  subst hxA
  obtain ⟨pB, hxB, plB, psB, paB, pcB⟩ : ∃ blk, x6 = .pointer (some ⟨blk, 0, none⟩) ∧ w2.heap.size ≤ blk ∧ blk < w3.heap.size ∧ w3.cell? ⟨blk, 0, none⟩ = some (.int .i64 n2) ∧ w3.cell? ⟨blk, 1, none⟩ = some (.int .i64 e2) := by
    obtain ⟨g0, g1, g2, -, -, g5, g6⟩ := hq1 ⟨10, 13, n2, e2⟩ (by simp) rfl
    exact ⟨blkf 10, g0, g1, g2, g5, g6⟩
  subst hxB
  obtain ⟨pC, hxC, plC, psC, paC, pcC⟩ : ∃ blk, x7 = .pointer (some ⟨blk, 0, none⟩) ∧ w2.heap.size ≤ blk ∧ blk < w3.heap.size ∧ w3.cell? ⟨blk, 0, none⟩ = some (.int .i64 n3) ∧ w3.cell? ⟨blk, 1, none⟩ = some (.int .i64 e3) := by
    obtain ⟨g0, g1, g2, -, -, g5, g6⟩ := hq1 ⟨11, 14, n3, e3⟩ (by simp) rfl
    exact ⟨blkf 11, g0, g1, g2, g5, g6⟩
  subst hxC
  clear hall hf hq1 hq2 blkf
  have H3 := Lib.hid (H2.out.trans (hbw3.mono H2.out.size))
  have H3W := Lib.hid (HB0.out.trans (H3.out.mono HB0.out.size))
  have HC3 := Lib.hid (fun wy (hy : Below w3.heap.size w3 wy) => HC.out wy (H3.out.trans (hy.mono H3.out.size)))
  clear hbw3 plA plB plC HC2
  obtain ⟨k0, k1, k2, k3, k4, k5⟩ := HC.out w3 H3.out
  go_upto_region 7 with (go_at_call 23; (refine Calls.mono (HCB.out _ H3W.out) ?_); rintro e w4 ⟨rfl, hb4⟩)
  clear k0 k1 k2 k3 k4 k5
  have H4 := Lib.hid (H3.out.trans (hb4.mono H3.out.size))
  have H4W := Lib.hid (HB0.out.trans (H4.out.mono HB0.out.size))
  have HC4 := Lib.hid (fun wy (hy : Below w4.heap.size w4 wy) => HC.out wy (H4.out.trans (hy.mono H4.out.size)))
  have q0 := ((bcell hb4).1 _ _ psA).trans paA
  have q1 := ((bcell hb4).1 _ _ psA).trans pcA
  have q2 := ((bcell hb4).1 _ _ psB).trans paB
  have q3 := ((bcell hb4).1 _ _ psB).trans pcB
  have q4 := ((bcell hb4).1 _ _ psC).trans paC
  have q5 := ((bcell hb4).1 _ _ psC).trans pcC
  clear hb4 paA pcA paB pcB paC pcC psA psB psC HC3
  have la : pA < w4.heap.size := World.block_lt_of_cell? w4 _ q0
  have lb : pB < w4.heap.size := World.block_lt_of_cell? w4 _ q2
  have lc : pC < w4.heap.size := World.block_lt_of_cell? w4 _ q4
  refine wp_region_rkg [28, 29, 30, 31, 32, 33, 34, 35, 36, 37, 38, 39, 40] [rEq (.agg #[.int .i64 s, .int .i64 ww, .int .i64 t, .int .i64 en]), rEq (.int .i64 bz), rEq (.agg #[.int .i64 s, .int .i64 ww, .int .i64 t, .int .i64 en]), rEq (.int .i64 bz), rEq (.bool false), rEq (.bool false), rEq (.agg #[.int .i64 s, .int .i64 ww, .int .i64 t, .int .i64 en]), rEq (.agg #[.slice A n c, .int .i64 S]), (rBur 0 l n S), rEq (.int .i64 dz), rEq (.int .i64 dz), rEq (.bool false), rEq (.bool false)] (by kernel_rfl) (by kernel_rfl) (by decide) rfl ⟨?_, ?_, ?_, ?_, ?_, ?_, ?_, ?_, ?_, ?_, ?_, ?_, ?_, trivial⟩ ?_
  · intro ac wx hf hb hd -- 0
    refine .inl ⟨wanted_free rfl, ?_⟩
    have f2 : ac.tmps[2]?.getD undef = .pointer (some ⟨w.heap.size, 0, none⟩) := by rw [← Array.getD_eq_getD_getElem?]; exact hf.same 2 (by decide)
    obtain ⟨c0, c1, c2, c3, c4, c5⟩ := HC4.out wx hb
    exact rstep_eq (by simp [execOp, Act.eval, f2, c0, c1, c2, c3, go_sem]) rfl
  · intro ac wx hf hb hd -- 1
    refine .inl ⟨wanted_free rfl, ?_⟩
    have d0 : ac.tmps[28]?.getD undef = .agg #[.int .i64 s, .int .i64 ww, .int .i64 t, .int .i64 en] := by rw [← Array.getD_eq_getD_getElem?]; exact hd 0 (by decide)
    refine rstep_call (f := 24) (args := #[.agg #[.int .i64 s, .int .i64 ww, .int .i64 t, .int .i64 en]]) (by simp [Act.eval, d0, go_sem]) ?_ rfl
    exact HKB.out wx
  · intro ac wx hf hb hd -- 2
    refine .inl ⟨wanted_free rfl, ?_⟩
    have f2 : ac.tmps[2]?.getD undef = .pointer (some ⟨w.heap.size, 0, none⟩) := by rw [← Array.getD_eq_getD_getElem?]; exact hf.same 2 (by decide)
    obtain ⟨c0, c1, c2, c3, c4, c5⟩ := HC4.out wx hb
    exact rstep_eq (by simp [execOp, Act.eval, f2, c0, c1, c2, c3, go_sem]) rfl
  · intro ac wx hf hb hd -- 3
    refine .inl ⟨wanted_free rfl, ?_⟩
    have d2 : ac.tmps[30]?.getD undef = .agg #[.int .i64 s, .int .i64 ww, .int .i64 t, .int .i64 en] := by rw [← Array.getD_eq_getD_getElem?]; exact hd 2 (by decide)
    refine rstep_call (f := 25) (args := #[.agg #[.int .i64 s, .int .i64 ww, .int .i64 t, .int .i64 en]]) (by simp [Act.eval, d2, go_sem]) ?_ rfl
    exact HRB.out wx
  · intro ac wx hf hb hd -- 4
    refine .inl ⟨wanted_free rfl, ?_⟩
    have d1 : ac.tmps[29]?.getD undef = .int .i64 bz := by rw [← Array.getD_eq_getD_getElem?]; exact hd 1 (by decide)
    have d3 : ac.tmps[31]?.getD undef = .int .i64 bz := by rw [← Array.getD_eq_getD_getElem?]; exact hd 3 (by decide)
    exact rstep_eq (by simp [execOp, Act.eval, d1, d3, go_sem]) rfl
  · intro ac wx hf hb hd -- 5
    refine .inl ⟨wanted_free rfl, ?_⟩
    have d4 : ac.tmps[32]?.getD undef = .bool false := by rw [← Array.getD_eq_getD_getElem?]; exact hd 4 (by decide)
    exact rstep_eq (by simp [execOp, Act.eval, d4, go_sem]) rfl
  · intro ac wx hf hb hd -- 6
    refine .inl ⟨wanted_by (j := 5) (d := 33) (b := false) rfl rfl (hd 5 (by decide)), ?_⟩
    have f2 : ac.tmps[2]?.getD undef = .pointer (some ⟨w.heap.size, 0, none⟩) := by rw [← Array.getD_eq_getD_getElem?]; exact hf.same 2 (by decide)
    obtain ⟨c0, c1, c2, c3, c4, c5⟩ := HC4.out wx hb
    exact rstep_eq (by simp [execOp, Act.eval, f2, c0, c1, c2, c3, go_sem]) rfl
  · intro ac wx hf hb hd -- 7
    refine .inl ⟨wanted_by (j := 5) (d := 33) (b := false) rfl rfl (hd 5 (by decide)), ?_⟩
    have f3 : ac.tmps[3]?.getD undef = .pointer (some ⟨w.heap.size + 1, 0, none⟩) := by rw [← Array.getD_eq_getD_getElem?]; exact hf.same 3 (by decide)
    obtain ⟨c0, c1, c2, c3, c4, c5⟩ := HC4.out wx hb
    exact rstep_eq (by simp [execOp, Act.eval, f3, c4, c5, go_sem]) rfl
  · intro ac wx hf hb hd -- 8
    refine .inl ⟨wanted_by (j := 5) (d := 33) (b := false) rfl rfl (hd 5 (by decide)), ?_⟩
    have d7 : ac.tmps[35]?.getD undef = .agg #[.slice A n c, .int .i64 S] := by rw [← Array.getD_eq_getD_getElem?]; exact hd 7 (by decide)
    exact rstep_copied (A := A) (c := c) (by omega) (HR.out.below (H4W.out.trans (hb.mono H4W.out.size))) (by simp [Act.eval, d7, buV, go_sem]) rfl
  · intro ac wx hf hb hd -- 9
    refine .inl ⟨wanted_by (j := 5) (d := 33) (b := false) rfl rfl (hd 5 (by decide)), ?_⟩
    have d6 : ac.tmps[34]?.getD undef = .agg #[.int .i64 s, .int .i64 ww, .int .i64 t, .int .i64 en] := by rw [← Array.getD_eq_getD_getElem?]; exact hd 6 (by decide)
    obtain ⟨A8, cc8, d8, r8, -⟩ : ∃ A c, ac.tmps[36]?.getD undef = buV A n c S ∧ PtRow wx A n l ∧ _ := by rw [← Array.getD_eq_getD_getElem?]; exact hd 8 (by decide)
    refine rstep_call (f := 26) (args := #[.agg #[.int .i64 s, .int .i64 ww, .int .i64 t, .int .i64 en], buV A8 n cc8 S]) (by simp [Act.eval, d6, d8, go_sem]) ?_ rfl
    exact HCF.out _ _ _ r8
  · intro ac wx hf hb hd -- 10
    refine .inl ⟨wanted_by (j := 5) (d := 33) (b := false) rfl rfl (hd 5 (by decide)), ?_⟩
    have f9 : ac.tmps[9]?.getD undef = .int .i64 dz := by rw [← Array.getD_eq_getD_getElem?]; exact hf.same 9 (by decide)
    exact rstep_eq (by simp [execOp, Act.eval, f9, go_sem]) rfl
  · intro ac wx hf hb hd -- 11
    refine .inl ⟨wanted_by (j := 5) (d := 33) (b := false) rfl rfl (hd 5 (by decide)), ?_⟩
    have d9 : ac.tmps[37]?.getD undef = .int .i64 dz := by rw [← Array.getD_eq_getD_getElem?]; exact hd 9 (by decide)
    have d10 : ac.tmps[38]?.getD undef = .int .i64 dz := by rw [← Array.getD_eq_getD_getElem?]; exact hd 10 (by decide)
    exact rstep_eq (by simp [execOp, Act.eval, d9, d10, go_sem]) rfl
  · intro ac wx hf hb hd -- 12
    refine .inl ⟨wanted_free rfl, ?_⟩
    have d5 : ac.tmps[33]?.getD undef = .bool false := by rw [← Array.getD_eq_getD_getElem?]; exact hd 5 (by decide)
    have d11 : ac.tmps[39]?.getD undef = .bool false := by rw [← Array.getD_eq_getD_getElem?]; exact hd 11 (by decide)
    exact rstep_eq (by simp [execOp, Act.eval, d5, d11, go_sem]) rfl
  rintro ⟨⟨ll⟩, df⟩ w6 hf hb6 hall
  have hdf : df = [] := hf.defers
  subst hdf
  have hsz : ll.length = 96 := hf.size
  obtain ⟨x0, ll0, rfl, hsz0⟩ := cons_of hsz
  obtain ⟨x1, ll1, rfl, hsz1⟩ := cons_of hsz0
  obtain ⟨x2, ll2, rfl, hsz2⟩ := cons_of hsz1
  obtain ⟨x3, ll3, rfl, hsz3⟩ := cons_of hsz2
  obtain ⟨x4, ll4, rfl, hsz4⟩ := cons_of hsz3
  obtain ⟨x5, ll5, rfl, hsz5⟩ := cons_of hsz4
  obtain ⟨x6, ll6, rfl, hsz6⟩ := cons_of hsz5
  obtain ⟨x7, ll7, rfl, hsz7⟩ := cons_of hsz6
  obtain ⟨x8, ll8, rfl, hsz8⟩ := cons_of hsz7
  obtain ⟨x9, ll9, rfl, hsz9⟩ := cons_of hsz8
  obtain ⟨x10, ll10, rfl, hsz10⟩ := cons_of hsz9
  obtain ⟨x11, ll11, rfl, hsz11⟩ := cons_of hsz10
  obtain ⟨x12, ll12, rfl, hsz12⟩ := cons_of hsz11
  obtain ⟨x13, ll13, rfl, hsz13⟩ := cons_of hsz12
  obtain ⟨x14, ll14, rfl, hsz14⟩ := cons_of hsz13
  obtain ⟨x15, ll15, rfl, hsz15⟩ := cons_of hsz14
  obtain ⟨x16, ll16, rfl, hsz16⟩ := cons_of hsz15
  obtain ⟨x17, ll17, rfl, hsz17⟩ := cons_of hsz16
  obtain ⟨x18, ll18, rfl, hsz18⟩ := cons_of hsz17
  obtain ⟨x19, ll19, rfl, hsz19⟩ := cons_of hsz18
  obtain ⟨x20, ll20, rfl, hsz20⟩ := cons_of hsz19
  obtain ⟨x21, ll21, rfl, hsz21⟩ := cons_of hsz20
  obtain ⟨x22, ll22, rfl, hsz22⟩ := cons_of hsz21
  obtain ⟨x23, ll23, rfl, hsz23⟩ := cons_of hsz22
  obtain ⟨x24, ll24, rfl, hsz24⟩ := cons_of hsz23
  obtain ⟨x25, ll25, rfl, hsz25⟩ := cons_of hsz24
  obtain ⟨x26, ll26, rfl, hsz26⟩ := cons_of hsz25
  obtain ⟨x27, ll27, rfl, hsz27⟩ := cons_of hsz26
  obtain ⟨x28, ll28, rfl, hsz28⟩ := cons_of hsz27
  obtain ⟨x29, ll29, rfl, hsz29⟩ := cons_of hsz28
  obtain ⟨x30, ll30, rfl, hsz30⟩ := cons_of hsz29
  obtain ⟨x31, ll31, rfl, hsz31⟩ := cons_of hsz30
  obtain ⟨x32, ll32, rfl, hsz32⟩ := cons_of hsz31
  obtain ⟨x33, ll33, rfl, hsz33⟩ := cons_of hsz32
  obtain ⟨x34, ll34, rfl, hsz34⟩ := cons_of hsz33
  obtain ⟨x35, ll35, rfl, hsz35⟩ := cons_of hsz34
  obtain ⟨x36, ll36, rfl, hsz36⟩ := cons_of hsz35
  obtain ⟨x37, ll37, rfl, hsz37⟩ := cons_of hsz36
  obtain ⟨x38, ll38, rfl, hsz38⟩ := cons_of hsz37
  obtain ⟨x39, ll39, rfl, hsz39⟩ := cons_of hsz38
  obtain ⟨x40, ll40, rfl, hsz40⟩ := cons_of hsz39
  obtain ⟨x41, ll41, rfl, hsz41⟩ := cons_of hsz40
  obtain ⟨x42, ll42, rfl, hsz42⟩ := cons_of hsz41
  obtain ⟨x43, ll43, rfl, hsz43⟩ := cons_of hsz42
  obtain ⟨x44, ll44, rfl, hsz44⟩ := cons_of hsz43
  obtain ⟨x45, ll45, rfl, hsz45⟩ := cons_of hsz44
  obtain ⟨x46, ll46, rfl, hsz46⟩ := cons_of hsz45
  obtain ⟨x47, ll47, rfl, hsz47⟩ := cons_of hsz46
  obtain ⟨x48, ll48, rfl, hsz48⟩ := cons_of hsz47
  obtain ⟨x49, ll49, rfl, hsz49⟩ := cons_of hsz48
  obtain ⟨x50, ll50, rfl, hsz50⟩ := cons_of hsz49
  obtain ⟨x51, ll51, rfl, hsz51⟩ := cons_of hsz50
  obtain ⟨x52, ll52, rfl, hsz52⟩ := cons_of hsz51
  obtain ⟨x53, ll53, rfl, hsz53⟩ := cons_of hsz52
  obtain ⟨x54, ll54, rfl, hsz54⟩ := cons_of hsz53
  obtain ⟨x55, ll55, rfl, hsz55⟩ := cons_of hsz54
  obtain ⟨x56, ll56, rfl, hsz56⟩ := cons_of hsz55
  obtain ⟨x57, ll57, rfl, hsz57⟩ := cons_of hsz56
  obtain ⟨x58, ll58, rfl, hsz58⟩ := cons_of hsz57
  obtain ⟨x59, ll59, rfl, hsz59⟩ := cons_of hsz58
  obtain ⟨x60, ll60, rfl, hsz60⟩ := cons_of hsz59
  obtain ⟨x61, ll61, rfl, hsz61⟩ := cons_of hsz60
  obtain ⟨x62, ll62, rfl, hsz62⟩ := cons_of hsz61
  obtain ⟨x63, ll63, rfl, hsz63⟩ := cons_of hsz62
  obtain ⟨x64, ll64, rfl, hsz64⟩ := cons_of hsz63
  obtain ⟨x65, ll65, rfl, hsz65⟩ := cons_of hsz64
  obtain ⟨x66, ll66, rfl, hsz66⟩ := cons_of hsz65
  obtain ⟨x67, ll67, rfl, hsz67⟩ := cons_of hsz66
  obtain ⟨x68, ll68, rfl, hsz68⟩ := cons_of hsz67
  obtain ⟨x69, ll69, rfl, hsz69⟩ := cons_of hsz68
  obtain ⟨x70, ll70, rfl, hsz70⟩ := cons_of hsz69
  obtain ⟨x71, ll71, rfl, hsz71⟩ := cons_of hsz70
  obtain ⟨x72, ll72, rfl, hsz72⟩ := cons_of hsz71
  obtain ⟨x73, ll73, rfl, hsz73⟩ := cons_of hsz72
  obtain ⟨x74, ll74, rfl, hsz74⟩ := cons_of hsz73
  obtain ⟨x75, ll75, rfl, hsz75⟩ := cons_of hsz74
  obtain ⟨x76, ll76, rfl, hsz76⟩ := cons_of hsz75
  obtain ⟨x77, ll77, rfl, hsz77⟩ := cons_of hsz76
  obtain ⟨x78, ll78, rfl, hsz78⟩ := cons_of hsz77
  obtain ⟨x79, ll79, rfl, hsz79⟩ := cons_of hsz78
  obtain ⟨x80, ll80, rfl, hsz80⟩ := cons_of hsz79
  obtain ⟨x81, ll81, rfl, hsz81⟩ := cons_of hsz80
  obtain ⟨x82, ll82, rfl, hsz82⟩ := cons_of hsz81
  obtain ⟨x83, ll83, rfl, hsz83⟩ := cons_of hsz82
  obtain ⟨x84, ll84, rfl, hsz84⟩ := cons_of hsz83
  obtain ⟨x85, ll85, rfl, hsz85⟩ := cons_of hsz84
  obtain ⟨x86, ll86, rfl, hsz86⟩ := cons_of hsz85
  obtain ⟨x87, ll87, rfl, hsz87⟩ := cons_of hsz86
  obtain ⟨x88, ll88, rfl, hsz88⟩ := cons_of hsz87
  obtain ⟨x89, ll89, rfl, hsz89⟩ := cons_of hsz88
  obtain ⟨x90, ll90, rfl, hsz90⟩ := cons_of hsz89
  obtain ⟨x91, ll91, rfl, hsz91⟩ := cons_of hsz90
  obtain ⟨x92, ll92, rfl, hsz92⟩ := cons_of hsz91
  obtain ⟨x93, ll93, rfl, hsz93⟩ := cons_of hsz92
  obtain ⟨x94, ll94, rfl, hsz94⟩ := cons_of hsz93
  obtain ⟨x95, ll95, rfl, hsz95⟩ := cons_of hsz94
  obtain rfl := List.eq_nil_of_length_eq_zero hsz95
  obtain rfl : x2 = .pointer (some ⟨w.heap.size, 0, none⟩) := hf.same 2 (by decide)
  obtain rfl : x3 = .pointer (some ⟨w.heap.size + 1, 0, none⟩) := hf.same 3 (by decide)
  obtain rfl : x5 = .pointer (some ⟨pA, 0, none⟩) := hf.same 5 (by decide)
  obtain rfl : x6 = .pointer (some ⟨pB, 0, none⟩) := hf.same 6 (by decide)
  obtain rfl : x7 = .pointer (some ⟨pC, 0, none⟩) := hf.same 7 (by decide)
  obtain rfl : x8 = .int .i64 eh := hf.same 8 (by decide)
  obtain rfl : x9 = .int .i64 dz := hf.same 9 (by decide)
  obtain rfl : x28 = .agg #[.int .i64 s, .int .i64 ww, .int .i64 t, .int .i64 en] := hall 0 28 rfl
  obtain rfl : x29 = .int .i64 bz := hall 1 29 rfl
  obtain rfl : x30 = .agg #[.int .i64 s, .int .i64 ww, .int .i64 t, .int .i64 en] := hall 2 30 rfl
  obtain rfl : x31 = .int .i64 bz := hall 3 31 rfl
  obtain rfl : x32 = .bool false := hall 4 32 rfl
  obtain rfl : x33 = .bool false := hall 5 33 rfl
  obtain rfl : x34 = .agg #[.int .i64 s, .int .i64 ww, .int .i64 t, .int .i64 en] := hall 6 34 rfl
  obtain rfl : x35 = .agg #[.slice A n c, .int .i64 S] := hall 7 35 rfl
  obtain rfl : x37 = .int .i64 dz := hall 9 37 rfl
  obtain rfl : x38 = .int .i64 dz := hall 10 38 rfl
  obtain rfl : x39 = .bool false := hall 11 39 rfl
  obtain rfl : x40 = .bool false := hall 12 40 rfl
  clear hall hf
  have H6 := Lib.hid (H4.out.trans (hb6.mono H4.out.size))
  have H6W := Lib.hid (HB0.out.trans (H6.out.mono HB0.out.size))
  have r0 := ((bcell hb6).1 _ _ la).trans q0
  have r1 := ((bcell hb6).1 _ _ la).trans q1
  have r2 := ((bcell hb6).1 _ _ lb).trans q2
  have r3 := ((bcell hb6).1 _ _ lb).trans q3
  have r4 := ((bcell hb6).1 _ _ lc).trans q4
  have r5 := ((bcell hb6).1 _ _ lc).trans q5
  clear hb6 q0 q1 q2 q3 q4 q5 la lb lc HC4
  have l3 : pA < w6.heap.size := World.block_lt_of_cell? w6 _ r0
  have l4 : pB < w6.heap.size := World.block_lt_of_cell? w6 _ r2
  have l5 : pC < w6.heap.size := World.block_lt_of_cell? w6 _ r4
  obtain ⟨m0, m1, m2, m3, m4, m5⟩ := HC.out w6 H6.out
  rcases HH.out with ⟨hdz, rfl, rfl, rfl, rfl, rfl, rfl, rfl⟩ | ⟨rfl, rfl⟩
  · have hde : (eh == 0) = false := by simpa using hdz
    have NO := fun wx b (h0 : World.cell? wx ⟨b, 0, none⟩ = some (.int .i64 0)) (h1 : World.cell? wx ⟨b, 1, none⟩ = some (.int .i64 0)) (h2 : World.cell? wx ⟨b, 2, none⟩ = some (.int .i64 0)) (h3 : World.cell? wx ⟨b, 3, none⟩ = some (.int .i64 0)) (h4 : World.cell? wx ⟨b, 4, none⟩ = some (.int .i64 0)) (h5 : World.cell? wx ⟨b, 5, none⟩ = some (.int .i64 0)) => Lib.hid (none_three (c := 3) wx h0 h1 h2 h3 h4 h5)
    go_wp2_with (go_at_call 27; (refine Calls.mono (NO _ _ (by simp [go_sem]) (by simp [go_sem]) (by simp [go_sem]) (by simp [go_sem]) (by simp [go_sem]) (by simp [go_sem])).out ?_); rintro e w7 ⟨rfl, rfl⟩)
    go_ret
    exact ⟨rfl, HB0.out.trans ((H6.out.alloc H6.out.size _).mono HB0.out.size)⟩
  have RG2 := HRG.out rfl
  have HRG2 := Lib.hid RG2
  have RW2 := HRW.out rfl
  have HRW2 := Lib.hid RW2
  obtain ⟨B1, B2, B3, B4, B5, hEQ⟩ := HHQ.out rfl
  have E1 : Ev n1 n1 1000000000000 := .of B1
  have E2 : Ev n2 n2 1000000000000 := .of B2
  have E3 : Ev e1 e1 4000 := .of B3
  have E4 : Ev e2 e2 4000 := .of B4
  have E5 : Ev wt wt 100000 := .of B5
  have y1 : IntKind.i64.wrap (n1 * e2) = n1 * e2 := i64w (by (apply Ev.e; repeat' (first | with_reducible assumption | with_reducible apply Ev.wrap | with_reducible apply Ev.mul | with_reducible apply Ev.add | with_reducible apply Ev.sub | with_reducible apply Ev.neg | exact Ev.lit _ | (decide +kernel))))
  have y2 : IntKind.i64.wrap (n2 * e1) = n2 * e1 := i64w (by (apply Ev.e; repeat' (first | with_reducible assumption | with_reducible apply Ev.wrap | with_reducible apply Ev.mul | with_reducible apply Ev.add | with_reducible apply Ev.sub | with_reducible apply Ev.neg | exact Ev.lit _ | (decide +kernel))))
  have y3 : IntKind.i64.wrap (n1 * e2 + n2 * e1) = wt * e1 * e2 := by rw [hEQ]; exact i64w (by (apply Ev.e; repeat' (first | with_reducible assumption | with_reducible apply Ev.wrap | with_reducible apply Ev.mul | with_reducible apply Ev.add | with_reducible apply Ev.sub | with_reducible apply Ev.neg | exact Ev.lit _ | (decide +kernel))))
  have y4 : IntKind.i64.wrap (wt * e1) = wt * e1 := i64w (by (apply Ev.e; repeat' (first | with_reducible assumption | with_reducible apply Ev.wrap | with_reducible apply Ev.mul | with_reducible apply Ev.add | with_reducible apply Ev.sub | with_reducible apply Ev.neg | exact Ev.lit _ | (decide +kernel))))
  have y5 : IntKind.i64.wrap (wt * e1 * e2) = wt * e1 * e2 := i64w (by (apply Ev.e; repeat' (first | with_reducible assumption | with_reducible apply Ev.wrap | with_reducible apply Ev.mul | with_reducible apply Ev.add | with_reducible apply Ev.sub | with_reducible apply Ev.neg | exact Ev.lit _ | (decide +kernel))))
  clear E1 E2 E3 E4 E5 B1 B2 B3 B4 B5 hEQ HRG RG2 HRW RW2 HHQ HH HCB HCF HKB HRB HGM
  go_upto_region 12 with (go_at_call 28; (refine Calls.mono (HRG2.out _ H6W.out) ?_); rintro e w8 ⟨rfl, hb8⟩; have H8 := Lib.hid hb8; clear hb8)
  obtain ⟨w9, hw9⟩ : ∃ w9, w8.alloc (.cells #[.int .i64 n1, .int .i64 e1, .int .i64 n2, .int .i64 e2, .int .i64 n3, .int .i64 e3] 40) = w9 := ⟨_, rfl⟩
  have HZ : Hid (Below w6.heap.size w6 w9) := Lib.hid (by rw [← hw9]; exact H8.out.alloc H8.out.size _)
  have H9W := Lib.hid (H6W.out.trans (HZ.out.mono H6W.out.size))
  have u0 : w9.cell? ⟨w8.heap.size, 0, none⟩ = some (.int .i64 n1) := by rw [← hw9]; simp [go_sem]
  have u1 : w9.cell? ⟨w8.heap.size, 1, none⟩ = some (.int .i64 e1) := by rw [← hw9]; simp [go_sem]
  have u2 : w9.cell? ⟨w8.heap.size, 2, none⟩ = some (.int .i64 n2) := by rw [← hw9]; simp [go_sem]
  have u3 : w9.cell? ⟨w8.heap.size, 3, none⟩ = some (.int .i64 e2) := by rw [← hw9]; simp [go_sem]
  have u4 : w9.cell? ⟨w8.heap.size, 4, none⟩ = some (.int .i64 n3) := by rw [← hw9]; simp [go_sem]
  have u5 : w9.cell? ⟨w8.heap.size, 5, none⟩ = some (.int .i64 e3) := by rw [← hw9]; simp [go_sem]
  have v0 := ((bcell HZ.out).1 _ _ l3).trans r0
  have v1 := ((bcell HZ.out).1 _ _ l3).trans r1
  have v2 := ((bcell HZ.out).1 _ _ l4).trans r2
  have v3 := ((bcell HZ.out).1 _ _ l4).trans r3
  have v4 := ((bcell HZ.out).1 _ _ l5).trans r4
  have v5 := ((bcell HZ.out).1 _ _ l5).trans r5
  rw [hw9]
  clear hw9 r0 r1 r2 r3 r4 r5 m0 m1 m2 m3 m4 m5
  go_upto_region 14 with fail
  have g3 : pA < w9.heap.size := World.block_lt_of_cell? w9 _ v0
  have g4 : pB < w9.heap.size := World.block_lt_of_cell? w9 _ v2
  have HC9 := Lib.hid (fun wx (hy : Below w9.heap.size w9 wx) => let h := HC.out wx (H6.out.trans ((HZ.out.trans (hy.mono HZ.out.size)).mono H6.out.size)); And.intro (h.1) (And.intro (h.2.1) (And.intro (h.2.2.1) (And.intro (h.2.2.2.1) (And.intro (h.2.2.2.2.1) (And.intro (h.2.2.2.2.2) (And.intro (((bcell hy).1 _ _ g3).trans v0) (And.intro (((bcell hy).1 _ _ g3).trans v1) (And.intro (((bcell hy).1 _ _ g4).trans v2) (((bcell hy).1 _ _ g4).trans v3))))))))))
  clear v0 v1 v2 v3 v4 v5 u0 u1 u2 u3 u4 u5
  refine wp_region_rk [76, 77, 78, 79, 80, 81, 82, 83, 84, 85, 86, 87, 88, 89, 90, 91, 92, 93, 94, 95, 4] [rEq (.pointer (some ⟨pA, 0, none⟩)), rEq (.int .i64 n1), rEq (.pointer (some ⟨pB, 1, none⟩)), rEq (.int .i64 e2), rEq (.int .i64 (n1 * e2)), rEq (.pointer (some ⟨pB, 0, none⟩)), rEq (.int .i64 n2), rEq (.pointer (some ⟨pA, 1, none⟩)), rEq (.int .i64 e1), rEq (.int .i64 (n2 * e1)), rEq (.int .i64 (wt * e1 * e2)), rEq (.agg #[.slice A n c, .int .i64 S]), rEq (.int .i64 wt), rEq (.pointer (some ⟨pA, 1, none⟩)), rEq (.int .i64 e1), rEq (.int .i64 (wt * e1)), rEq (.pointer (some ⟨pB, 1, none⟩)), rEq (.int .i64 e2), rEq (.int .i64 (wt * e1 * e2)), rEq (.bool true), rEq (.bool true)] (by kernel_rfl) (by kernel_rfl) (by decide) rfl ⟨?_, ?_, ?_, ?_, ?_, ?_, ?_, ?_, ?_, ?_, ?_, ?_, ?_, ?_, ?_, ?_, ?_, ?_, ?_, ?_, ?_, trivial⟩ ?_
  · intro ac wx hf hb hd -- 0
    have f5 : ac.tmps[5]?.getD undef = .pointer (some ⟨pA, 0, none⟩) := by rw [← Array.getD_eq_getD_getElem?]; exact hf.same 5 (by decide)
    exact rstep_eq (by simp [execOp, Act.eval, f5, go_sem]) rfl
  · intro ac wx hf hb hd -- 1
    have d0 : ac.tmps[76]?.getD undef = .pointer (some ⟨pA, 0, none⟩) := by rw [← Array.getD_eq_getD_getElem?]; exact hd 0 (by decide)
    obtain ⟨c0, c1, c2, c3, c4, c5, ya, yb, yc, yd⟩ := HC9.out wx hb
    exact rstep_eq (by simp [execOp, Act.eval, d0, ya, go_sem]) rfl
  · intro ac wx hf hb hd -- 2
    have f6 : ac.tmps[6]?.getD undef = .pointer (some ⟨pB, 0, none⟩) := by rw [← Array.getD_eq_getD_getElem?]; exact hf.same 6 (by decide)
    exact rstep_eq (by simp [execOp, Act.eval, f6, go_sem]) rfl
  · intro ac wx hf hb hd -- 3
    have d2 : ac.tmps[78]?.getD undef = .pointer (some ⟨pB, 1, none⟩) := by rw [← Array.getD_eq_getD_getElem?]; exact hd 2 (by decide)
    obtain ⟨c0, c1, c2, c3, c4, c5, ya, yb, yc, yd⟩ := HC9.out wx hb
    exact rstep_eq (by simp [execOp, Act.eval, d2, yd, go_sem]) rfl
  · intro ac wx hf hb hd -- 4
    have d1 : ac.tmps[77]?.getD undef = .int .i64 n1 := by rw [← Array.getD_eq_getD_getElem?]; exact hd 1 (by decide)
    have d3 : ac.tmps[79]?.getD undef = .int .i64 e2 := by rw [← Array.getD_eq_getD_getElem?]; exact hd 3 (by decide)
    exact rstep_eq (by simp [execOp, Act.eval, d1, d3, y1, go_sem]) rfl
  · intro ac wx hf hb hd -- 5
    have f6 : ac.tmps[6]?.getD undef = .pointer (some ⟨pB, 0, none⟩) := by rw [← Array.getD_eq_getD_getElem?]; exact hf.same 6 (by decide)
    exact rstep_eq (by simp [execOp, Act.eval, f6, go_sem]) rfl
  · intro ac wx hf hb hd -- 6
    have d5 : ac.tmps[81]?.getD undef = .pointer (some ⟨pB, 0, none⟩) := by rw [← Array.getD_eq_getD_getElem?]; exact hd 5 (by decide)
    obtain ⟨c0, c1, c2, c3, c4, c5, ya, yb, yc, yd⟩ := HC9.out wx hb
    exact rstep_eq (by simp [execOp, Act.eval, d5, yc, go_sem]) rfl
  · intro ac wx hf hb hd -- 7
    have f5 : ac.tmps[5]?.getD undef = .pointer (some ⟨pA, 0, none⟩) := by rw [← Array.getD_eq_getD_getElem?]; exact hf.same 5 (by decide)
    exact rstep_eq (by simp [execOp, Act.eval, f5, go_sem]) rfl
  · intro ac wx hf hb hd -- 8
    have d7 : ac.tmps[83]?.getD undef = .pointer (some ⟨pA, 1, none⟩) := by rw [← Array.getD_eq_getD_getElem?]; exact hd 7 (by decide)
    obtain ⟨c0, c1, c2, c3, c4, c5, ya, yb, yc, yd⟩ := HC9.out wx hb
    exact rstep_eq (by simp [execOp, Act.eval, d7, yb, go_sem]) rfl
  · intro ac wx hf hb hd -- 9
    have d6 : ac.tmps[82]?.getD undef = .int .i64 n2 := by rw [← Array.getD_eq_getD_getElem?]; exact hd 6 (by decide)
    have d8 : ac.tmps[84]?.getD undef = .int .i64 e1 := by rw [← Array.getD_eq_getD_getElem?]; exact hd 8 (by decide)
    exact rstep_eq (by simp [execOp, Act.eval, d6, d8, y2, go_sem]) rfl
  · intro ac wx hf hb hd -- 10
    have d4 : ac.tmps[80]?.getD undef = .int .i64 (n1 * e2) := by rw [← Array.getD_eq_getD_getElem?]; exact hd 4 (by decide)
    have d9 : ac.tmps[85]?.getD undef = .int .i64 (n2 * e1) := by rw [← Array.getD_eq_getD_getElem?]; exact hd 9 (by decide)
    exact rstep_eq (by simp [execOp, Act.eval, d4, d9, y3, go_sem]) rfl
  · intro ac wx hf hb hd -- 11
    have f3 : ac.tmps[3]?.getD undef = .pointer (some ⟨w.heap.size + 1, 0, none⟩) := by rw [← Array.getD_eq_getD_getElem?]; exact hf.same 3 (by decide)
    obtain ⟨c0, c1, c2, c3, c4, c5, ya, yb, yc, yd⟩ := HC9.out wx hb
    exact rstep_eq (by simp [execOp, Act.eval, f3, c4, c5, go_sem]) rfl
  · intro ac wx hf hb hd -- 12
    have d11 : ac.tmps[87]?.getD undef = .agg #[.slice A n c, .int .i64 S] := by rw [← Array.getD_eq_getD_getElem?]; exact hd 11 (by decide)
    refine rstep_call (f := 29) (args := #[.agg #[.slice A n c, .int .i64 S]]) (by simp [Act.eval, d11, go_sem]) ?_ rfl
    exact HRW2.out wx (H9W.out.trans (hb.mono H9W.out.size))
  · intro ac wx hf hb hd -- 13
    have f5 : ac.tmps[5]?.getD undef = .pointer (some ⟨pA, 0, none⟩) := by rw [← Array.getD_eq_getD_getElem?]; exact hf.same 5 (by decide)
    exact rstep_eq (by simp [execOp, Act.eval, f5, go_sem]) rfl
  · intro ac wx hf hb hd -- 14
    have d13 : ac.tmps[89]?.getD undef = .pointer (some ⟨pA, 1, none⟩) := by rw [← Array.getD_eq_getD_getElem?]; exact hd 13 (by decide)
    obtain ⟨c0, c1, c2, c3, c4, c5, ya, yb, yc, yd⟩ := HC9.out wx hb
    exact rstep_eq (by simp [execOp, Act.eval, d13, yb, go_sem]) rfl
  · intro ac wx hf hb hd -- 15
    have d12 : ac.tmps[88]?.getD undef = .int .i64 wt := by rw [← Array.getD_eq_getD_getElem?]; exact hd 12 (by decide)
    have d14 : ac.tmps[90]?.getD undef = .int .i64 e1 := by rw [← Array.getD_eq_getD_getElem?]; exact hd 14 (by decide)
    exact rstep_eq (by simp [execOp, Act.eval, d12, d14, y4, go_sem]) rfl
  · intro ac wx hf hb hd -- 16
    have f6 : ac.tmps[6]?.getD undef = .pointer (some ⟨pB, 0, none⟩) := by rw [← Array.getD_eq_getD_getElem?]; exact hf.same 6 (by decide)
    exact rstep_eq (by simp [execOp, Act.eval, f6, go_sem]) rfl
  · intro ac wx hf hb hd -- 17
    have d16 : ac.tmps[92]?.getD undef = .pointer (some ⟨pB, 1, none⟩) := by rw [← Array.getD_eq_getD_getElem?]; exact hd 16 (by decide)
    obtain ⟨c0, c1, c2, c3, c4, c5, ya, yb, yc, yd⟩ := HC9.out wx hb
    exact rstep_eq (by simp [execOp, Act.eval, d16, yd, go_sem]) rfl
  · intro ac wx hf hb hd -- 18
    have d15 : ac.tmps[91]?.getD undef = .int .i64 (wt * e1) := by rw [← Array.getD_eq_getD_getElem?]; exact hd 15 (by decide)
    have d17 : ac.tmps[93]?.getD undef = .int .i64 e2 := by rw [← Array.getD_eq_getD_getElem?]; exact hd 17 (by decide)
    exact rstep_eq (by simp [execOp, Act.eval, d15, d17, y5, go_sem]) rfl
  · intro ac wx hf hb hd -- 19
    have d10 : ac.tmps[86]?.getD undef = .int .i64 (wt * e1 * e2) := by rw [← Array.getD_eq_getD_getElem?]; exact hd 10 (by decide)
    have d18 : ac.tmps[94]?.getD undef = .int .i64 (wt * e1 * e2) := by rw [← Array.getD_eq_getD_getElem?]; exact hd 18 (by decide)
    exact rstep_eq (by simp [execOp, Act.eval, d10, d18, go_sem]) rfl
  · intro ac wx hf hb hd -- 20
    have d19 : ac.tmps[95]?.getD undef = .bool true := by rw [← Array.getD_eq_getD_getElem?]; exact hd 19 (by decide)
    exact rstep_eq (by simp [execOp, Act.eval, d19, go_sem]) rfl
  rintro ⟨⟨ll⟩, df⟩ wx hf hb hall
  have hdf : df = [] := hf.defers
  subst hdf
  have hsz : ll.length = 96 := hf.size
  obtain ⟨x0, ll0, rfl, hsz0⟩ := cons_of hsz
  obtain ⟨x1, ll1, rfl, hsz1⟩ := cons_of hsz0
  obtain ⟨x2, ll2, rfl, hsz2⟩ := cons_of hsz1
  obtain ⟨x3, ll3, rfl, hsz3⟩ := cons_of hsz2
  obtain ⟨x4, ll4, rfl, hsz4⟩ := cons_of hsz3
  obtain ⟨x5, ll5, rfl, hsz5⟩ := cons_of hsz4
  obtain ⟨x6, ll6, rfl, hsz6⟩ := cons_of hsz5
  obtain ⟨x7, ll7, rfl, hsz7⟩ := cons_of hsz6
  obtain ⟨x8, ll8, rfl, hsz8⟩ := cons_of hsz7
  obtain ⟨x9, ll9, rfl, hsz9⟩ := cons_of hsz8
  obtain ⟨x10, ll10, rfl, hsz10⟩ := cons_of hsz9
  obtain ⟨x11, ll11, rfl, hsz11⟩ := cons_of hsz10
  obtain ⟨x12, ll12, rfl, hsz12⟩ := cons_of hsz11
  obtain ⟨x13, ll13, rfl, hsz13⟩ := cons_of hsz12
  obtain ⟨x14, ll14, rfl, hsz14⟩ := cons_of hsz13
  obtain ⟨x15, ll15, rfl, hsz15⟩ := cons_of hsz14
  obtain ⟨x16, ll16, rfl, hsz16⟩ := cons_of hsz15
  obtain ⟨x17, ll17, rfl, hsz17⟩ := cons_of hsz16
  obtain ⟨x18, ll18, rfl, hsz18⟩ := cons_of hsz17
  obtain ⟨x19, ll19, rfl, hsz19⟩ := cons_of hsz18
  obtain ⟨x20, ll20, rfl, hsz20⟩ := cons_of hsz19
  obtain ⟨x21, ll21, rfl, hsz21⟩ := cons_of hsz20
  obtain ⟨x22, ll22, rfl, hsz22⟩ := cons_of hsz21
  obtain ⟨x23, ll23, rfl, hsz23⟩ := cons_of hsz22
  obtain ⟨x24, ll24, rfl, hsz24⟩ := cons_of hsz23
  obtain ⟨x25, ll25, rfl, hsz25⟩ := cons_of hsz24
  obtain ⟨x26, ll26, rfl, hsz26⟩ := cons_of hsz25
  obtain ⟨x27, ll27, rfl, hsz27⟩ := cons_of hsz26
  obtain ⟨x28, ll28, rfl, hsz28⟩ := cons_of hsz27
  obtain ⟨x29, ll29, rfl, hsz29⟩ := cons_of hsz28
  obtain ⟨x30, ll30, rfl, hsz30⟩ := cons_of hsz29
  obtain ⟨x31, ll31, rfl, hsz31⟩ := cons_of hsz30
  obtain ⟨x32, ll32, rfl, hsz32⟩ := cons_of hsz31
  obtain ⟨x33, ll33, rfl, hsz33⟩ := cons_of hsz32
  obtain ⟨x34, ll34, rfl, hsz34⟩ := cons_of hsz33
  obtain ⟨x35, ll35, rfl, hsz35⟩ := cons_of hsz34
  obtain ⟨x36, ll36, rfl, hsz36⟩ := cons_of hsz35
  obtain ⟨x37, ll37, rfl, hsz37⟩ := cons_of hsz36
  obtain ⟨x38, ll38, rfl, hsz38⟩ := cons_of hsz37
  obtain ⟨x39, ll39, rfl, hsz39⟩ := cons_of hsz38
  obtain ⟨x40, ll40, rfl, hsz40⟩ := cons_of hsz39
  obtain ⟨x41, ll41, rfl, hsz41⟩ := cons_of hsz40
  obtain ⟨x42, ll42, rfl, hsz42⟩ := cons_of hsz41
  obtain ⟨x43, ll43, rfl, hsz43⟩ := cons_of hsz42
  obtain ⟨x44, ll44, rfl, hsz44⟩ := cons_of hsz43
  obtain ⟨x45, ll45, rfl, hsz45⟩ := cons_of hsz44
  obtain ⟨x46, ll46, rfl, hsz46⟩ := cons_of hsz45
  obtain ⟨x47, ll47, rfl, hsz47⟩ := cons_of hsz46
  obtain ⟨x48, ll48, rfl, hsz48⟩ := cons_of hsz47
  obtain ⟨x49, ll49, rfl, hsz49⟩ := cons_of hsz48
  obtain ⟨x50, ll50, rfl, hsz50⟩ := cons_of hsz49
  obtain ⟨x51, ll51, rfl, hsz51⟩ := cons_of hsz50
  obtain ⟨x52, ll52, rfl, hsz52⟩ := cons_of hsz51
  obtain ⟨x53, ll53, rfl, hsz53⟩ := cons_of hsz52
  obtain ⟨x54, ll54, rfl, hsz54⟩ := cons_of hsz53
  obtain ⟨x55, ll55, rfl, hsz55⟩ := cons_of hsz54
  obtain ⟨x56, ll56, rfl, hsz56⟩ := cons_of hsz55
  obtain ⟨x57, ll57, rfl, hsz57⟩ := cons_of hsz56
  obtain ⟨x58, ll58, rfl, hsz58⟩ := cons_of hsz57
  obtain ⟨x59, ll59, rfl, hsz59⟩ := cons_of hsz58
  obtain ⟨x60, ll60, rfl, hsz60⟩ := cons_of hsz59
  obtain ⟨x61, ll61, rfl, hsz61⟩ := cons_of hsz60
  obtain ⟨x62, ll62, rfl, hsz62⟩ := cons_of hsz61
  obtain ⟨x63, ll63, rfl, hsz63⟩ := cons_of hsz62
  obtain ⟨x64, ll64, rfl, hsz64⟩ := cons_of hsz63
  obtain ⟨x65, ll65, rfl, hsz65⟩ := cons_of hsz64
  obtain ⟨x66, ll66, rfl, hsz66⟩ := cons_of hsz65
  obtain ⟨x67, ll67, rfl, hsz67⟩ := cons_of hsz66
  obtain ⟨x68, ll68, rfl, hsz68⟩ := cons_of hsz67
  obtain ⟨x69, ll69, rfl, hsz69⟩ := cons_of hsz68
  obtain ⟨x70, ll70, rfl, hsz70⟩ := cons_of hsz69
  obtain ⟨x71, ll71, rfl, hsz71⟩ := cons_of hsz70
  obtain ⟨x72, ll72, rfl, hsz72⟩ := cons_of hsz71
  obtain ⟨x73, ll73, rfl, hsz73⟩ := cons_of hsz72
  obtain ⟨x74, ll74, rfl, hsz74⟩ := cons_of hsz73
  obtain ⟨x75, ll75, rfl, hsz75⟩ := cons_of hsz74
  obtain ⟨x76, ll76, rfl, hsz76⟩ := cons_of hsz75
  obtain ⟨x77, ll77, rfl, hsz77⟩ := cons_of hsz76
  obtain ⟨x78, ll78, rfl, hsz78⟩ := cons_of hsz77
  obtain ⟨x79, ll79, rfl, hsz79⟩ := cons_of hsz78
  obtain ⟨x80, ll80, rfl, hsz80⟩ := cons_of hsz79
  obtain ⟨x81, ll81, rfl, hsz81⟩ := cons_of hsz80
  obtain ⟨x82, ll82, rfl, hsz82⟩ := cons_of hsz81
  obtain ⟨x83, ll83, rfl, hsz83⟩ := cons_of hsz82
  obtain ⟨x84, ll84, rfl, hsz84⟩ := cons_of hsz83
  obtain ⟨x85, ll85, rfl, hsz85⟩ := cons_of hsz84
  obtain ⟨x86, ll86, rfl, hsz86⟩ := cons_of hsz85
  obtain ⟨x87, ll87, rfl, hsz87⟩ := cons_of hsz86
  obtain ⟨x88, ll88, rfl, hsz88⟩ := cons_of hsz87
  obtain ⟨x89, ll89, rfl, hsz89⟩ := cons_of hsz88
  obtain ⟨x90, ll90, rfl, hsz90⟩ := cons_of hsz89
  obtain ⟨x91, ll91, rfl, hsz91⟩ := cons_of hsz90
  obtain ⟨x92, ll92, rfl, hsz92⟩ := cons_of hsz91
  obtain ⟨x93, ll93, rfl, hsz93⟩ := cons_of hsz92
  obtain ⟨x94, ll94, rfl, hsz94⟩ := cons_of hsz93
  obtain ⟨x95, ll95, rfl, hsz95⟩ := cons_of hsz94
  obtain rfl := List.eq_nil_of_length_eq_zero hsz95
  obtain rfl : x2 = .pointer (some ⟨w.heap.size, 0, none⟩) := hf.same 2 (by decide)
  obtain rfl : x3 = .pointer (some ⟨w.heap.size + 1, 0, none⟩) := hf.same 3 (by decide)
  obtain rfl : x4 = .bool true := hall 20 4 rfl
  obtain rfl : x5 = .pointer (some ⟨pA, 0, none⟩) := hf.same 5 (by decide)
  obtain rfl : x6 = .pointer (some ⟨pB, 0, none⟩) := hf.same 6 (by decide)
  obtain rfl : x7 = .pointer (some ⟨pC, 0, none⟩) := hf.same 7 (by decide)
  obtain rfl : x76 = .pointer (some ⟨pA, 0, none⟩) := hall 0 76 rfl
  obtain rfl : x77 = .int .i64 n1 := hall 1 77 rfl
  obtain rfl : x78 = .pointer (some ⟨pB, 1, none⟩) := hall 2 78 rfl
  obtain rfl : x79 = .int .i64 e2 := hall 3 79 rfl
  obtain rfl : x80 = .int .i64 (n1 * e2) := hall 4 80 rfl
  obtain rfl : x81 = .pointer (some ⟨pB, 0, none⟩) := hall 5 81 rfl
  obtain rfl : x82 = .int .i64 n2 := hall 6 82 rfl
  obtain rfl : x83 = .pointer (some ⟨pA, 1, none⟩) := hall 7 83 rfl
  obtain rfl : x84 = .int .i64 e1 := hall 8 84 rfl
  obtain rfl : x85 = .int .i64 (n2 * e1) := hall 9 85 rfl
  obtain rfl : x86 = .int .i64 (wt * e1 * e2) := hall 10 86 rfl
  obtain rfl : x87 = .agg #[.slice A n c, .int .i64 S] := hall 11 87 rfl
  obtain rfl : x88 = .int .i64 wt := hall 12 88 rfl
  obtain rfl : x89 = .pointer (some ⟨pA, 1, none⟩) := hall 13 89 rfl
  obtain rfl : x90 = .int .i64 e1 := hall 14 90 rfl
  obtain rfl : x91 = .int .i64 (wt * e1) := hall 15 91 rfl
  obtain rfl : x92 = .pointer (some ⟨pB, 1, none⟩) := hall 16 92 rfl
  obtain rfl : x93 = .int .i64 e2 := hall 17 93 rfl
  obtain rfl : x94 = .int .i64 (wt * e1 * e2) := hall 18 94 rfl
  obtain rfl : x95 = .bool true := hall 19 95 rfl
  clear hall hf
  go_wp2
  go_ret
  exact ⟨rfl, H9W.out.trans (hb.mono H9W.out.size)⟩
end Go.Proofs.Ytageiimcmnebmaa
