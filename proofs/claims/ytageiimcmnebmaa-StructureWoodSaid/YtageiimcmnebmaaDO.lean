/- The law of wood. -/
import Derived.Test.YtageiimcmnebmaaCH
import Derived.Test.YtageiimcmnebmaaDN
namespace Go.Proofs.Ytageiimcmnebmaa
open Go.RowKit

set_option maxHeartbeats 16000000 in
set_option maxRecDepth 20000 in
theorem wood_law {s ww t en lo hi st ra x : Int} {A : Option Addr} {n c : Nat} {S : Int} {l : List Pt} (hn : n ≤ 12) {ln ld gn gd eh dz wz : Int} {wi : Bool}
    (SR : ∀ A c wx, PtRow wx A n l → Calls Try.prog 51 #[.agg #[.int .i64 s, .int .i64 ww, .int .i64 t, .int .i64 en], .agg #[.int .i64 lo, .int .i64 hi, .int .i64 st], buV A n c S, .int .i64 x] wx fun e w' => e = .returned (.tuple #[.agg #[.int .i64 ln, .int .i64 ld], .agg #[.int .i64 gn, .int .i64 gd], .int .i64 eh]) ∧ Below wx.heap.size wx w')
    (CW : ∀ wx, Calls Try.prog 52 #[.agg #[.int .i64 lo, .int .i64 hi, .int .i64 st]] wx fun e w' => e = .returned (.int .i64 wz) ∧ Below wx.heap.size wx w')
    (RW : ∀ wx, Calls Try.prog 53 #[.agg #[.int .i64 lo, .int .i64 hi, .int .i64 st]] wx fun e w' => e = .returned (.int .i64 wz) ∧ Below wx.heap.size wx w')
    (w : World) (CB : ∀ wx, Below w.heap.size w wx → Calls Try.prog 23 #[.agg #[.int .i64 s, .int .i64 ww, .int .i64 t, .int .i64 en], buV A n c S] wx fun e w' => e = .returned (.int .i64 dz) ∧ Below wx.heap.size wx w')
    (WI : ∀ wx, Calls Try.prog 32 #[.int .i64 x, .int .i64 0, .int .i64 s] wx fun e w' => e = .returned (.bool wi) ∧ wx = w')
    (RG : dz = 0 → wz = 0 → wi = true → ∀ wx, Below w.heap.size w wx → Calls Try.prog 54 #[.agg #[.int .i64 s, .int .i64 ww, .int .i64 t, .int .i64 en], .agg #[.int .i64 lo, .int .i64 hi, .int .i64 st], buV A n c S, .int .i64 x] wx fun e w' => e = .returned (.tuple #[.agg #[.int .i64 ln, .int .i64 ld], .agg #[.int .i64 gn, .int .i64 gd]]) ∧ Below wx.heap.size wx w')
    (H : (dz ≠ 0 ∧ eh = dz ∧ ln = 0 ∧ ld = 0 ∧ gn = 0 ∧ gd = 0) ∨ (dz = 0 ∧ wz ≠ 0 ∧ eh = wz ∧ ln = 0 ∧ ld = 0 ∧ gn = 0 ∧ gd = 0) ∨ (dz = 0 ∧ wz = 0 ∧ wi = false ∧ eh = 2 ∧ ln = 0 ∧ ld = 0 ∧ gn = 0 ∧ gd = 0) ∨ (dz = 0 ∧ wz = 0 ∧ wi = true ∧ eh = 0))
    (h : PtRow w A n l) :
    Calls Try.prog 9 #[.agg #[.int .i64 s, .int .i64 ww, .int .i64 t, .int .i64 en], .agg #[.int .i64 lo, .int .i64 hi, .int .i64 st, .slice A n c, .int .i64 S, .int .i64 ra], .int .i64 x] w fun e w' => e = .returned (.bool true) ∧ Below w.heap.size w w' := by
  have HR := Lib.hid h
  have HSR := Lib.hid SR
  have HCW := Lib.hid CW
  have HRW := Lib.hid RW
  have HCB := Lib.hid CB
  have HWI := Lib.hid WI
  have HRG := Lib.hid RG
  have HH := Lib.hid H
  have AW := fun wx => Lib.hid (awake_any wx)
  have FE := Lib.hid (fun wx => few_any (A := A) (n := n) (c := c) (S := S) wx)
  have hd : decide (n ≤ 12) = true := decide_eq_true hn
  rw [hd] at FE
  clear h SR CW RW CB WI RG H hd
  unfold buV at *
  go_enter Try.func9, Try.ntmps9
  go_upto_region 1 with fail
  obtain ⟨w0, hw0⟩ : ∃ w0, ((w.alloc (.cells #[.int .i64 s, .int .i64 ww, .int .i64 t, .int .i64 en] 23)).alloc (.cells #[.int .i64 lo, .int .i64 hi, .int .i64 st, .slice A n c, .int .i64 S, .int .i64 ra] 81)) = w0 := ⟨_, rfl⟩
  have HB0 : Hid (Below w.heap.size w w0) := Lib.hid (by rw [← hw0]; exact (((Below.refl _ _).alloc (Nat.le_refl _) _).alloc (by simp; try omega) _))
  have HC := Lib.hid (fun wx (hb : Below w0.heap.size w0 wx) => (show wx.cell? ⟨w.heap.size, 0, none⟩ = some (.int .i64 s) ∧ wx.cell? ⟨w.heap.size, 1, none⟩ = some (.int .i64 ww) ∧ wx.cell? ⟨w.heap.size, 2, none⟩ = some (.int .i64 t) ∧ wx.cell? ⟨w.heap.size, 3, none⟩ = some (.int .i64 en) ∧ wx.cell? ⟨w.heap.size + 1, 0, none⟩ = some (.int .i64 lo) ∧ wx.cell? ⟨w.heap.size + 1, 1, none⟩ = some (.int .i64 hi) ∧ wx.cell? ⟨w.heap.size + 1, 2, none⟩ = some (.int .i64 st) ∧ wx.cell? ⟨w.heap.size + 1, 3, none⟩ = some (.slice A n c) ∧ wx.cell? ⟨w.heap.size + 1, 4, none⟩ = some (.int .i64 S) ∧ wx.cell? ⟨w.heap.size + 1, 5, none⟩ = some (.int .i64 ra) from by
    subst hw0
    obtain ⟨k, kf⟩ := bcell hb
    exact ⟨(k _ _ (by simp; try omega)).trans (by simp [go_sem]), (k _ _ (by simp; try omega)).trans (by simp [go_sem]), (k _ _ (by simp; try omega)).trans (by simp [go_sem]), (k _ _ (by simp; try omega)).trans (by simp [go_sem]), (k _ _ (by simp; try omega)).trans (by simp [go_sem]), (k _ _ (by simp; try omega)).trans (by simp [go_sem]), (k _ _ (by simp; try omega)).trans (by simp [go_sem]), (k _ _ (by simp; try omega)).trans (by simp [go_sem]), (k _ _ (by simp; try omega)).trans (by simp [go_sem]), (k _ _ (by simp; try omega)).trans (by simp [go_sem])⟩))
  rw [hw0]
  clear hw0
  have HZ0 := Lib.hid (Below.refl w0.heap.size w0)
  obtain ⟨c0, c1, c2, c3, c4, c5, c6, c7, c8, c9⟩ := HC.out w0 HZ0.out
  go_upto_region 3 with (go_at_call 19; (refine Calls.mono (AW _).out ?_); rintro e w1 ⟨rfl, hb1⟩; have H1 := Lib.hid hb1; clear hb1)
  obtain ⟨d0, d1, d2, d3, d4, d5, d6, d7, d8, d9⟩ := HC.out w1 H1.out
  go_upto_region 5 with (go_at_call 20; (refine Calls.mono (FE.out _) ?_); rintro e w2 ⟨rfl, hb2⟩; have H2 := Lib.hid (H1.out.trans (hb2.mono H1.out.size)); clear hb2)
  have HC2 := Lib.hid (fun wy (hy : Below w2.heap.size w2 wy) => HC.out wy (H2.out.trans (hy.mono H2.out.size)))
  have HW2 := Lib.hid (HB0.out.trans (H2.out.mono HB0.out.size))
  clear c0 c1 c2 c3 c4 c5 c6 c7 c8 c9 d0 d1 d2 d3 d4 d5 d6 d7 d8 d9
  refine wp_region_ptrs (t := 30) [20, 21, 22, 23, 24, 25, 26, 27, 19, 28, 29, 30, 7, 8, 88, 87, 9] [⟨12, 14, ln, ld⟩, ⟨13, 15, gn, gd⟩] [rEq (.agg #[.int .i64 s, .int .i64 ww, .int .i64 t, .int .i64 en]), rEq (.pointer (some ⟨w.heap.size + 1, 0, none⟩)), rEq (.agg #[.int .i64 lo, .int .i64 hi, .int .i64 st]), rEq (.pointer (some ⟨w.heap.size + 1, 3, none⟩)), rEq (.agg #[.slice A n c, .int .i64 S]), (rBur 0 l n S), rEq (.int .i64 x), rEq (.tuple #[.agg #[.int .i64 ln, .int .i64 ld], .agg #[.int .i64 gn, .int .i64 gd], .int .i64 eh]), rEq (.tuple #[.agg #[.int .i64 ln, .int .i64 ld], .agg #[.int .i64 gn, .int .i64 gd], .int .i64 eh]), rEq (.agg #[.int .i64 ln, .int .i64 ld]), rEq (.agg #[.int .i64 gn, .int .i64 gd]), rEq (.int .i64 eh), (rAny), (rAny), (rAny), (rAny), rEq (.int .i64 eh)] [rEq (.agg #[.int .i64 s, .int .i64 ww, .int .i64 t, .int .i64 en]), rEq (.pointer (some ⟨w.heap.size + 1, 0, none⟩)), rEq (.agg #[.int .i64 lo, .int .i64 hi, .int .i64 st]), rEq (.pointer (some ⟨w.heap.size + 1, 3, none⟩)), rEq (.agg #[.slice A n c, .int .i64 S]), (rAny), rEq (.int .i64 x), rEq (.tuple #[.agg #[.int .i64 ln, .int .i64 ld], .agg #[.int .i64 gn, .int .i64 gd], .int .i64 eh]), rEq (.tuple #[.agg #[.int .i64 ln, .int .i64 ld], .agg #[.int .i64 gn, .int .i64 gd], .int .i64 eh]), rEq (.agg #[.int .i64 ln, .int .i64 ld]), rEq (.agg #[.int .i64 gn, .int .i64 gd]), rEq (.int .i64 eh), (rAny), (rAny), (rAny), (rAny), rEq (.int .i64 eh)] [12, 13, 14, 15, 16] [0, 1, 2, 3, 4, 5, 6, 7, 8, 9, 12, 13, 14, 15] (by kernel_rfl) (by kernel_rfl) (by decide) rfl ?_ ?_ ?_ ?_ ?_ ?_ ?_ ?_ ?_ ?_ (by simp)
  · refine ⟨fun i h1 h2 => ?_, fun q hq => ?_, fun q hq q' hq' h => ?_, fun q hq o ho => ?_, fun q hq => ?_⟩
    · have h3 : i = 14 ∨ i = 15 := by
        revert h2
        revert h1
        revert i
        decide +kernel
      rcases h3 with rfl | rfl
      · exact ⟨⟨12, 14, ln, ld⟩, by simp, rfl⟩
      · exact ⟨⟨13, 15, gn, gd⟩, by simp, rfl⟩
    · simp only [List.mem_cons, List.not_mem_nil, or_false] at hq
      rcases hq with rfl | rfl
      · exact ⟨by kernel_rfl, by kernel_rfl, (show 12 < _ by decide +kernel)⟩
      · exact ⟨by kernel_rfl, by kernel_rfl, (show 13 < _ by decide +kernel)⟩
    · simp only [List.mem_cons, List.not_mem_nil, or_false] at hq
      simp only [List.mem_cons, List.not_mem_nil, or_false] at hq'
      rcases hq with rfl | rfl <;> rcases hq' with rfl | rfl <;> first | rfl | (exfalso; revert h; simp)
    · simp only [List.mem_cons, List.not_mem_nil, or_false] at hq
      rcases hq with rfl | rfl
      · dsimp only at ho
        have ho2 : _ = o := Option.some.inj ho
        subst ho2
        show 12 ∈ depsOf _
        decide
      · dsimp only at ho
        have ho2 : _ = o := Option.some.inj ho
        subst ho2
        show 13 ∈ depsOf _
        decide
    · simp only [List.mem_cons, List.not_mem_nil, or_false] at hq
      rcases hq with rfl | rfl <;> exact ⟨rfl, rfl, rfl⟩
  · intro i o ho he
    have he' : i = 12 ∨ i = 13 ∨ i = 14 ∨ i = 15 ∨ i = 16 := by simpa using he
    rcases he' with rfl | rfl | rfl | rfl | rfl
    · exact .inl ⟨⟨12, 14, ln, ld⟩, by simp, .inl rfl⟩
    · exact .inl ⟨⟨13, 15, gn, gd⟩, by simp, .inl rfl⟩
    · exact .inl ⟨⟨12, 14, ln, ld⟩, by simp, .inr rfl⟩
    · exact .inl ⟨⟨13, 15, gn, gd⟩, by simp, .inr rfl⟩
    · cases ho; exact .inr ⟨⟨12, 14, ln, ld⟩, by simp, (show 14 ∈ _ by decide)⟩
  · intro i hi he
    have he' : i = 0 ∨ i = 1 ∨ i = 2 ∨ i = 3 ∨ i = 4 ∨ i = 5 ∨ i = 6 ∨ i = 7 ∨ i = 8 ∨ i = 9 ∨ i = 12 ∨ i = 13 ∨ i = 14 ∨ i = 15 := by simpa using he
    rcases he' with rfl | rfl | rfl | rfl | rfl | rfl | rfl | rfl | rfl | rfl | rfl | rfl | rfl | rfl
    · exact .inr (fun q hq os hos => by
        simp only [List.mem_cons, List.not_mem_nil, or_false] at hq
        rcases hq with rfl | rfl <;> (dsimp only at hos; have ho2 : _ = os := Option.some.inj hos; subst ho2; decide))
    · exact .inr (fun q hq os hos => by
        simp only [List.mem_cons, List.not_mem_nil, or_false] at hq
        rcases hq with rfl | rfl <;> (dsimp only at hos; have ho2 : _ = os := Option.some.inj hos; subst ho2; decide))
    · exact .inr (fun q hq os hos => by
        simp only [List.mem_cons, List.not_mem_nil, or_false] at hq
        rcases hq with rfl | rfl <;> (dsimp only at hos; have ho2 : _ = os := Option.some.inj hos; subst ho2; decide))
    · exact .inr (fun q hq os hos => by
        simp only [List.mem_cons, List.not_mem_nil, or_false] at hq
        rcases hq with rfl | rfl <;> (dsimp only at hos; have ho2 : _ = os := Option.some.inj hos; subst ho2; decide))
    · exact .inr (fun q hq os hos => by
        simp only [List.mem_cons, List.not_mem_nil, or_false] at hq
        rcases hq with rfl | rfl <;> (dsimp only at hos; have ho2 : _ = os := Option.some.inj hos; subst ho2; decide))
    · exact .inr (fun q hq os hos => by
        simp only [List.mem_cons, List.not_mem_nil, or_false] at hq
        rcases hq with rfl | rfl <;> (dsimp only at hos; have ho2 : _ = os := Option.some.inj hos; subst ho2; decide))
    · exact .inr (fun q hq os hos => by
        simp only [List.mem_cons, List.not_mem_nil, or_false] at hq
        rcases hq with rfl | rfl <;> (dsimp only at hos; have ho2 : _ = os := Option.some.inj hos; subst ho2; decide))
    · exact .inr (fun q hq os hos => by
        simp only [List.mem_cons, List.not_mem_nil, or_false] at hq
        rcases hq with rfl | rfl <;> (dsimp only at hos; have ho2 : _ = os := Option.some.inj hos; subst ho2; decide))
    · exact .inr (fun q hq os hos => by
        simp only [List.mem_cons, List.not_mem_nil, or_false] at hq
        rcases hq with rfl | rfl <;> (dsimp only at hos; have ho2 : _ = os := Option.some.inj hos; subst ho2; decide))
    · exact .inr (fun q hq os hos => by
        simp only [List.mem_cons, List.not_mem_nil, or_false] at hq
        rcases hq with rfl | rfl <;> (dsimp only at hos; have ho2 : _ = os := Option.some.inj hos; subst ho2; decide))
    · exact .inl ⟨⟨12, 14, ln, ld⟩, by simp, .inl rfl⟩
    · exact .inl ⟨⟨13, 15, gn, gd⟩, by simp, .inl rfl⟩
    · exact .inl ⟨⟨12, 14, ln, ld⟩, by simp, .inr rfl⟩
    · exact .inl ⟨⟨13, 15, gn, gd⟩, by simp, .inr rfl⟩
  · intro j v w1' w2' h
    match j, h with
    | 0, h => exact h
    | 1, h => exact h
    | 2, h => exact h
    | 3, h => exact h
    | 4, h => exact h
    | 5, h => exact trivial
    | 6, h => exact h
    | 7, h => exact h
    | 8, h => exact h
    | 9, h => exact h
    | 10, h => exact h
    | 11, h => exact h
    | 12, h => exact trivial
    | 13, h => exact trivial
    | 14, h => exact trivial
    | 15, h => exact trivial
    | 16, h => exact h
    | _ + 17, _ => exact trivial
  · intro j v w1' w2' h
    match j, h with
    | 0, h => exact h
    | 1, h => exact h
    | 2, h => exact h
    | 3, h => exact h
    | 4, h => exact h
    | 5, h => exact trivial
    | 6, h => exact h
    | 7, h => exact h
    | 8, h => exact h
    | 9, h => exact h
    | 10, h => exact h
    | 11, h => exact h
    | 12, h => exact trivial
    | 13, h => exact trivial
    | 14, h => exact trivial
    | 15, h => exact trivial
    | 16, h => exact h
    | _ + 17, _ => exact trivial
  · refine ⟨?_, ?_, ?_, ?_, ?_, ?_, ?_, ?_, ?_, ?_, ?_, ?_, ?_, ?_, ?_, ?_, ?_, trivial⟩
    · intro _ ac wx hf hb hd -- 0
      have f3 : ac.tmps[3]?.getD undef = .pointer (some ⟨w.heap.size, 0, none⟩) := by rw [← Array.getD_eq_getD_getElem?]; exact hf.same 3 (by decide)
      obtain ⟨c0, c1, c2, c3, c4, c5, c6, c7, c8, c9⟩ := HC2.out wx hb
      exact rstep_eq (by simp [execOp, Act.eval, f3, c0, c1, c2, c3, go_sem]) rfl
    · intro _ ac wx hf hb hd -- 1
      have f4 : ac.tmps[4]?.getD undef = .pointer (some ⟨w.heap.size + 1, 0, none⟩) := by rw [← Array.getD_eq_getD_getElem?]; exact hf.same 4 (by decide)
      exact rstep_eq (by simp [execOp, Act.eval, f4, go_sem]) rfl
    · intro _ ac wx hf hb hd -- 2
      have d1 : ac.tmps[21]?.getD undef = .pointer (some ⟨w.heap.size + 1, 0, none⟩) := by rw [← Array.getD_eq_getD_getElem?]; exact hd 1 (by decide)
      obtain ⟨c0, c1, c2, c3, c4, c5, c6, c7, c8, c9⟩ := HC2.out wx hb
      exact rstep_eq (by simp [execOp, Act.eval, d1, c4, c5, c6, go_sem]) rfl
    · intro _ ac wx hf hb hd -- 3
      have f4 : ac.tmps[4]?.getD undef = .pointer (some ⟨w.heap.size + 1, 0, none⟩) := by rw [← Array.getD_eq_getD_getElem?]; exact hf.same 4 (by decide)
      exact rstep_eq (by simp [execOp, Act.eval, f4, go_sem]) rfl
    · intro _ ac wx hf hb hd -- 4
      have d3 : ac.tmps[23]?.getD undef = .pointer (some ⟨w.heap.size + 1, 3, none⟩) := by rw [← Array.getD_eq_getD_getElem?]; exact hd 3 (by decide)
      obtain ⟨c0, c1, c2, c3, c4, c5, c6, c7, c8, c9⟩ := HC2.out wx hb
      exact rstep_eq (by simp [execOp, Act.eval, d3, c7, c8, go_sem]) rfl
    · intro _ ac wx hf hb hd -- 5
      have d4 : ac.tmps[24]?.getD undef = .agg #[.slice A n c, .int .i64 S] := by rw [← Array.getD_eq_getD_getElem?]; exact hd 4 (by decide)
      exact rstep_copied (A := A) (c := c) (by omega) (HR.out.below (HW2.out.trans (hb.mono HW2.out.size))) (by simp [Act.eval, d4, buV, go_sem]) rfl
    · intro _ ac wx hf hb hd -- 6
      have f2 : ac.tmps[2]?.getD undef = .int .i64 x := by rw [← Array.getD_eq_getD_getElem?]; exact hf.same 2 (by decide)
      exact rstep_eq (by simp [execOp, Act.eval, f2, go_sem]) rfl
    · intro _ ac wx hf hb hd -- 7
      have d0 : ac.tmps[20]?.getD undef = .agg #[.int .i64 s, .int .i64 ww, .int .i64 t, .int .i64 en] := by rw [← Array.getD_eq_getD_getElem?]; exact hd 0 (by decide)
      have d2 : ac.tmps[22]?.getD undef = .agg #[.int .i64 lo, .int .i64 hi, .int .i64 st] := by rw [← Array.getD_eq_getD_getElem?]; exact hd 2 (by decide)
      obtain ⟨A5, cc5, d5, r5, -⟩ : ∃ A c, ac.tmps[25]?.getD undef = buV A n c S ∧ PtRow wx A n l ∧ _ := by rw [← Array.getD_eq_getD_getElem?]; exact hd 5 (by decide)
      have d6 : ac.tmps[26]?.getD undef = .int .i64 x := by rw [← Array.getD_eq_getD_getElem?]; exact hd 6 (by decide)
      refine rstep_call (f := 51) (args := #[.agg #[.int .i64 s, .int .i64 ww, .int .i64 t, .int .i64 en], .agg #[.int .i64 lo, .int .i64 hi, .int .i64 st], buV A5 n cc5 S, .int .i64 x]) (by simp [Act.eval, d0, d2, d5, d6, go_sem]) ?_ rfl
      exact HSR.out _ _ _ r5
    · intro _ ac wx hf hb hd -- 8
      have d7 : ac.tmps[27]?.getD undef = .tuple #[.agg #[.int .i64 ln, .int .i64 ld], .agg #[.int .i64 gn, .int .i64 gd], .int .i64 eh] := by rw [← Array.getD_eq_getD_getElem?]; exact hd 7 (by decide)
      exact rstep_eq (by simp [execOp, Act.eval, d7, go_sem]) rfl
    · intro _ ac wx hf hb hd -- 9
      have d8 : ac.tmps[19]?.getD undef = .tuple #[.agg #[.int .i64 ln, .int .i64 ld], .agg #[.int .i64 gn, .int .i64 gd], .int .i64 eh] := by rw [← Array.getD_eq_getD_getElem?]; exact hd 8 (by decide)
      exact rstep_eq (by simp [execOp, Act.eval, d8, go_sem]) rfl
    · intro _ ac wx hf hb hd -- 10
      have d8 : ac.tmps[19]?.getD undef = .tuple #[.agg #[.int .i64 ln, .int .i64 ld], .agg #[.int .i64 gn, .int .i64 gd], .int .i64 eh] := by rw [← Array.getD_eq_getD_getElem?]; exact hd 8 (by decide)
      exact rstep_eq (by simp [execOp, Act.eval, d8, go_sem]) rfl
    · intro _ ac wx hf hb hd -- 11
      have d8 : ac.tmps[19]?.getD undef = .tuple #[.agg #[.int .i64 ln, .int .i64 ld], .agg #[.int .i64 gn, .int .i64 gd], .int .i64 eh] := by rw [← Array.getD_eq_getD_getElem?]; exact hd 8 (by decide)
      exact rstep_eq (by simp [execOp, Act.eval, d8, go_sem]) rfl
    · intro h; cases h
    · intro h; cases h
    · intro h; cases h
    · intro h; cases h
    · intro h; cases h
  · refine ⟨?_, ?_, ?_, ?_, ?_, ?_, ?_, ?_, ?_, ?_, ?_, ?_, ?_, ?_, ?_, ?_, ?_, trivial⟩
    · intro h; cases h
    · intro h; cases h
    · intro h; cases h
    · intro h; cases h
    · intro h; cases h
    · intro h; cases h
    · intro h; cases h
    · intro h; cases h
    · intro h; cases h
    · intro h; cases h
    · intro _ ac wx hf hb hd -- 10
      have d8 : ac.tmps[19]?.getD undef = .tuple #[.agg #[.int .i64 ln, .int .i64 ld], .agg #[.int .i64 gn, .int .i64 gd], .int .i64 eh] := by rw [← Array.getD_eq_getD_getElem?]; exact hd 8 (by decide)
      exact rstep_eq (by simp [execOp, Act.eval, d8, go_sem]) rfl
    · intro _ ac wx hf hb hd -- 11
      have d8 : ac.tmps[19]?.getD undef = .tuple #[.agg #[.int .i64 ln, .int .i64 ld], .agg #[.int .i64 gn, .int .i64 gd], .int .i64 eh] := by rw [← Array.getD_eq_getD_getElem?]; exact hd 8 (by decide)
      exact rstep_eq (by simp [execOp, Act.eval, d8, go_sem]) rfl
    · intro h; cases h
    · intro h; cases h
    · intro h; cases h
    · intro h; cases h
    · intro _ ac wx hf hb hd -- 16
      have d11 : ac.tmps[30]?.getD undef = .int .i64 eh := by rw [← Array.getD_eq_getD_getElem?]; exact hd 11 (by decide)
      exact rstep_eq (by simp [execOp, Act.eval, d11, go_sem]) rfl
  · intro q hq o ac wx ho
    simp only [List.mem_cons, List.not_mem_nil, or_false] at hq
    rcases hq with rfl | rfl <;> (cases ho; simp [execOp, go_sem])
  · intro q hq o ac wx bb ho hf hp z0 z1 y0 y1 hd
    simp only [List.mem_cons, List.not_mem_nil, or_false] at hq
    rcases hq with rfl | rfl
    · dsimp only at ho
      have ho2 : _ = o := Option.some.inj ho
      subst ho2
      clear ho
      have dp : ac.tmps[7]?.getD undef = .pointer (some ⟨bb, 0, none⟩) := by rw [← Array.getD_eq_getD_getElem?]; exact hp
      have dv : ac.tmps[28]?.getD undef = .agg #[.int .i64 ln, .int .i64 ld] := by rw [← Array.getD_eq_getD_getElem?]; exact hd 9 (by decide)
      simp [Oper.wp, Oper.upon, execOp, Act.eval, go_sem, dp, dv, z0, z1, y0, y1]
    · dsimp only at ho
      have ho2 : _ = o := Option.some.inj ho
      subst ho2
      clear ho
      have dp : ac.tmps[8]?.getD undef = .pointer (some ⟨bb, 0, none⟩) := by rw [← Array.getD_eq_getD_getElem?]; exact hp
      have dv : ac.tmps[29]?.getD undef = .agg #[.int .i64 gn, .int .i64 gd] := by rw [← Array.getD_eq_getD_getElem?]; exact hd 10 (by decide)
      simp [Oper.wp, Oper.upon, execOp, Act.eval, go_sem, dp, dv, z0, z1, y0, y1]
  rintro ⟨⟨ll⟩, df⟩ w3 hf hbw3 hall ⟨blkf, hq1, hq2⟩
  have hdf : df = [] := hf.defers
  subst hdf
  have hsz : ll.length = 89 := hf.size
  obtain ⟨x0, ll0, rfl, hsz0⟩ := cons_of hsz
  obtain ⟨x1, ll1, rfl, hsz1⟩ := cons_of hsz0
  obtain ⟨x2, ll2, rfl, hsz2⟩ := cons_of hsz1
  obtain ⟨x3, ll3, rfl, hsz3⟩ := cons_of hsz2
  obtain ⟨x4, ll4, rfl, hsz4⟩ := cons_of hsz3
  obtain ⟨x5, ll5, rfl, hsz5⟩ := cons_of hsz4
  obtain ⟨x6, ll6, rfl, hsz6⟩ := cons_of hsz5
  obtain ⟨x7, ll7, rfl, hsz7⟩ := cons_of hsz6
  obtain ⟨x8, ll8, rfl, hsz8⟩ := cons_of hsz7
  obtain ⟨x9, ll9, rfl, hsz9⟩ := cons_of hsz8
  obtain ⟨x10, ll10, rfl, hsz10⟩ := cons_of hsz9
  obtain ⟨x11, ll11, rfl, hsz11⟩ := cons_of hsz10
  obtain ⟨x12, ll12, rfl, hsz12⟩ := cons_of hsz11
  obtain ⟨x13, ll13, rfl, hsz13⟩ := cons_of hsz12
  obtain ⟨x14, ll14, rfl, hsz14⟩ := cons_of hsz13
  obtain ⟨x15, ll15, rfl, hsz15⟩ := cons_of hsz14
  obtain ⟨x16, ll16, rfl, hsz16⟩ := cons_of hsz15
  obtain ⟨x17, ll17, rfl, hsz17⟩ := cons_of hsz16
  obtain ⟨x18, ll18, rfl, hsz18⟩ := cons_of hsz17
  obtain ⟨x19, ll19, rfl, hsz19⟩ := cons_of hsz18
  obtain ⟨x20, ll20, rfl, hsz20⟩ := cons_of hsz19
  obtain ⟨x21, ll21, rfl, hsz21⟩ := cons_of hsz20
  obtain ⟨x22, ll22, rfl, hsz22⟩ := cons_of hsz21
  obtain ⟨x23, ll23, rfl, hsz23⟩ := cons_of hsz22
  obtain ⟨x24, ll24, rfl, hsz24⟩ := cons_of hsz23
  obtain ⟨x25, ll25, rfl, hsz25⟩ := cons_of hsz24
  obtain ⟨x26, ll26, rfl, hsz26⟩ := cons_of hsz25
  obtain ⟨x27, ll27, rfl, hsz27⟩ := cons_of hsz26
  obtain ⟨x28, ll28, rfl, hsz28⟩ := cons_of hsz27
  obtain ⟨x29, ll29, rfl, hsz29⟩ := cons_of hsz28
  obtain ⟨x30, ll30, rfl, hsz30⟩ := cons_of hsz29
  obtain ⟨x31, ll31, rfl, hsz31⟩ := cons_of hsz30
  obtain ⟨x32, ll32, rfl, hsz32⟩ := cons_of hsz31
  obtain ⟨x33, ll33, rfl, hsz33⟩ := cons_of hsz32
  obtain ⟨x34, ll34, rfl, hsz34⟩ := cons_of hsz33
  obtain ⟨x35, ll35, rfl, hsz35⟩ := cons_of hsz34
  obtain ⟨x36, ll36, rfl, hsz36⟩ := cons_of hsz35
  obtain ⟨x37, ll37, rfl, hsz37⟩ := cons_of hsz36
  obtain ⟨x38, ll38, rfl, hsz38⟩ := cons_of hsz37
  obtain ⟨x39, ll39, rfl, hsz39⟩ := cons_of hsz38
  obtain ⟨x40, ll40, rfl, hsz40⟩ := cons_of hsz39
  obtain ⟨x41, ll41, rfl, hsz41⟩ := cons_of hsz40
  obtain ⟨x42, ll42, rfl, hsz42⟩ := cons_of hsz41
  obtain ⟨x43, ll43, rfl, hsz43⟩ := cons_of hsz42
  obtain ⟨x44, ll44, rfl, hsz44⟩ := cons_of hsz43
  obtain ⟨x45, ll45, rfl, hsz45⟩ := cons_of hsz44
  obtain ⟨x46, ll46, rfl, hsz46⟩ := cons_of hsz45
  obtain ⟨x47, ll47, rfl, hsz47⟩ := cons_of hsz46
  obtain ⟨x48, ll48, rfl, hsz48⟩ := cons_of hsz47
  obtain ⟨x49, ll49, rfl, hsz49⟩ := cons_of hsz48
  obtain ⟨x50, ll50, rfl, hsz50⟩ := cons_of hsz49
  obtain ⟨x51, ll51, rfl, hsz51⟩ := cons_of hsz50
  obtain ⟨x52, ll52, rfl, hsz52⟩ := cons_of hsz51
  obtain ⟨x53, ll53, rfl, hsz53⟩ := cons_of hsz52
  obtain ⟨x54, ll54, rfl, hsz54⟩ := cons_of hsz53
  obtain ⟨x55, ll55, rfl, hsz55⟩ := cons_of hsz54
  obtain ⟨x56, ll56, rfl, hsz56⟩ := cons_of hsz55
  obtain ⟨x57, ll57, rfl, hsz57⟩ := cons_of hsz56
  obtain ⟨x58, ll58, rfl, hsz58⟩ := cons_of hsz57
  obtain ⟨x59, ll59, rfl, hsz59⟩ := cons_of hsz58
  obtain ⟨x60, ll60, rfl, hsz60⟩ := cons_of hsz59
  obtain ⟨x61, ll61, rfl, hsz61⟩ := cons_of hsz60
  obtain ⟨x62, ll62, rfl, hsz62⟩ := cons_of hsz61
  obtain ⟨x63, ll63, rfl, hsz63⟩ := cons_of hsz62
  obtain ⟨x64, ll64, rfl, hsz64⟩ := cons_of hsz63
  obtain ⟨x65, ll65, rfl, hsz65⟩ := cons_of hsz64
  obtain ⟨x66, ll66, rfl, hsz66⟩ := cons_of hsz65
  obtain ⟨x67, ll67, rfl, hsz67⟩ := cons_of hsz66
  obtain ⟨x68, ll68, rfl, hsz68⟩ := cons_of hsz67
  obtain ⟨x69, ll69, rfl, hsz69⟩ := cons_of hsz68
  obtain ⟨x70, ll70, rfl, hsz70⟩ := cons_of hsz69
  obtain ⟨x71, ll71, rfl, hsz71⟩ := cons_of hsz70
  obtain ⟨x72, ll72, rfl, hsz72⟩ := cons_of hsz71
  obtain ⟨x73, ll73, rfl, hsz73⟩ := cons_of hsz72
  obtain ⟨x74, ll74, rfl, hsz74⟩ := cons_of hsz73
  obtain ⟨x75, ll75, rfl, hsz75⟩ := cons_of hsz74
  obtain ⟨x76, ll76, rfl, hsz76⟩ := cons_of hsz75
  obtain ⟨x77, ll77, rfl, hsz77⟩ := cons_of hsz76
  obtain ⟨x78, ll78, rfl, hsz78⟩ := cons_of hsz77
  obtain ⟨x79, ll79, rfl, hsz79⟩ := cons_of hsz78
  obtain ⟨x80, ll80, rfl, hsz80⟩ := cons_of hsz79
  obtain ⟨x81, ll81, rfl, hsz81⟩ := cons_of hsz80
  obtain ⟨x82, ll82, rfl, hsz82⟩ := cons_of hsz81
  obtain ⟨x83, ll83, rfl, hsz83⟩ := cons_of hsz82
  obtain ⟨x84, ll84, rfl, hsz84⟩ := cons_of hsz83
  obtain ⟨x85, ll85, rfl, hsz85⟩ := cons_of hsz84
  obtain ⟨x86, ll86, rfl, hsz86⟩ := cons_of hsz85
  obtain ⟨x87, ll87, rfl, hsz87⟩ := cons_of hsz86
  obtain ⟨x88, ll88, rfl, hsz88⟩ := cons_of hsz87
  obtain rfl := List.eq_nil_of_length_eq_zero hsz88
  obtain rfl : x2 = .int .i64 x := hf.same 2 (by decide)
  obtain rfl : x3 = .pointer (some ⟨w.heap.size, 0, none⟩) := hf.same 3 (by decide)
  obtain rfl : x4 = .pointer (some ⟨w.heap.size + 1, 0, none⟩) := hf.same 4 (by decide)
  obtain rfl : x9 = .int .i64 eh := hall 16 9 rfl
  obtain rfl : x19 = .tuple #[.agg #[.int .i64 ln, .int .i64 ld], .agg #[.int .i64 gn, .int .i64 gd], .int .i64 eh] := hall 8 19 rfl
  obtain rfl : x20 = .agg #[.int .i64 s, .int .i64 ww, .int .i64 t, .int .i64 en] := hall 0 20 rfl
  obtain rfl : x21 = .pointer (some ⟨w.heap.size + 1, 0, none⟩) := hall 1 21 rfl
  obtain rfl : x22 = .agg #[.int .i64 lo, .int .i64 hi, .int .i64 st] := hall 2 22 rfl
  obtain rfl : x23 = .pointer (some ⟨w.heap.size + 1, 3, none⟩) := hall 3 23 rfl
  obtain rfl : x24 = .agg #[.slice A n c, .int .i64 S] := hall 4 24 rfl
  obtain rfl : x26 = .int .i64 x := hall 6 26 rfl
  obtain rfl : x27 = .tuple #[.agg #[.int .i64 ln, .int .i64 ld], .agg #[.int .i64 gn, .int .i64 gd], .int .i64 eh] := hall 7 27 rfl
  obtain rfl : x28 = .agg #[.int .i64 ln, .int .i64 ld] := hall 9 28 rfl
  obtain rfl : x29 = .agg #[.int .i64 gn, .int .i64 gd] := hall 10 29 rfl
  obtain rfl : x30 = .int .i64 eh := hall 11 30 rfl
  obtain ⟨pA, hxA, plA, psA, paA, pcA⟩ : ∃ blk, x7 = .pointer (some ⟨blk, 0, none⟩) ∧ w2.heap.size ≤ blk ∧ blk < w3.heap.size ∧ w3.cell? ⟨blk, 0, none⟩ = some (.int .i64 ln) ∧ w3.cell? ⟨blk, 1, none⟩ = some (.int .i64 ld) := by
    obtain ⟨g0, g1, g2, -, -, g5, g6⟩ := hq1 ⟨12, 14, ln, ld⟩ (by simp) rfl
    exact ⟨blkf 12, g0, g1, g2, g5, g6⟩
  subst hxA
  obtain ⟨pB, hxB, plB, psB, paB, pcB⟩ : ∃ blk, x8 = .pointer (some ⟨blk, 0, none⟩) ∧ w2.heap.size ≤ blk ∧ blk < w3.heap.size ∧ w3.cell? ⟨blk, 0, none⟩ = some (.int .i64 gn) ∧ w3.cell? ⟨blk, 1, none⟩ = some (.int .i64 gd) := by
    obtain ⟨g0, g1, g2, -, -, g5, g6⟩ := hq1 ⟨13, 15, gn, gd⟩ (by simp) rfl
    exact ⟨blkf 13, g0, g1, g2, g5, g6⟩
  subst hxB
  clear hall hf hq1 hq2 blkf
  have H3 := Lib.hid (H2.out.trans (hbw3.mono H2.out.size))
  have HC3 := Lib.hid (fun wy (hy : Below w3.heap.size w3 wy) => HC.out wy (H3.out.trans (hy.mono H3.out.size)))
  clear hbw3 plA plB
  go_upto_region 6 with fail
  refine wp_region_rk [31, 32, 33, 34, 35, 36, 37] [rEq (.pointer (some ⟨w.heap.size + 1, 0, none⟩)), rEq (.agg #[.int .i64 lo, .int .i64 hi, .int .i64 st]), rEq (.int .i64 wz), rEq (.pointer (some ⟨w.heap.size + 1, 0, none⟩)), rEq (.agg #[.int .i64 lo, .int .i64 hi, .int .i64 st]), rEq (.int .i64 wz), rEq (.bool false)] (by kernel_rfl) (by kernel_rfl) (by decide) rfl ⟨?_, ?_, ?_, ?_, ?_, ?_, ?_, trivial⟩ ?_
  · intro ac wx hf hb hd -- 0
    have f4 : ac.tmps[4]?.getD undef = .pointer (some ⟨w.heap.size + 1, 0, none⟩) := by rw [← Array.getD_eq_getD_getElem?]; exact hf.same 4 (by decide)
    exact rstep_eq (by simp [execOp, Act.eval, f4, go_sem]) rfl
  · intro ac wx hf hb hd -- 1
    have d0 : ac.tmps[31]?.getD undef = .pointer (some ⟨w.heap.size + 1, 0, none⟩) := by rw [← Array.getD_eq_getD_getElem?]; exact hd 0 (by decide)
    obtain ⟨c0, c1, c2, c3, c4, c5, c6, c7, c8, c9⟩ := HC3.out wx hb
    exact rstep_eq (by simp [execOp, Act.eval, d0, c4, c5, c6, go_sem]) rfl
  · intro ac wx hf hb hd -- 2
    have d1 : ac.tmps[32]?.getD undef = .agg #[.int .i64 lo, .int .i64 hi, .int .i64 st] := by rw [← Array.getD_eq_getD_getElem?]; exact hd 1 (by decide)
    refine rstep_call (f := 52) (args := #[.agg #[.int .i64 lo, .int .i64 hi, .int .i64 st]]) (by simp [Act.eval, d1, go_sem]) ?_ rfl
    exact HCW.out wx
  · intro ac wx hf hb hd -- 3
    have f4 : ac.tmps[4]?.getD undef = .pointer (some ⟨w.heap.size + 1, 0, none⟩) := by rw [← Array.getD_eq_getD_getElem?]; exact hf.same 4 (by decide)
    exact rstep_eq (by simp [execOp, Act.eval, f4, go_sem]) rfl
  · intro ac wx hf hb hd -- 4
    have d3 : ac.tmps[34]?.getD undef = .pointer (some ⟨w.heap.size + 1, 0, none⟩) := by rw [← Array.getD_eq_getD_getElem?]; exact hd 3 (by decide)
    obtain ⟨c0, c1, c2, c3, c4, c5, c6, c7, c8, c9⟩ := HC3.out wx hb
    exact rstep_eq (by simp [execOp, Act.eval, d3, c4, c5, c6, go_sem]) rfl
  · intro ac wx hf hb hd -- 5
    have d4 : ac.tmps[35]?.getD undef = .agg #[.int .i64 lo, .int .i64 hi, .int .i64 st] := by rw [← Array.getD_eq_getD_getElem?]; exact hd 4 (by decide)
    refine rstep_call (f := 53) (args := #[.agg #[.int .i64 lo, .int .i64 hi, .int .i64 st]]) (by simp [Act.eval, d4, go_sem]) ?_ rfl
    exact HRW.out wx
  · intro ac wx hf hb hd -- 6
    have d2 : ac.tmps[33]?.getD undef = .int .i64 wz := by rw [← Array.getD_eq_getD_getElem?]; exact hd 2 (by decide)
    have d5 : ac.tmps[36]?.getD undef = .int .i64 wz := by rw [← Array.getD_eq_getD_getElem?]; exact hd 5 (by decide)
    exact rstep_eq (by simp [execOp, Act.eval, d2, d5, go_sem]) rfl
  rintro ⟨⟨ll⟩, df⟩ w4 hf hb4 hall
  have hdf : df = [] := hf.defers
  subst hdf
  have hsz : ll.length = 89 := hf.size
  obtain ⟨x0, ll0, rfl, hsz0⟩ := cons_of hsz
  obtain ⟨x1, ll1, rfl, hsz1⟩ := cons_of hsz0
  obtain ⟨x2, ll2, rfl, hsz2⟩ := cons_of hsz1
  obtain ⟨x3, ll3, rfl, hsz3⟩ := cons_of hsz2
  obtain ⟨x4, ll4, rfl, hsz4⟩ := cons_of hsz3
  obtain ⟨x5, ll5, rfl, hsz5⟩ := cons_of hsz4
  obtain ⟨x6, ll6, rfl, hsz6⟩ := cons_of hsz5
  obtain ⟨x7, ll7, rfl, hsz7⟩ := cons_of hsz6
  obtain ⟨x8, ll8, rfl, hsz8⟩ := cons_of hsz7
  obtain ⟨x9, ll9, rfl, hsz9⟩ := cons_of hsz8
  obtain ⟨x10, ll10, rfl, hsz10⟩ := cons_of hsz9
  obtain ⟨x11, ll11, rfl, hsz11⟩ := cons_of hsz10
  obtain ⟨x12, ll12, rfl, hsz12⟩ := cons_of hsz11
  obtain ⟨x13, ll13, rfl, hsz13⟩ := cons_of hsz12
  obtain ⟨x14, ll14, rfl, hsz14⟩ := cons_of hsz13
  obtain ⟨x15, ll15, rfl, hsz15⟩ := cons_of hsz14
  obtain ⟨x16, ll16, rfl, hsz16⟩ := cons_of hsz15
  obtain ⟨x17, ll17, rfl, hsz17⟩ := cons_of hsz16
  obtain ⟨x18, ll18, rfl, hsz18⟩ := cons_of hsz17
  obtain ⟨x19, ll19, rfl, hsz19⟩ := cons_of hsz18
  obtain ⟨x20, ll20, rfl, hsz20⟩ := cons_of hsz19
  obtain ⟨x21, ll21, rfl, hsz21⟩ := cons_of hsz20
  obtain ⟨x22, ll22, rfl, hsz22⟩ := cons_of hsz21
  obtain ⟨x23, ll23, rfl, hsz23⟩ := cons_of hsz22
  obtain ⟨x24, ll24, rfl, hsz24⟩ := cons_of hsz23
  obtain ⟨x25, ll25, rfl, hsz25⟩ := cons_of hsz24
  obtain ⟨x26, ll26, rfl, hsz26⟩ := cons_of hsz25
  obtain ⟨x27, ll27, rfl, hsz27⟩ := cons_of hsz26
  obtain ⟨x28, ll28, rfl, hsz28⟩ := cons_of hsz27
  obtain ⟨x29, ll29, rfl, hsz29⟩ := cons_of hsz28
  obtain ⟨x30, ll30, rfl, hsz30⟩ := cons_of hsz29
  obtain ⟨x31, ll31, rfl, hsz31⟩ := cons_of hsz30
  obtain ⟨x32, ll32, rfl, hsz32⟩ := cons_of hsz31
  obtain ⟨x33, ll33, rfl, hsz33⟩ := cons_of hsz32
  obtain ⟨x34, ll34, rfl, hsz34⟩ := cons_of hsz33
  obtain ⟨x35, ll35, rfl, hsz35⟩ := cons_of hsz34
  obtain ⟨x36, ll36, rfl, hsz36⟩ := cons_of hsz35
  obtain ⟨x37, ll37, rfl, hsz37⟩ := cons_of hsz36
  obtain ⟨x38, ll38, rfl, hsz38⟩ := cons_of hsz37
  obtain ⟨x39, ll39, rfl, hsz39⟩ := cons_of hsz38
  obtain ⟨x40, ll40, rfl, hsz40⟩ := cons_of hsz39
  obtain ⟨x41, ll41, rfl, hsz41⟩ := cons_of hsz40
  obtain ⟨x42, ll42, rfl, hsz42⟩ := cons_of hsz41
  obtain ⟨x43, ll43, rfl, hsz43⟩ := cons_of hsz42
  obtain ⟨x44, ll44, rfl, hsz44⟩ := cons_of hsz43
  obtain ⟨x45, ll45, rfl, hsz45⟩ := cons_of hsz44
  obtain ⟨x46, ll46, rfl, hsz46⟩ := cons_of hsz45
  obtain ⟨x47, ll47, rfl, hsz47⟩ := cons_of hsz46
  obtain ⟨x48, ll48, rfl, hsz48⟩ := cons_of hsz47
  obtain ⟨x49, ll49, rfl, hsz49⟩ := cons_of hsz48
  obtain ⟨x50, ll50, rfl, hsz50⟩ := cons_of hsz49
  obtain ⟨x51, ll51, rfl, hsz51⟩ := cons_of hsz50
  obtain ⟨x52, ll52, rfl, hsz52⟩ := cons_of hsz51
  obtain ⟨x53, ll53, rfl, hsz53⟩ := cons_of hsz52
  obtain ⟨x54, ll54, rfl, hsz54⟩ := cons_of hsz53
  obtain ⟨x55, ll55, rfl, hsz55⟩ := cons_of hsz54
  obtain ⟨x56, ll56, rfl, hsz56⟩ := cons_of hsz55
  obtain ⟨x57, ll57, rfl, hsz57⟩ := cons_of hsz56
  obtain ⟨x58, ll58, rfl, hsz58⟩ := cons_of hsz57
  obtain ⟨x59, ll59, rfl, hsz59⟩ := cons_of hsz58
  obtain ⟨x60, ll60, rfl, hsz60⟩ := cons_of hsz59
  obtain ⟨x61, ll61, rfl, hsz61⟩ := cons_of hsz60
  obtain ⟨x62, ll62, rfl, hsz62⟩ := cons_of hsz61
  obtain ⟨x63, ll63, rfl, hsz63⟩ := cons_of hsz62
  obtain ⟨x64, ll64, rfl, hsz64⟩ := cons_of hsz63
  obtain ⟨x65, ll65, rfl, hsz65⟩ := cons_of hsz64
  obtain ⟨x66, ll66, rfl, hsz66⟩ := cons_of hsz65
  obtain ⟨x67, ll67, rfl, hsz67⟩ := cons_of hsz66
  obtain ⟨x68, ll68, rfl, hsz68⟩ := cons_of hsz67
  obtain ⟨x69, ll69, rfl, hsz69⟩ := cons_of hsz68
  obtain ⟨x70, ll70, rfl, hsz70⟩ := cons_of hsz69
  obtain ⟨x71, ll71, rfl, hsz71⟩ := cons_of hsz70
  obtain ⟨x72, ll72, rfl, hsz72⟩ := cons_of hsz71
  obtain ⟨x73, ll73, rfl, hsz73⟩ := cons_of hsz72
  obtain ⟨x74, ll74, rfl, hsz74⟩ := cons_of hsz73
  obtain ⟨x75, ll75, rfl, hsz75⟩ := cons_of hsz74
  obtain ⟨x76, ll76, rfl, hsz76⟩ := cons_of hsz75
  obtain ⟨x77, ll77, rfl, hsz77⟩ := cons_of hsz76
  obtain ⟨x78, ll78, rfl, hsz78⟩ := cons_of hsz77
  obtain ⟨x79, ll79, rfl, hsz79⟩ := cons_of hsz78
  obtain ⟨x80, ll80, rfl, hsz80⟩ := cons_of hsz79
  obtain ⟨x81, ll81, rfl, hsz81⟩ := cons_of hsz80
  obtain ⟨x82, ll82, rfl, hsz82⟩ := cons_of hsz81
  obtain ⟨x83, ll83, rfl, hsz83⟩ := cons_of hsz82
  obtain ⟨x84, ll84, rfl, hsz84⟩ := cons_of hsz83
  obtain ⟨x85, ll85, rfl, hsz85⟩ := cons_of hsz84
  obtain ⟨x86, ll86, rfl, hsz86⟩ := cons_of hsz85
  obtain ⟨x87, ll87, rfl, hsz87⟩ := cons_of hsz86
  obtain ⟨x88, ll88, rfl, hsz88⟩ := cons_of hsz87
  obtain rfl := List.eq_nil_of_length_eq_zero hsz88
  obtain rfl : x2 = .int .i64 x := hf.same 2 (by decide)
  obtain rfl : x3 = .pointer (some ⟨w.heap.size, 0, none⟩) := hf.same 3 (by decide)
  obtain rfl : x4 = .pointer (some ⟨w.heap.size + 1, 0, none⟩) := hf.same 4 (by decide)
  obtain rfl : x7 = .pointer (some ⟨pA, 0, none⟩) := hf.same 7 (by decide)
  obtain rfl : x8 = .pointer (some ⟨pB, 0, none⟩) := hf.same 8 (by decide)
  obtain rfl : x9 = .int .i64 eh := hf.same 9 (by decide)
  obtain rfl : x31 = .pointer (some ⟨w.heap.size + 1, 0, none⟩) := hall 0 31 rfl
  obtain rfl : x32 = .agg #[.int .i64 lo, .int .i64 hi, .int .i64 st] := hall 1 32 rfl
  obtain rfl : x33 = .int .i64 wz := hall 2 33 rfl
  obtain rfl : x34 = .pointer (some ⟨w.heap.size + 1, 0, none⟩) := hall 3 34 rfl
  obtain rfl : x35 = .agg #[.int .i64 lo, .int .i64 hi, .int .i64 st] := hall 4 35 rfl
  obtain rfl : x36 = .int .i64 wz := hall 5 36 rfl
  obtain rfl : x37 = .bool false := hall 6 37 rfl
  clear hall hf
  have H4 := Lib.hid (H3.out.trans (hb4.mono H3.out.size))
  have q0 := ((bcell hb4).1 _ _ psA).trans paA
  have q1 := ((bcell hb4).1 _ _ psA).trans pcA
  have q2 := ((bcell hb4).1 _ _ psB).trans paB
  have q3 := ((bcell hb4).1 _ _ psB).trans pcB
  have la : pA < w4.heap.size := World.block_lt_of_cell? w4 _ q0
  have lb : pB < w4.heap.size := World.block_lt_of_cell? w4 _ q2
  clear hb4 paA pcA paB pcB psA psB
  obtain ⟨k0, k1, k2, k3, k4, k5, k6, k7, k8, k9⟩ := HC.out w4 H4.out
  go_upto_region 9 with (go_at_call 23; (refine Calls.mono (HCB.out _ (HB0.out.trans (H4.out.mono HB0.out.size))) ?_); rintro e w6 ⟨rfl, hb6⟩; have H6 := Lib.hid (H4.out.trans (hb6.mono H4.out.size)); have r0 := ((bcell hb6).1 _ _ la).trans q0; have r1 := ((bcell hb6).1 _ _ la).trans q1; have r2 := ((bcell hb6).1 _ _ lb).trans q2; have r3 := ((bcell hb6).1 _ _ lb).trans q3; clear hb6)
  clear q0 q1 q2 q3 la lb k0 k1 k2 k3 k4 k5 k6 k7 k8 k9
  have lw3 : pA < w6.heap.size := World.block_lt_of_cell? w6 _ r0
  have lw4 : pB < w6.heap.size := World.block_lt_of_cell? w6 _ r2
  have NO := fun wx b (h0 : World.cell? wx ⟨b, 0, none⟩ = some (.int .i64 0)) (h1 : World.cell? wx ⟨b, 1, none⟩ = some (.int .i64 0)) (h2 : World.cell? wx ⟨b, 2, none⟩ = some (.int .i64 0)) (h3 : World.cell? wx ⟨b, 3, none⟩ = some (.int .i64 0)) => Lib.hid (none_two (c := 2) wx h0 h1 h2 h3)
  obtain ⟨m0, m1, m2, m3, m4, m5, m6, m7, m8, m9⟩ := HC.out w6 H6.out
  rcases HH.out with ⟨hdz, rfl, rfl, rfl, rfl, rfl⟩ | ⟨rfl, hwz, rfl, rfl, rfl, rfl, rfl⟩ | ⟨rfl, rfl, rfl, rfl, rfl, rfl, rfl, rfl⟩ | ⟨rfl, rfl, rfl, rfl⟩
  · have hde : (eh == 0) = false := by simpa using hdz
    go_wp2_with (go_at_call 27; (refine Calls.mono (NO _ _ (by simp [go_sem]) (by simp [go_sem]) (by simp [go_sem]) (by simp [go_sem])).out ?_); rintro e w7 ⟨rfl, rfl⟩)
    go_ret
    exact ⟨rfl, HB0.out.trans ((H6.out.alloc H6.out.size _).mono HB0.out.size)⟩
  · have hde : (eh == 0) = false := by simpa using hwz
    go_upto_region 11 with (first | (go_at_call 53; (refine Calls.mono (HRW.out _) ?_); rintro e w7 ⟨rfl, hb7⟩; have H7 := Lib.hid (H6.out.trans (hb7.mono H6.out.size)); have s0 := ((bcell hb7).1 _ _ lw3).trans r0; have s1 := ((bcell hb7).1 _ _ lw3).trans r1; have s2 := ((bcell hb7).1 _ _ lw4).trans r2; have s3 := ((bcell hb7).1 _ _ lw4).trans r3; clear hb7 r0 r1 r2 r3; clear m0 m1 m2 m3 m4 m5 m6 m7 m8 m9; obtain ⟨m0, m1, m2, m3, m4, m5, m6, m7, m8, m9⟩ := HC.out w7 H7.out) | fail)
    go_wp2_with (first | (go_at_call 27; (refine Calls.mono (NO _ _ (by simp [go_sem]) (by simp [go_sem]) (by simp [go_sem]) (by simp [go_sem])).out ?_); rintro e w8 ⟨rfl, rfl⟩) | fail)
    go_ret
    exact ⟨rfl, HB0.out.trans ((H7.out.alloc H7.out.size _).mono HB0.out.size)⟩
  · go_upto_region 11 with (first | (go_at_call 53; (refine Calls.mono (HRW.out _) ?_); rintro e w7 ⟨rfl, hb7⟩; have H7 := Lib.hid (H6.out.trans (hb7.mono H6.out.size)); have s0 := ((bcell hb7).1 _ _ lw3).trans r0; have s1 := ((bcell hb7).1 _ _ lw3).trans r1; have s2 := ((bcell hb7).1 _ _ lw4).trans r2; have s3 := ((bcell hb7).1 _ _ lw4).trans r3; clear hb7 r0 r1 r2 r3; clear m0 m1 m2 m3 m4 m5 m6 m7 m8 m9; obtain ⟨m0, m1, m2, m3, m4, m5, m6, m7, m8, m9⟩ := HC.out w7 H7.out) | fail)
    go_wp2_with (first | (go_at_call 32; (refine Calls.mono (HWI.out _) ?_); rintro e w9 ⟨rfl, rfl⟩) | (go_at_call 27; (refine Calls.mono (NO _ _ (by simp [go_sem]) (by simp [go_sem]) (by simp [go_sem]) (by simp [go_sem])).out ?_); rintro e w8 ⟨rfl, rfl⟩) | fail)
    go_ret
    exact ⟨rfl, HB0.out.trans ((H7.out.alloc H7.out.size _).mono HB0.out.size)⟩
  · have RG2 := HRG.out rfl rfl rfl
    have HRG2 := Lib.hid RG2
    clear HRG RG2 HCB HCW HSR
    go_upto_region 11 with (first | (go_at_call 53; (refine Calls.mono (HRW.out _) ?_); rintro e w7 ⟨rfl, hb7⟩; have H7 := Lib.hid (H6.out.trans (hb7.mono H6.out.size)); have s0 := ((bcell hb7).1 _ _ lw3).trans r0; have s1 := ((bcell hb7).1 _ _ lw3).trans r1; have s2 := ((bcell hb7).1 _ _ lw4).trans r2; have s3 := ((bcell hb7).1 _ _ lw4).trans r3; clear hb7 r0 r1 r2 r3; clear m0 m1 m2 m3 m4 m5 m6 m7 m8 m9; obtain ⟨m0, m1, m2, m3, m4, m5, m6, m7, m8, m9⟩ := HC.out w7 H7.out) | fail)
    have H7W := Lib.hid (HB0.out.trans (H7.out.mono HB0.out.size))
    have l3 : pA < w7.heap.size := World.block_lt_of_cell? w7 _ s0
    have l4 : pB < w7.heap.size := World.block_lt_of_cell? w7 _ s2
    go_upto_region 16 with (first | (go_at_call 32; (refine Calls.mono (HWI.out _) ?_); rintro e w9 ⟨rfl, rfl⟩) | (go_at_call 54; (refine Calls.mono (HRG2.out _ H7W.out) ?_); rintro e w8 ⟨rfl, hb8⟩; have H8 := Lib.hid hb8; clear hb8) | fail)
    obtain ⟨wz, hwz⟩ : ∃ wz, ((w8.alloc (.cells #[.int .i64 ln, .int .i64 ld] 30)).alloc (.cells #[.int .i64 gn, .int .i64 gd] 30)) = wz := ⟨_, rfl⟩
    have HZ : Hid (Below w7.heap.size w7 wz) := Lib.hid (by rw [← hwz]; exact (H8.out.alloc H8.out.size _).alloc (by have := H8.out.size; simp; omega) _)
    have u0 : wz.cell? ⟨w8.heap.size, 0, none⟩ = some (.int .i64 ln) := by rw [← hwz]; simp [go_sem]
    have u1 : wz.cell? ⟨w8.heap.size, 1, none⟩ = some (.int .i64 ld) := by rw [← hwz]; simp [go_sem]
    have u2 : wz.cell? ⟨w8.heap.size + 1, 0, none⟩ = some (.int .i64 gn) := by rw [← hwz]; simp [go_sem]
    have u3 : wz.cell? ⟨w8.heap.size + 1, 1, none⟩ = some (.int .i64 gd) := by rw [← hwz]; simp [go_sem]
    have v0 := ((bcell HZ.out).1 _ _ l3).trans s0
    have v1 := ((bcell HZ.out).1 _ _ l3).trans s1
    have v2 := ((bcell HZ.out).1 _ _ l4).trans s2
    have v3 := ((bcell HZ.out).1 _ _ l4).trans s3
    rw [hwz]
    clear hwz
    go_wp2
    go_ret
    exact ⟨by simp, H7W.out.trans (HZ.out.mono H7W.out.size)⟩
end Go.Proofs.Ytageiimcmnebmaa
