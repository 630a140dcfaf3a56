/- The law of ranges. -/
import Derived.Test.YtablphoicidlkaaMGC
import Derived.Test.YtablphoicidlkaaSX
import Derived.Test.YtablphoicidlkaaRJ
import Derived.Test.YtablphoicidlkaaDN
import Derived.Test.YtablphoicidlkaaMGI
import Derived.Test.YtablphoicidlkaaMGH
import Derived.Test.YtablphoicidlkaaHF
namespace Go.Proofs.Ytablphoicidlkaa
open Go.RowKit

set_option maxHeartbeats 16000000 in
set_option maxRecDepth 20000 in
theorem ranges_law {s ww t en x : Int} {A A' : Option Addr} {n c n' c' : Nat} {S T : Int} {l m : List Pt} (hn : n ≤ 12) (hn' : n' ≤ 12) {ln ld gn gd mn md pn pd eh dz k1 k2 k3 k4 : Int} {wi : Bool}
    (MR : ∀ A1 c1 A2 c2 wx, PtRow wx A1 n l → PtRow wx A2 n' m → Calls Try.prog 47 #[.agg #[.int .i64 s, .int .i64 ww, .int .i64 t, .int .i64 en], buV A1 n c1 S, buV A2 n' c2 T, .int .i64 x] wx fun e w' => e = .returned (.tuple #[.agg #[.int .i64 ln, .int .i64 ld], .agg #[.int .i64 gn, .int .i64 gd], .int .i64 eh]) ∧ Below wx.heap.size wx w')
    (w : World) (CR : ∀ wx, Below w.heap.size w wx → Calls Try.prog 48 #[.agg #[.int .i64 s, .int .i64 ww, .int .i64 t, .int .i64 en], buV A n c S, buV A' n' c' T] wx fun e w' => e = .returned (.int .i64 dz) ∧ Below wx.heap.size wx w')
    (WI : ∀ wx, Calls Try.prog 32 #[.int .i64 x, .int .i64 0, .int .i64 s] wx fun e w' => e = .returned (.bool wi) ∧ wx = w')
    (RG : dz = 0 → wi = true → ∀ wx, Below w.heap.size w wx → Calls Try.prog 49 #[.agg #[.int .i64 s, .int .i64 ww, .int .i64 t, .int .i64 en], buV A n c S, buV A' n' c' T, .int .i64 x] wx fun e w' => e = .returned (.tuple #[.agg #[.int .i64 ln, .int .i64 ld], .agg #[.int .i64 gn, .int .i64 gd]]) ∧ Below wx.heap.size wx w')
    (M1 : dz = 0 → wi = true → ∀ wx, Below w.heap.size w wx → Calls Try.prog 34 #[.agg #[.int .i64 s, .int .i64 ww, .int .i64 t, .int .i64 en], buV A n c S, .int .i64 x] wx fun e w' => e = .returned (.agg #[.int .i64 mn, .int .i64 md]) ∧ Below wx.heap.size wx w')
    (M2 : dz = 0 → wi = true → ∀ wx, Below w.heap.size w wx → Calls Try.prog 34 #[.agg #[.int .i64 s, .int .i64 ww, .int .i64 t, .int .i64 en], buV A' n' c' T, .int .i64 x] wx fun e w' => e = .returned (.agg #[.int .i64 pn, .int .i64 pd]) ∧ Below wx.heap.size wx w')
    (K1 : dz = 0 → wi = true → ∀ wx, Calls Try.prog 50 #[.agg #[.int .i64 ln, .int .i64 ld], .agg #[.int .i64 mn, .int .i64 md]] wx fun e w' => e = .returned (.int .i64 k1) ∧ Below wx.heap.size wx w')
    (K2 : dz = 0 → wi = true → ∀ wx, Calls Try.prog 50 #[.agg #[.int .i64 mn, .int .i64 md], .agg #[.int .i64 gn, .int .i64 gd]] wx fun e w' => e = .returned (.int .i64 k2) ∧ Below wx.heap.size wx w')
    (K3 : dz = 0 → wi = true → ∀ wx, Calls Try.prog 50 #[.agg #[.int .i64 ln, .int .i64 ld], .agg #[.int .i64 pn, .int .i64 pd]] wx fun e w' => e = .returned (.int .i64 k3) ∧ Below wx.heap.size wx w')
    (K4 : dz = 0 → wi = true → ∀ wx, Calls Try.prog 50 #[.agg #[.int .i64 pn, .int .i64 pd], .agg #[.int .i64 gn, .int .i64 gd]] wx fun e w' => e = .returned (.int .i64 k4) ∧ Below wx.heap.size wx w')
    (KK : dz = 0 → wi = true → (k1 ≤ 0 ∧ k2 ≤ 0) ∧ (k3 ≤ 0 ∧ k4 ≤ 0))
    (H : (dz ≠ 0 ∧ eh = dz ∧ ln = 0 ∧ ld = 0 ∧ gn = 0 ∧ gd = 0) ∨ (dz = 0 ∧ wi = false ∧ eh = 2 ∧ ln = 0 ∧ ld = 0 ∧ gn = 0 ∧ gd = 0) ∨ (dz = 0 ∧ wi = true ∧ eh = 0))
    (h : PtRow w A n l) (h' : PtRow w A' n' m) :
    Calls Try.prog 8 #[.agg #[.int .i64 s, .int .i64 ww, .int .i64 t, .int .i64 en], .agg #[.slice A n c, .int .i64 S, .slice A' n' c', .int .i64 T], .int .i64 x] w fun e w' => e = .returned (.bool true) ∧ Below w.heap.size w w' := by
  have HR := Lib.hid h
  have HR' := Lib.hid h'
  have HMR := Lib.hid MR
  have HCR := Lib.hid CR
  have HWI := Lib.hid WI
  have HRG := Lib.hid RG
  have HM1 := Lib.hid M1
  have HM2 := Lib.hid M2
  have HK1 := Lib.hid K1
  have HK2 := Lib.hid K2
  have HK3 := Lib.hid K3
  have HK4 := Lib.hid K4
  have HKK := Lib.hid KK
  have HH := Lib.hid H
  have AW := fun wx => Lib.hid (awake_any wx)
  have FE := Lib.hid (fun wx => few_any (A := A) (n := n) (c := c) (S := S) wx)
  have FE' := Lib.hid (fun wx => few_any (A := A') (n := n') (c := c') (S := T) wx)
  have hd : decide (n ≤ 12) = true := decide_eq_true hn
  have hd' : decide (n' ≤ 12) = true := decide_eq_true hn'
  rw [hd] at FE
  rw [hd'] at FE'
  clear h h' MR CR WI RG M1 M2 K1 K2 K3 K4 KK H hd hd'
  unfold buV at *
  go_enter Try.func8, Try.ntmps8
  go_upto_region 1 with fail
  obtain ⟨w0, hw0⟩ : ∃ w0, ((w.alloc (.cells #[.int .i64 s, .int .i64 ww, .int .i64 t, .int .i64 en] 23)).alloc (.cells #[.slice A n c, .int .i64 S, .slice A' n' c', .int .i64 T] 70)) = w0 := ⟨_, rfl⟩
  have HB0 : Hid (Below w.heap.size w w0) := Lib.hid (by rw [← hw0]; exact (((Below.refl _ _).alloc (Nat.le_refl _) _).alloc (by simp; try omega) _))
  have HC := Lib.hid (fun wx (hb : Below w0.heap.size w0 wx) => (show wx.cell? ⟨w.heap.size, 0, none⟩ = some (.int .i64 s) ∧ wx.cell? ⟨w.heap.size, 1, none⟩ = some (.int .i64 ww) ∧ wx.cell? ⟨w.heap.size, 2, none⟩ = some (.int .i64 t) ∧ wx.cell? ⟨w.heap.size, 3, none⟩ = some (.int .i64 en) ∧ wx.cell? ⟨w.heap.size + 1, 0, none⟩ = some (.slice A n c) ∧ wx.cell? ⟨w.heap.size + 1, 1, none⟩ = some (.int .i64 S) ∧ wx.cell? ⟨w.heap.size + 1, 2, none⟩ = some (.slice A' n' c') ∧ wx.cell? ⟨w.heap.size + 1, 3, none⟩ = some (.int .i64 T) from by
    subst hw0
    obtain ⟨k, kf⟩ := bcell hb
    exact ⟨(k _ _ (by simp; try omega)).trans (by simp [go_sem]), (k _ _ (by simp; try omega)).trans (by simp [go_sem]), (k _ _ (by simp; try omega)).trans (by simp [go_sem]), (k _ _ (by simp; try omega)).trans (by simp [go_sem]), (k _ _ (by simp; try omega)).trans (by simp [go_sem]), (k _ _ (by simp; try omega)).trans (by simp [go_sem]), (k _ _ (by simp; try omega)).trans (by simp [go_sem]), (k _ _ (by simp; try omega)).trans (by simp [go_sem])⟩))
  rw [hw0]
  clear hw0
  have HZ0 := Lib.hid (Below.refl w0.heap.size w0)
  obtain ⟨c0, c1, c2, c3, c4, c5, c6, c7⟩ := HC.out w0 HZ0.out
  go_upto_region 3 with (go_at_call 19; (refine Calls.mono (AW _).out ?_); rintro e w1 ⟨rfl, hb1⟩; have H1 := Lib.hid hb1; clear hb1)
  clear c0 c1 c2 c3 c4 c5 c6 c7
  obtain ⟨d0, d1, d2, d3, d4, d5, d6, d7⟩ := HC.out w1 H1.out
  go_upto_region 5 with (first | (go_at_call 20; (with_reducible refine Calls.mono (FE.out _) ?_); rintro e wf ⟨rfl, hb2⟩; have HF := Lib.hid (H1.out.trans (hb2.mono H1.out.size)); clear hb2; obtain ⟨e0, e1, e2, e3, e4, e5, e6, e7⟩ := HC.out wf HF.out) | (go_at_call 20; (with_reducible refine Calls.mono (FE'.out _) ?_); rintro e w2 ⟨rfl, hb2⟩; have H2 := Lib.hid (HF.out.trans (hb2.mono HF.out.size)); clear hb2) | fail)
  have HC2 := Lib.hid (fun wy (hy : Below w2.heap.size w2 wy) => HC.out wy (H2.out.trans (hy.mono H2.out.size)))
  have HW2 := Lib.hid (HB0.out.trans (H2.out.mono HB0.out.size))
  clear e0 e1 e2 e3 e4 e5 e6 e7 d0 d1 d2 d3 d4 d5 d6 d7
  refine wp_region_ptrs (t := 30) [28, 29, 30, 31, 32, 33, 34, 35, 36, 27, 37, 38, 39, 7, 8, 121, 120, 9] [⟨13, 15, ln, ld⟩, ⟨14, 16, gn, gd⟩] [rEq (.agg #[.int .i64 s, .int .i64 ww, .int .i64 t, .int .i64 en]), rEq (.pointer (some ⟨w.heap.size + 1, 0, none⟩)), rEq (.agg #[.slice A n c, .int .i64 S]), (rBur 0 l n S), rEq (.pointer (some ⟨w.heap.size + 1, 2, none⟩)), rEq (.agg #[.slice A' n' c', .int .i64 T]), (rBur 0 m n' T), rEq (.int .i64 x), rEq (.tuple #[.agg #[.int .i64 ln, .int .i64 ld], .agg #[.int .i64 gn, .int .i64 gd], .int .i64 eh]), rEq (.tuple #[.agg #[.int .i64 ln, .int .i64 ld], .agg #[.int .i64 gn, .int .i64 gd], .int .i64 eh]), rEq (.agg #[.int .i64 ln, .int .i64 ld]), rEq (.agg #[.int .i64 gn, .int .i64 gd]), rEq (.int .i64 eh), (rAny), (rAny), (rAny), (rAny), rEq (.int .i64 eh)] [rEq (.agg #[.int .i64 s, .int .i64 ww, .int .i64 t, .int .i64 en]), rEq (.pointer (some ⟨w.heap.size + 1, 0, none⟩)), rEq (.agg #[.slice A n c, .int .i64 S]), (rAny), rEq (.pointer (some ⟨w.heap.size + 1, 2, none⟩)), rEq (.agg #[.slice A' n' c', .int .i64 T]), (rAny), rEq (.int .i64 x), rEq (.tuple #[.agg #[.int .i64 ln, .int .i64 ld], .agg #[.int .i64 gn, .int .i64 gd], .int .i64 eh]), rEq (.tuple #[.agg #[.int .i64 ln, .int .i64 ld], .agg #[.int .i64 gn, .int .i64 gd], .int .i64 eh]), rEq (.agg #[.int .i64 ln, .int .i64 ld]), rEq (.agg #[.int .i64 gn, .int .i64 gd]), rEq (.int .i64 eh), (rAny), (rAny), (rAny), (rAny), rEq (.int .i64 eh)] [13, 14, 15, 16, 17] [0, 1, 2, 3, 4, 5, 6, 7, 8, 9, 10, 13, 14, 15, 16] (by kernel_rfl) (by kernel_rfl) (by decide) rfl ?_ ?_ ?_ ?_ ?_ ?_ ?_ ?_ ?_ ?_ (by simp)
  · refine ⟨fun i h1 h2 => ?_, fun q hq => ?_, fun q hq q' hq' h => ?_, fun q hq o ho => ?_, fun q hq => ?_⟩
    · have h3 : i = 15 ∨ i = 16 := by
        revert h2
        revert h1
        revert i
        decide +kernel
      rcases h3 with rfl | rfl
      · exact ⟨⟨13, 15, ln, ld⟩, by simp, rfl⟩
      · exact ⟨⟨14, 16, gn, gd⟩, by simp, rfl⟩
    · simp only [List.mem_cons, List.not_mem_nil, or_false] at hq
      rcases hq with rfl | rfl
      · exact ⟨by kernel_rfl, by kernel_rfl, (show 13 < _ by decide +kernel)⟩
      · exact ⟨by kernel_rfl, by kernel_rfl, (show 14 < _ by decide +kernel)⟩
    · simp only [List.mem_cons, List.not_mem_nil, or_false] at hq
      simp only [List.mem_cons, List.not_mem_nil, or_false] at hq'
      rcases hq with rfl | rfl <;> rcases hq' with rfl | rfl <;> first | rfl | (exfalso; revert h; simp)
    · simp only [List.mem_cons, List.not_mem_nil, or_false] at hq
      rcases hq with rfl | rfl
      · dsimp only at ho
        have ho2 : _ = o := Option.some.inj ho
        subst ho2
        show 13 ∈ depsOf _
        decide
      · dsimp only at ho
        have ho2 : _ = o := Option.some.inj ho
        subst ho2
        show 14 ∈ depsOf _
        decide
    · simp only [List.mem_cons, List.not_mem_nil, or_false] at hq
      rcases hq with rfl | rfl <;> exact ⟨rfl, rfl, rfl⟩
  · intro i o ho he
    have he' : i = 13 ∨ i = 14 ∨ i = 15 ∨ i = 16 ∨ i = 17 := by simpa using he
    rcases he' with rfl | rfl | rfl | rfl | rfl
    · exact .inl ⟨⟨13, 15, ln, ld⟩, by simp, .inl rfl⟩
    · exact .inl ⟨⟨14, 16, gn, gd⟩, by simp, .inl rfl⟩
    · exact .inl ⟨⟨13, 15, ln, ld⟩, by simp, .inr rfl⟩
    · exact .inl ⟨⟨14, 16, gn, gd⟩, by simp, .inr rfl⟩
    · cases ho; exact .inr ⟨⟨13, 15, ln, ld⟩, by simp, (show 15 ∈ _ by decide)⟩
  · intro i hi he
    have he' : i = 0 ∨ i = 1 ∨ i = 2 ∨ i = 3 ∨ i = 4 ∨ i = 5 ∨ i = 6 ∨ i = 7 ∨ i = 8 ∨ i = 9 ∨ i = 10 ∨ i = 13 ∨ i = 14 ∨ i = 15 ∨ i = 16 := by simpa using he
    rcases he' with rfl | rfl | rfl | rfl | rfl | rfl | rfl | rfl | rfl | rfl | rfl | rfl | rfl | rfl | rfl
    · exact .inr (fun q hq os hos => by
        simp only [List.mem_cons, List.not_mem_nil, or_false] at hq
        rcases hq with rfl | rfl <;> (dsimp only at hos; have ho2 : _ = os := Option.some.inj hos; subst ho2; decide))
    · exact .inr (fun q hq os hos => by
        simp only [List.mem_cons, List.not_mem_nil, or_false] at hq
        rcases hq with rfl | rfl <;> (dsimp only at hos; have ho2 : _ = os := Option.some.inj hos; subst ho2; decide))
    · exact .inr (fun q hq os hos => by
        simp only [List.mem_cons, List.not_mem_nil, or_false] at hq
        rcases hq with rfl | rfl <;> (dsimp only at hos; have ho2 : _ = os := Option.some.inj hos; subst ho2; decide))
    · exact .inr (fun q hq os hos => by
        simp only [List.mem_cons, List.not_mem_nil, or_false] at hq
        rcases hq with rfl | rfl <;> (dsimp only at hos; have ho2 : _ = os := Option.some.inj hos; subst ho2; decide))
    · exact .inr (fun q hq os hos => by
        simp only [List.mem_cons, List.not_mem_nil, or_false] at hq
        rcases hq with rfl | rfl <;> (dsimp only at hos; have ho2 : _ = os := Option.some.inj hos; subst ho2; decide))
    · exact .inr (fun q hq os hos => by
        simp only [List.mem_cons, List.not_mem_nil, or_false] at hq
        rcases hq with rfl | rfl <;> (dsimp only at hos; have ho2 : _ = os := Option.some.inj hos; subst ho2; decide))
    · exact .inr (fun q hq os hos => by
        simp only [List.mem_cons, List.not_mem_nil, or_false] at hq
        rcases hq with rfl | rfl <;> (dsimp only at hos; have ho2 : _ = os := Option.some.inj hos; subst ho2; decide))
    · exact .inr (fun q hq os hos => by
        simp only [List.mem_cons, List.not_mem_nil, or_false] at hq
        rcases hq with rfl | rfl <;> (dsimp only at hos; have ho2 : _ = os := Option.some.inj hos; subst ho2; decide))
    · exact .inr (fun q hq os hos => by
        simp only [List.mem_cons, List.not_mem_nil, or_false] at hq
        rcases hq with rfl | rfl <;> (dsimp only at hos; have ho2 : _ = os := Option.some.inj hos; subst ho2; decide))
    · exact .inr (fun q hq os hos => by
        simp only [List.mem_cons, List.not_mem_nil, or_false] at hq
        rcases hq with rfl | rfl <;> (dsimp only at hos; have ho2 : _ = os := Option.some.inj hos; subst ho2; decide))
    · exact .inr (fun q hq os hos => by
        simp only [List.mem_cons, List.not_mem_nil, or_false] at hq
        rcases hq with rfl | rfl <;> (dsimp only at hos; have ho2 : _ = os := Option.some.inj hos; subst ho2; decide))
    · exact .inl ⟨⟨13, 15, ln, ld⟩, by simp, .inl rfl⟩
    · exact .inl ⟨⟨14, 16, gn, gd⟩, by simp, .inl rfl⟩
    · exact .inl ⟨⟨13, 15, ln, ld⟩, by simp, .inr rfl⟩
    · exact .inl ⟨⟨14, 16, gn, gd⟩, by simp, .inr rfl⟩
  · intro j v w1' w2' h
    match j, h with
    | 0, h => exact h
    | 1, h => exact h
    | 2, h => exact h
    | 3, h => exact trivial
    | 4, h => exact h
    | 5, h => exact h
    | 6, h => exact trivial
    | 7, h => exact h
    | 8, h => exact h
    | 9, h => exact h
    | 10, h => exact h
    | 11, h => exact h
    | 12, h => exact h
    | 13, h => exact trivial
    | 14, h => exact trivial
    | 15, h => exact trivial
    | 16, h => exact trivial
    | 17, h => exact h
    | _ + 18, _ => exact trivial
  · intro j v w1' w2' h
    match j, h with
    | 0, h => exact h
    | 1, h => exact h
    | 2, h => exact h
    | 3, h => exact trivial
    | 4, h => exact h
    | 5, h => exact h
    | 6, h => exact trivial
    | 7, h => exact h
    | 8, h => exact h
    | 9, h => exact h
    | 10, h => exact h
    | 11, h => exact h
    | 12, h => exact h
    | 13, h => exact trivial
    | 14, h => exact trivial
    | 15, h => exact trivial
    | 16, h => exact trivial
    | 17, h => exact h
    | _ + 18, _ => exact trivial
  · refine ⟨?_, ?_, ?_, ?_, ?_, ?_, ?_, ?_, ?_, ?_, ?_, ?_, ?_, ?_, ?_, ?_, ?_, ?_, trivial⟩
    · intro _ ac wx hf hb hd -- 0
      have f3 : ac.tmps[3]?.getD undef = .pointer (some ⟨w.heap.size, 0, none⟩) := by rw [← Array.getD_eq_getD_getElem?]; exact hf.same 3 (by decide)
      obtain ⟨c0, c1, c2, c3, c4, c5, c6, c7⟩ := HC2.out wx hb
      exact rstep_eq (by simp [execOp, Act.eval, f3, c0, c1, c2, c3, go_sem]) rfl
    · intro _ ac wx hf hb hd -- 1
      have f4 : ac.tmps[4]?.getD undef = .pointer (some ⟨w.heap.size + 1, 0, none⟩) := by rw [← Array.getD_eq_getD_getElem?]; exact hf.same 4 (by decide)
      exact rstep_eq (by simp [execOp, Act.eval, f4, go_sem]) rfl
    · intro _ ac wx hf hb hd -- 2
      have d1 : ac.tmps[29]?.getD undef = .pointer (some ⟨w.heap.size + 1, 0, none⟩) := by rw [← Array.getD_eq_getD_getElem?]; exact hd 1 (by decide)
      obtain ⟨c0, c1, c2, c3, c4, c5, c6, c7⟩ := HC2.out wx hb
      exact rstep_eq (by simp [execOp, Act.eval, d1, c4, c5, go_sem]) rfl
    · intro _ ac wx hf hb hd -- 3
      have d2 : ac.tmps[30]?.getD undef = .agg #[.slice A n c, .int .i64 S] := by rw [← Array.getD_eq_getD_getElem?]; exact hd 2 (by decide)
      exact rstep_copied (A := A) (c := c) (by omega) (HR.out.below (HW2.out.trans (hb.mono HW2.out.size))) (by simp [Act.eval, d2, buV, go_sem]) rfl
    · intro _ ac wx hf hb hd -- 4
      have f4 : ac.tmps[4]?.getD undef = .pointer (some ⟨w.heap.size + 1, 0, none⟩) := by rw [← Array.getD_eq_getD_getElem?]; exact hf.same 4 (by decide)
      exact rstep_eq (by simp [execOp, Act.eval, f4, go_sem]) rfl
    · intro _ ac wx hf hb hd -- 5
      have d4 : ac.tmps[32]?.getD undef = .pointer (some ⟨w.heap.size + 1, 2, none⟩) := by rw [← Array.getD_eq_getD_getElem?]; exact hd 4 (by decide)
      obtain ⟨c0, c1, c2, c3, c4, c5, c6, c7⟩ := HC2.out wx hb
      exact rstep_eq (by simp [execOp, Act.eval, d4, c6, c7, go_sem]) rfl
    · intro _ ac wx hf hb hd -- 6
      have d5 : ac.tmps[33]?.getD undef = .agg #[.slice A' n' c', .int .i64 T] := by rw [← Array.getD_eq_getD_getElem?]; exact hd 5 (by decide)
      exact rstep_copied (A := A') (c := c') (by omega) (HR'.out.below (HW2.out.trans (hb.mono HW2.out.size))) (by simp [Act.eval, d5, buV, go_sem]) rfl
    · intro _ ac wx hf hb hd -- 7
      have f2 : ac.tmps[2]?.getD undef = .int .i64 x := by rw [← Array.getD_eq_getD_getElem?]; exact hf.same 2 (by decide)
      exact rstep_eq (by simp [execOp, Act.eval, f2, go_sem]) rfl
    · intro _ ac wx hf hb hd -- 8
      have d0 : ac.tmps[28]?.getD undef = .agg #[.int .i64 s, .int .i64 ww, .int .i64 t, .int .i64 en] := by rw [← Array.getD_eq_getD_getElem?]; exact hd 0 (by decide)
      obtain ⟨A3, cc3, d3, r3, -⟩ : ∃ A c, ac.tmps[31]?.getD undef = buV A n c S ∧ PtRow wx A n l ∧ _ := by rw [← Array.getD_eq_getD_getElem?]; exact hd 3 (by decide)
      obtain ⟨A6, cc6, d6, r6, -⟩ : ∃ A c, ac.tmps[34]?.getD undef = buV A n' c T ∧ PtRow wx A n' m ∧ _ := by rw [← Array.getD_eq_getD_getElem?]; exact hd 6 (by decide)
      have d7 : ac.tmps[35]?.getD undef = .int .i64 x := by rw [← Array.getD_eq_getD_getElem?]; exact hd 7 (by decide)
      refine rstep_call (f := 47) (args := #[.agg #[.int .i64 s, .int .i64 ww, .int .i64 t, .int .i64 en], buV A3 n cc3 S, buV A6 n' cc6 T, .int .i64 x]) (by simp [Act.eval, d0, d3, d6, d7, go_sem]) ?_ rfl
      exact HMR.out _ _ _ _ _ r3 r6
    · intro _ ac wx hf hb hd -- 9
      have d8 : ac.tmps[36]?.getD undef = .tuple #[.agg #[.int .i64 ln, .int .i64 ld], .agg #[.int .i64 gn, .int .i64 gd], .int .i64 eh] := by rw [← Array.getD_eq_getD_getElem?]; exact hd 8 (by decide)
      exact rstep_eq (by simp [execOp, Act.eval, d8, go_sem]) rfl
    · intro _ ac wx hf hb hd -- 10
      have d9 : ac.tmps[27]?.getD undef = .tuple #[.agg #[.int .i64 ln, .int .i64 ld], .agg #[.int .i64 gn, .int .i64 gd], .int .i64 eh] := by rw [← Array.getD_eq_getD_getElem?]; exact hd 9 (by decide)
      exact rstep_eq (by simp [execOp, Act.eval, d9, go_sem]) rfl
    · intro _ ac wx hf hb hd -- 11
      have d9 : ac.tmps[27]?.getD undef = .tuple #[.agg #[.int .i64 ln, .int .i64 ld], .agg #[.int .i64 gn, .int .i64 gd], .int .i64 eh] := by rw [← Array.getD_eq_getD_getElem?]; exact hd 9 (by decide)
      exact rstep_eq (by simp [execOp, Act.eval, d9, go_sem]) rfl
    · intro _ ac wx hf hb hd -- 12
      have d9 : ac.tmps[27]?.getD undef = .tuple #[.agg #[.int .i64 ln, .int .i64 ld], .agg #[.int .i64 gn, .int .i64 gd], .int .i64 eh] := by rw [← Array.getD_eq_getD_getElem?]; exact hd 9 (by decide)
      exact rstep_eq (by simp [execOp, Act.eval, d9, go_sem]) rfl
    · intro h; cases h
    · intro h; cases h
    · intro h; cases h
    · intro h; cases h
    · intro h; cases h
  · refine ⟨?_, ?_, ?_, ?_, ?_, ?_, ?_, ?_, ?_, ?_, ?_, ?_, ?_, ?_, ?_, ?_, ?_, ?_, trivial⟩
    · intro h; cases h
    · intro h; cases h
    · intro h; cases h
    · intro h; cases h
    · intro h; cases h
    · intro h; cases h
    · intro h; cases h
    · intro h; cases h
    · intro h; cases h
    · intro h; cases h
    · intro h; cases h
    · intro _ ac wx hf hb hd -- 11
      have d9 : ac.tmps[27]?.getD undef = .tuple #[.agg #[.int .i64 ln, .int .i64 ld], .agg #[.int .i64 gn, .int .i64 gd], .int .i64 eh] := by rw [← Array.getD_eq_getD_getElem?]; exact hd 9 (by decide)
      exact rstep_eq (by simp [execOp, Act.eval, d9, go_sem]) rfl
    · intro _ ac wx hf hb hd -- 12
      have d9 : ac.tmps[27]?.getD undef = .tuple #[.agg #[.int .i64 ln, .int .i64 ld], .agg #[.int .i64 gn, .int .i64 gd], .int .i64 eh] := by rw [← Array.getD_eq_getD_getElem?]; exact hd 9 (by decide)
      exact rstep_eq (by simp [execOp, Act.eval, d9, go_sem]) rfl
    · intro h; cases h
    · intro h; cases h
    · intro h; cases h
    · intro h; cases h
    · intro _ ac wx hf hb hd -- 17
      have d12 : ac.tmps[39]?.getD undef = .int .i64 eh := by rw [← Array.getD_eq_getD_getElem?]; exact hd 12 (by decide)
      exact rstep_eq (by simp [execOp, Act.eval, d12, go_sem]) rfl
  · intro q hq o ac wx ho
    simp only [List.mem_cons, List.not_mem_nil, or_false] at hq
    rcases hq with rfl | rfl <;> (cases ho; simp [execOp, go_sem])
  · intro q hq o ac wx bb ho hf hp z0 z1 y0 y1 hd
    simp only [List.mem_cons, List.not_mem_nil, or_false] at hq
    rcases hq with rfl | rfl
    · dsimp only at ho
      have ho2 : _ = o := Option.some.inj ho
      subst ho2
      clear ho
      have dp : ac.tmps[7]?.getD undef = .pointer (some ⟨bb, 0, none⟩) := by rw [← Array.getD_eq_getD_getElem?]; exact hp
      have dv : ac.tmps[37]?.getD undef = .agg #[.int .i64 ln, .int .i64 ld] := by rw [← Array.getD_eq_getD_getElem?]; exact hd 10 (by decide)
      simp [Oper.wp, Oper.upon, execOp, Act.eval, go_sem, dp, dv, z0, z1, y0, y1]
    · dsimp only at ho
      have ho2 : _ = o := Option.some.inj ho
      subst ho2
      clear ho
      have dp : ac.tmps[8]?.getD undef = .pointer (some ⟨bb, 0, none⟩) := by rw [← Array.getD_eq_getD_getElem?]; exact hp
      have dv : ac.tmps[38]?.getD undef = .agg #[.int .i64 gn, .int .i64 gd] := by rw [← Array.getD_eq_getD_getElem?]; exact hd 11 (by decide)
      simp [Oper.wp, Oper.upon, execOp, Act.eval, go_sem, dp, dv, z0, z1, y0, y1]
  rintro ⟨⟨ll⟩, df⟩ w3 hf hbw3 hall ⟨blkf, hq1, hq2⟩
  have hdf : df = [] := hf.defers
  subst hdf
  have hsz : ll.length = 122 := hf.size
  obtain ⟨x0, ll0, rfl, hsz0⟩ := cons_of hsz
  obtain ⟨x1, ll1, rfl, hsz1⟩ := cons_of hsz0
  obtain ⟨x2, ll2, rfl, hsz2⟩ := cons_of hsz1
  obtain ⟨x3, ll3, rfl, hsz3⟩ := cons_of hsz2
  obtain ⟨x4, ll4, rfl, hsz4⟩ := cons_of hsz3
  obtain ⟨x5, ll5, rfl, hsz5⟩ := cons_of hsz4
  obtain ⟨x6, ll6, rfl, hsz6⟩ := cons_of hsz5
  obtain ⟨x7, ll7, rfl, hsz7⟩ := cons_of hsz6
  obtain ⟨x8, ll8, rfl, hsz8⟩ := cons_of hsz7
  obtain ⟨x9, ll9, rfl, hsz9⟩ := cons_of hsz8
  obtain ⟨x10, ll10, rfl, hsz10⟩ := cons_of hsz9
  obtain ⟨x11, ll11, rfl, hsz11⟩ := cons_of hsz10
  obtain ⟨x12, ll12, rfl, hsz12⟩ := cons_of hsz11
  obtain ⟨x13, ll13, rfl, hsz13⟩ := cons_of hsz12
  obtain ⟨x14, ll14, rfl, hsz14⟩ := cons_of hsz13
  obtain ⟨x15, ll15, rfl, hsz15⟩ := cons_of hsz14
  obtain ⟨x16, ll16, rfl, hsz16⟩ := cons_of hsz15
  obtain ⟨x17, ll17, rfl, hsz17⟩ := cons_of hsz16
  obtain ⟨x18, ll18, rfl, hsz18⟩ := cons_of hsz17
  obtain ⟨x19, ll19, rfl, hsz19⟩ := cons_of hsz18
  obtain ⟨x20, ll20, rfl, hsz20⟩ := cons_of hsz19
  obtain ⟨x21, ll21, rfl, hsz21⟩ := cons_of hsz20
  obtain ⟨x22, ll22, rfl, hsz22⟩ := cons_of hsz21
  obtain ⟨x23, ll23, rfl, hsz23⟩ := cons_of hsz22
  obtain ⟨x24, ll24, rfl, hsz24⟩ := cons_of hsz23
  obtain ⟨x25, ll25, rfl, hsz25⟩ := cons_of hsz24
  obtain ⟨x26, ll26, rfl, hsz26⟩ := cons_of hsz25
  obtain ⟨x27, ll27, rfl, hsz27⟩ := cons_of hsz26
  obtain ⟨x28, ll28, rfl, hsz28⟩ := cons_of hsz27
  obtain ⟨x29, ll29, rfl, hsz29⟩ := cons_of hsz28
  obtain ⟨x30, ll30, rfl, hsz30⟩ := cons_of hsz29
  obtain ⟨x31, ll31, rfl, hsz31⟩ := cons_of hsz30
  obtain ⟨x32, ll32, rfl, hsz32⟩ := cons_of hsz31
  obtain ⟨x33, ll33, rfl, hsz33⟩ := cons_of hsz32
  obtain ⟨x34, ll34, rfl, hsz34⟩ := cons_of hsz33
  obtain ⟨x35, ll35, rfl, hsz35⟩ := cons_of hsz34
  obtain ⟨x36, ll36, rfl, hsz36⟩ := cons_of hsz35
  obtain ⟨x37, ll37, rfl, hsz37⟩ := cons_of hsz36
  obtain ⟨x38, ll38, rfl, hsz38⟩ := cons_of hsz37
  obtain ⟨x39, ll39, rfl, hsz39⟩ := cons_of hsz38
  obtain ⟨x40, ll40, rfl, hsz40⟩ := cons_of hsz39
  obtain ⟨x41, ll41, rfl, hsz41⟩ := cons_of hsz40
  obtain ⟨x42, ll42, rfl, hsz42⟩ := cons_of hsz41
  obtain ⟨x43, ll43, rfl, hsz43⟩ := cons_of hsz42
  obtain ⟨x44, ll44, rfl, hsz44⟩ := cons_of hsz43
  obtain ⟨x45, ll45, rfl, hsz45⟩ := cons_of hsz44
  obtain ⟨x46, ll46, rfl, hsz46⟩ := cons_of hsz45
  obtain ⟨x47, ll47, rfl, hsz47⟩ := cons_of hsz46
  obtain ⟨x48, ll48, rfl, hsz48⟩ := cons_of hsz47
  obtain ⟨x49, ll49, rfl, hsz49⟩ := cons_of hsz48
  obtain ⟨x50, ll50, rfl, hsz50⟩ := cons_of hsz49
  obtain ⟨x51, ll51, rfl, hsz51⟩ := cons_of hsz50
  obtain ⟨x52, ll52, rfl, hsz52⟩ := cons_of hsz51
  obtain ⟨x53, ll53, rfl, hsz53⟩ := cons_of hsz52
  obtain ⟨x54, ll54, rfl, hsz54⟩ := cons_of hsz53
  obtain ⟨x55, ll55, rfl, hsz55⟩ := cons_of hsz54
  obtain ⟨x56, ll56, rfl, hsz56⟩ := cons_of hsz55
  obtain ⟨x57, ll57, rfl, hsz57⟩ := cons_of hsz56
  obtain ⟨x58, ll58, rfl, hsz58⟩ := cons_of hsz57
  obtain ⟨x59, ll59, rfl, hsz59⟩ := cons_of hsz58
  obtain ⟨x60, ll60, rfl, hsz60⟩ := cons_of hsz59
  obtain ⟨x61, ll61, rfl, hsz61⟩ := cons_of hsz60
  obtain ⟨x62, ll62, rfl, hsz62⟩ := cons_of hsz61
  obtain ⟨x63, ll63, rfl, hsz63⟩ := cons_of hsz62
  obtain ⟨x64, ll64, rfl, hsz64⟩ := cons_of hsz63
  obtain ⟨x65, ll65, rfl, hsz65⟩ := cons_of hsz64
  obtain ⟨x66, ll66, rfl, hsz66⟩ := cons_of hsz65
  obtain ⟨x67, ll67, rfl, hsz67⟩ := cons_of hsz66
  obtain ⟨x68, ll68, rfl, hsz68⟩ := cons_of hsz67
  obtain ⟨x69, ll69, rfl, hsz69⟩ := cons_of hsz68
  obtain ⟨x70, ll70, rfl, hsz70⟩ := cons_of hsz69
  obtain ⟨x71, ll71, rfl, hsz71⟩ := cons_of hsz70
  obtain ⟨x72, ll72, rfl, hsz72⟩ := cons_of hsz71
  obtain ⟨x73, ll73, rfl, hsz73⟩ := cons_of hsz72
  obtain ⟨x74, ll74, rfl, hsz74⟩ := cons_of hsz73
  obtain ⟨x75, ll75, rfl, hsz75⟩ := cons_of hsz74
  obtain ⟨x76, ll76, rfl, hsz76⟩ := cons_of hsz75
  obtain ⟨x77, ll77, rfl, hsz77⟩ := cons_of hsz76
  obtain ⟨x78, ll78, rfl, hsz78⟩ := cons_of hsz77
  obtain ⟨x79, ll79, rfl, hsz79⟩ := cons_of hsz78
  obtain ⟨x80, ll80, rfl, hsz80⟩ := cons_of hsz79
  obtain ⟨x81, ll81, rfl, hsz81⟩ := cons_of hsz80
  obtain ⟨x82, ll82, rfl, hsz82⟩ := cons_of hsz81
  obtain ⟨x83, ll83, rfl, hsz83⟩ := cons_of hsz82
  obtain ⟨x84, ll84, rfl, hsz84⟩ := cons_of hsz83
  obtain ⟨x85, ll85, rfl, hsz85⟩ := cons_of hsz84
  obtain ⟨x86, ll86, rfl, hsz86⟩ := cons_of hsz85
  obtain ⟨x87, ll87, rfl, hsz87⟩ := cons_of hsz86
  obtain ⟨x88, ll88, rfl, hsz88⟩ := cons_of hsz87
  obtain ⟨x89, ll89, rfl, hsz89⟩ := cons_of hsz88
  obtain ⟨x90, ll90, rfl, hsz90⟩ := cons_of hsz89
  obtain ⟨x91, ll91, rfl, hsz91⟩ := cons_of hsz90
  obtain ⟨x92, ll92, rfl, hsz92⟩ := cons_of hsz91
  obtain ⟨x93, ll93, rfl, hsz93⟩ := cons_of hsz92
  obtain ⟨x94, ll94, rfl, hsz94⟩ := cons_of hsz93
  obtain ⟨x95, ll95, rfl, hsz95⟩ := cons_of hsz94
  obtain ⟨x96, ll96, rfl, hsz96⟩ := cons_of hsz95
  obtain ⟨x97, ll97, rfl, hsz97⟩ := cons_of hsz96
  obtain ⟨x98, ll98, rfl, hsz98⟩ := cons_of hsz97
  obtain ⟨x99, ll99, rfl, hsz99⟩ := cons_of hsz98
  obtain ⟨x100, ll100, rfl, hsz100⟩ := cons_of hsz99
  obtain ⟨x101, ll101, rfl, hsz101⟩ := cons_of hsz100
  obtain ⟨x102, ll102, rfl, hsz102⟩ := cons_of hsz101
  obtain ⟨x103, ll103, rfl, hsz103⟩ := cons_of hsz102
  obtain ⟨x104, ll104, rfl, hsz104⟩ := cons_of hsz103
  obtain ⟨x105, ll105, rfl, hsz105⟩ := cons_of hsz104
  obtain ⟨x106, ll106, rfl, hsz106⟩ := cons_of hsz105
  obtain ⟨x107, ll107, rfl, hsz107⟩ := cons_of hsz106
  obtain ⟨x108, ll108, rfl, hsz108⟩ := cons_of hsz107
  obtain ⟨x109, ll109, rfl, hsz109⟩ := cons_of hsz108
  obtain ⟨x110, ll110, rfl, hsz110⟩ := cons_of hsz109
  obtain ⟨x111, ll111, rfl, hsz111⟩ := cons_of hsz110
  obtain ⟨x112, ll112, rfl, hsz112⟩ := cons_of hsz111
  obtain ⟨x113, ll113, rfl, hsz113⟩ := cons_of hsz112
  obtain ⟨x114, ll114, rfl, hsz114⟩ := cons_of hsz113
  obtain ⟨x115, ll115, rfl, hsz115⟩ := cons_of hsz114
  obtain ⟨x116, ll116, rfl, hsz116⟩ := cons_of hsz115
  obtain ⟨x117, ll117, rfl, hsz117⟩ := cons_of hsz116
  obtain ⟨x118, ll118, rfl, hsz118⟩ := cons_of hsz117
  obtain ⟨x119, ll119, rfl, hsz119⟩ := cons_of hsz118
  obtain ⟨x120, ll120, rfl, hsz120⟩ := cons_of hsz119
  obtain ⟨x121, ll121, rfl, hsz121⟩ := cons_of hsz120
  obtain rfl := List.eq_nil_of_length_eq_zero hsz121
  obtain rfl : x2 = .int .i64 x := hf.same 2 (by decide)
  obtain rfl : x3 = .pointer (some ⟨w.heap.size, 0, none⟩) := hf.same 3 (by decide)
  obtain rfl : x4 = .pointer (some ⟨w.heap.size + 1, 0, none⟩) := hf.same 4 (by decide)
  obtain rfl : x9 = .int .i64 eh := hall 17 9 rfl
  obtain rfl : x27 = .tuple #[.agg #[.int .i64 ln, .int .i64 ld], .agg #[.int .i64 gn, .int .i64 gd], .int .i64 eh] := hall 9 27 rfl
  obtain rfl : x28 = .agg #[.int .i64 s, .int .i64 ww, .int .i64 t, .int .i64 en] := hall 0 28 rfl
  obtain rfl : x29 = .pointer (some ⟨w.heap.size + 1, 0, none⟩) := hall 1 29 rfl
  obtain rfl : x30 = .agg #[.slice A n c, .int .i64 S] := hall 2 30 rfl
  obtain rfl : x32 = .pointer (some ⟨w.heap.size + 1, 2, none⟩) := hall 4 32 rfl
  obtain rfl : x33 = .agg #[.slice A' n' c', .int .i64 T] := hall 5 33 rfl
  obtain rfl : x35 = .int .i64 x := hall 7 35 rfl
  obtain rfl : x36 = .tuple #[.agg #[.int .i64 ln, .int .i64 ld], .agg #[.int .i64 gn, .int .i64 gd], .int .i64 eh] := hall 8 36 rfl
  obtain rfl : x37 = .agg #[.int .i64 ln, .int .i64 ld] := hall 10 37 rfl
  obtain rfl : x38 = .agg #[.int .i64 gn, .int .i64 gd] := hall 11 38 rfl
  obtain rfl : x39 = .int .i64 eh := hall 12 39 rfl
  obtain ⟨pA, hxA, plA, psA, paA, pcA⟩ : ∃ blk, x7 = .pointer (some ⟨blk, 0, none⟩) ∧ w2.heap.size ≤ blk ∧ blk < w3.heap.size ∧ w3.cell? ⟨blk, 0, none⟩ = some (.int .i64 ln) ∧ w3.cell? ⟨blk, 1, none⟩ = some (.int .i64 ld) := by
    obtain ⟨g0, g1, g2, -, -, g5, g6⟩ := hq1 ⟨13, 15, ln, ld⟩ (by simp) rfl
    exact ⟨blkf 13, g0, g1, g2, g5, g6⟩
  subst hxA
  obtain ⟨pB, hxB, plB, psB, paB, pcB⟩ : ∃ blk, x8 = .pointer (some ⟨blk, 0, none⟩) ∧ w2.heap.size ≤ blk ∧ blk < w3.heap.size ∧ w3.cell? ⟨blk, 0, none⟩ = some (.int .i64 gn) ∧ w3.cell? ⟨blk, 1, none⟩ = some (.int .i64 gd) := by
    obtain ⟨g0, g1, g2, -, -, g5, g6⟩ := hq1 ⟨14, 16, gn, gd⟩ (by simp) rfl
    exact ⟨blkf 14, g0, g1, g2, g5, g6⟩
  subst hxB
  clear hall hf hq1 hq2 blkf
  clear hsz hsz0 hsz1 hsz2 hsz3 hsz4 hsz5 hsz6 hsz7 hsz8 hsz9 hsz10 hsz11 hsz12 hsz13 hsz14 hsz15 hsz16 hsz17 hsz18 hsz19 hsz20 hsz21 hsz22 hsz23 hsz24 hsz25 hsz26 hsz27 hsz28 hsz29 hsz30 hsz31 hsz32 hsz33 hsz34 hsz35 hsz36 hsz37 hsz38 hsz39 hsz40 hsz41 hsz42 hsz43 hsz44 hsz45 hsz46 hsz47 hsz48 hsz49 hsz50 hsz51 hsz52 hsz53 hsz54 hsz55 hsz56 hsz57 hsz58 hsz59 hsz60 hsz61 hsz62 hsz63 hsz64 hsz65 hsz66 hsz67 hsz68 hsz69 hsz70 hsz71 hsz72 hsz73 hsz74 hsz75 hsz76 hsz77 hsz78 hsz79 hsz80 hsz81 hsz82 hsz83 hsz84 hsz85 hsz86 hsz87 hsz88 hsz89 hsz90 hsz91 hsz92 hsz93 hsz94 hsz95 hsz96 hsz97 hsz98 hsz99 hsz100 hsz101 hsz102 hsz103 hsz104 hsz105 hsz106 hsz107 hsz108 hsz109 hsz110 hsz111 hsz112 hsz113 hsz114 hsz115 hsz116 hsz117 hsz118 hsz119 hsz120 hsz121
  have H3 := Lib.hid (H2.out.trans (hbw3.mono H2.out.size))
  clear hbw3 plA plB
  have la : pA < w3.heap.size := World.block_lt_of_cell? w3 _ paA
  have lb : pB < w3.heap.size := World.block_lt_of_cell? w3 _ paB
  obtain ⟨k0, k1, k2, k3, k4, k5, k6, k7⟩ := HC.out w3 H3.out
  go_upto_region 7 with (go_at_call 48; (refine Calls.mono (HCR.out _ (HB0.out.trans (H3.out.mono HB0.out.size))) ?_); rintro e w6 ⟨rfl, hb6⟩; have H6 := Lib.hid (H3.out.trans (hb6.mono H3.out.size)); have r0 := ((bcell hb6).1 _ _ la).trans paA; have r1 := ((bcell hb6).1 _ _ la).trans pcA; have r2 := ((bcell hb6).1 _ _ lb).trans paB; have r3 := ((bcell hb6).1 _ _ lb).trans pcB; clear hb6)
  clear paA pcA paB pcB psA psB la lb k0 k1 k2 k3 k4 k5 k6 k7
  have lw3 : pA < w6.heap.size := World.block_lt_of_cell? w6 _ r0
  have lw4 : pB < w6.heap.size := World.block_lt_of_cell? w6 _ r2
  have NO := fun wx b (h0 : World.cell? wx ⟨b, 0, none⟩ = some (.int .i64 0)) (h1 : World.cell? wx ⟨b, 1, none⟩ = some (.int .i64 0)) (h2 : World.cell? wx ⟨b, 2, none⟩ = some (.int .i64 0)) (h3 : World.cell? wx ⟨b, 3, none⟩ = some (.int .i64 0)) => Lib.hid (none_two (c := 2) wx h0 h1 h2 h3)
  obtain ⟨m0, m1, m2, m3, m4, m5, m6, m7⟩ := HC.out w6 H6.out
  rcases HH.out with ⟨hdz, rfl, rfl, rfl, rfl, rfl⟩ | ⟨rfl, rfl, rfl, rfl, rfl, rfl, rfl⟩ | ⟨rfl, rfl, rfl⟩
  · have hde : (eh == 0) = false := by simpa using hdz
    go_wp2_with (go_at_call 27; (refine Calls.mono (NO _ _ (by simp [go_sem]) (by simp [go_sem]) (by simp [go_sem]) (by simp [go_sem])).out ?_); rintro e w7 ⟨rfl, rfl⟩)
    go_ret
    exact ⟨rfl, HB0.out.trans ((H6.out.alloc H6.out.size _).mono HB0.out.size)⟩
  · go_wp2_with (first | (go_at_call 32; (refine Calls.mono (HWI.out _) ?_); rintro e w9 ⟨rfl, rfl⟩) | (go_at_call 27; (refine Calls.mono (NO _ _ (by simp [go_sem]) (by simp [go_sem]) (by simp [go_sem]) (by simp [go_sem])).out ?_); rintro e w8 ⟨rfl, rfl⟩) | fail)
    go_ret
    exact ⟨rfl, HB0.out.trans ((H6.out.alloc H6.out.size _).mono HB0.out.size)⟩
  · have RG2 := Lib.hid (HRG.out rfl rfl)
    have N1 := Lib.hid (HM1.out rfl rfl)
    have N2 := Lib.hid (HM2.out rfl rfl)
    have Q1 := Lib.hid (HK1.out rfl rfl)
    have Q2 := Lib.hid (HK2.out rfl rfl)
    have Q3 := Lib.hid (HK3.out rfl rfl)
    have Q4 := Lib.hid (HK4.out rfl rfl)
    obtain ⟨⟨hk1, hk2⟩, hk3, hk4⟩ := HKK.out rfl rfl
    clear HRG HM1 HM2 HK1 HK2 HK3 HK4 HKK HCR HMR NO
    have H6W := Lib.hid (HB0.out.trans (H6.out.mono HB0.out.size))
    go_upto_region 12 with (first | (go_at_call 32; (refine Calls.mono (HWI.out _) ?_); rintro e w9 ⟨rfl, rfl⟩) | (go_at_call 49; (refine Calls.mono (RG2.out _ H6W.out) ?_); rintro e w8 ⟨rfl, hb8⟩; have H8 := Lib.hid hb8; clear hb8) | fail)
    obtain ⟨wz, hwz⟩ : ∃ wz, ((w8.alloc (.cells #[.int .i64 ln, .int .i64 ld] 30)).alloc (.cells #[.int .i64 gn, .int .i64 gd] 30)) = wz := ⟨_, rfl⟩
    have HZ : Hid (Below w6.heap.size w6 wz) := Lib.hid (by rw [← hwz]; exact (H8.out.alloc H8.out.size _).alloc (by have := H8.out.size; simp; omega) _)
    have u0 : wz.cell? ⟨w8.heap.size, 0, none⟩ = some (.int .i64 ln) := by rw [← hwz]; simp [go_sem]
    have u1 : wz.cell? ⟨w8.heap.size, 1, none⟩ = some (.int .i64 ld) := by rw [← hwz]; simp [go_sem]
    have u2 : wz.cell? ⟨w8.heap.size + 1, 0, none⟩ = some (.int .i64 gn) := by rw [← hwz]; simp [go_sem]
    have u3 : wz.cell? ⟨w8.heap.size + 1, 1, none⟩ = some (.int .i64 gd) := by rw [← hwz]; simp [go_sem]
    have v0 := ((bcell HZ.out).1 _ _ lw3).trans r0
    have v1 := ((bcell HZ.out).1 _ _ lw3).trans r1
    have v2 := ((bcell HZ.out).1 _ _ lw4).trans r2
    have v3 := ((bcell HZ.out).1 _ _ lw4).trans r3
    have HU := Lib.hid (And.intro (And.intro u0 u1) (And.intro u2 u3))
    have HV := Lib.hid (And.intro (And.intro v0 v1) (And.intro v2 v3))
    have i0 : w8.heap.size < wz.heap.size := World.block_lt_of_cell? wz _ u0
    have i1 : w8.heap.size + 1 < wz.heap.size := World.block_lt_of_cell? wz _ u2
    have i2 : pA < wz.heap.size := World.block_lt_of_cell? wz _ v0
    have i3 : pB < wz.heap.size := World.block_lt_of_cell? wz _ v2
    have HI := Lib.hid (And.intro (And.intro i0 i1) (And.intro i2 i3))
    have HZ2 := Lib.hid (H6.out.trans (HZ.out.mono H6.out.size))
    have HZW := Lib.hid (HB0.out.trans (HZ2.out.mono HB0.out.size))
    have HCZ := Lib.hid (fun wy (hy : Below wz.heap.size wz wy) => HC.out wy (HZ2.out.trans (hy.mono HZ2.out.size)))
    rw [hwz]
    clear hwz u0 u1 u2 u3 v0 v1 v2 v3 i0 i1 i2 i3 r0 r1 r2 r3 lw3 lw4 m0 m1 m2 m3 m4 m5 m6 m7
    refine wp_region_ptrs (t := 30) [76, 77, 78, 79, 80, 81, 82, 83, 84, 85, 13, 14, 121, 120] [⟨10, 12, mn, md⟩, ⟨11, 13, pn, pd⟩] [rEq (.agg #[.int .i64 s, .int .i64 ww, .int .i64 t, .int .i64 en]), rEq (.pointer (some ⟨w.heap.size + 1, 0, none⟩)), rEq (.agg #[.slice A n c, .int .i64 S]), rEq (.int .i64 x), rEq (.agg #[.int .i64 mn, .int .i64 md]), rEq (.agg #[.int .i64 s, .int .i64 ww, .int .i64 t, .int .i64 en]), rEq (.pointer (some ⟨w.heap.size + 1, 2, none⟩)), rEq (.agg #[.slice A' n' c', .int .i64 T]), rEq (.int .i64 x), rEq (.agg #[.int .i64 pn, .int .i64 pd]), (rAny), (rAny), (rAny), (rAny)] [rEq (.agg #[.int .i64 s, .int .i64 ww, .int .i64 t, .int .i64 en]), rEq (.pointer (some ⟨w.heap.size + 1, 0, none⟩)), rEq (.agg #[.slice A n c, .int .i64 S]), rEq (.int .i64 x), rEq (.agg #[.int .i64 mn, .int .i64 md]), rEq (.agg #[.int .i64 s, .int .i64 ww, .int .i64 t, .int .i64 en]), rEq (.pointer (some ⟨w.heap.size + 1, 2, none⟩)), rEq (.agg #[.slice A' n' c', .int .i64 T]), rEq (.int .i64 x), rEq (.agg #[.int .i64 pn, .int .i64 pd]), (rAny), (rAny), (rAny), (rAny)] [10, 11, 12, 13] [0, 1, 2, 3, 4, 9, 10, 11, 12, 13] (by kernel_rfl) (by kernel_rfl) (by decide) rfl ?_ ?_ ?_ ?_ ?_ ?_ ?_ ?_ ?_ ?_ (by simp)
    · refine ⟨fun i h1 h2 => ?_, fun q hq => ?_, fun q hq q' hq' h => ?_, fun q hq o ho => ?_, fun q hq => ?_⟩
      · have h3 : i = 12 ∨ i = 13 := by
          revert h2
          revert h1
          revert i
          decide +kernel
        rcases h3 with rfl | rfl
        · exact ⟨⟨10, 12, mn, md⟩, by simp, rfl⟩
        · exact ⟨⟨11, 13, pn, pd⟩, by simp, rfl⟩
      · simp only [List.mem_cons, List.not_mem_nil, or_false] at hq
        rcases hq with rfl | rfl
        · exact ⟨by kernel_rfl, by kernel_rfl, (show 10 < _ by decide +kernel)⟩
        · exact ⟨by kernel_rfl, by kernel_rfl, (show 11 < _ by decide +kernel)⟩
      · simp only [List.mem_cons, List.not_mem_nil, or_false] at hq
        simp only [List.mem_cons, List.not_mem_nil, or_false] at hq'
        rcases hq with rfl | rfl <;> rcases hq' with rfl | rfl <;> first | rfl | (exfalso; revert h; simp)
      · simp only [List.mem_cons, List.not_mem_nil, or_false] at hq
        rcases hq with rfl | rfl
        · dsimp only at ho
          have ho2 : _ = o := Option.some.inj ho
          subst ho2
          show 10 ∈ depsOf _
          decide
        · dsimp only at ho
          have ho2 : _ = o := Option.some.inj ho
          subst ho2
          show 11 ∈ depsOf _
          decide
      · simp only [List.mem_cons, List.not_mem_nil, or_false] at hq
        rcases hq with rfl | rfl <;> exact ⟨rfl, rfl, rfl⟩
    · intro i o ho he
      have he' : i = 10 ∨ i = 11 ∨ i = 12 ∨ i = 13 := by simpa using he
      rcases he' with rfl | rfl | rfl | rfl
      · exact .inl ⟨⟨10, 12, mn, md⟩, by simp, .inl rfl⟩
      · exact .inl ⟨⟨11, 13, pn, pd⟩, by simp, .inl rfl⟩
      · exact .inl ⟨⟨10, 12, mn, md⟩, by simp, .inr rfl⟩
      · exact .inl ⟨⟨11, 13, pn, pd⟩, by simp, .inr rfl⟩
    · intro i hi he
      have he' : i = 0 ∨ i = 1 ∨ i = 2 ∨ i = 3 ∨ i = 4 ∨ i = 9 ∨ i = 10 ∨ i = 11 ∨ i = 12 ∨ i = 13 := by simpa using he
      rcases he' with rfl | rfl | rfl | rfl | rfl | rfl | rfl | rfl | rfl | rfl
      · exact .inr (fun q hq os hos => by
          simp only [List.mem_cons, List.not_mem_nil, or_false] at hq
          rcases hq with rfl | rfl <;> (dsimp only at hos; have ho2 : _ = os := Option.some.inj hos; subst ho2; decide))
      · exact .inr (fun q hq os hos => by
          simp only [List.mem_cons, List.not_mem_nil, or_false] at hq
          rcases hq with rfl | rfl <;> (dsimp only at hos; have ho2 : _ = os := Option.some.inj hos; subst ho2; decide))
      · exact .inr (fun q hq os hos => by
          simp only [List.mem_cons, List.not_mem_nil, or_false] at hq
          rcases hq with rfl | rfl <;> (dsimp only at hos; have ho2 : _ = os := Option.some.inj hos; subst ho2; decide))
      · exact .inr (fun q hq os hos => by
          simp only [List.mem_cons, List.not_mem_nil, or_false] at hq
          rcases hq with rfl | rfl <;> (dsimp only at hos; have ho2 : _ = os := Option.some.inj hos; subst ho2; decide))
      · exact .inr (fun q hq os hos => by
          simp only [List.mem_cons, List.not_mem_nil, or_false] at hq
          rcases hq with rfl | rfl <;> (dsimp only at hos; have ho2 : _ = os := Option.some.inj hos; subst ho2; decide))
      · exact .inr (fun q hq os hos => by
          simp only [List.mem_cons, List.not_mem_nil, or_false] at hq
          rcases hq with rfl | rfl <;> (dsimp only at hos; have ho2 : _ = os := Option.some.inj hos; subst ho2; decide))
      · exact .inl ⟨⟨10, 12, mn, md⟩, by simp, .inl rfl⟩
      · exact .inl ⟨⟨11, 13, pn, pd⟩, by simp, .inl rfl⟩
      · exact .inl ⟨⟨10, 12, mn, md⟩, by simp, .inr rfl⟩
      · exact .inl ⟨⟨11, 13, pn, pd⟩, by simp, .inr rfl⟩
    · intro j v w1' w2' h
      match j, h with
      | 0, h => exact h
      | 1, h => exact h
      | 2, h => exact h
      | 3, h => exact h
      | 4, h => exact h
      | 5, h => exact h
      | 6, h => exact h
      | 7, h => exact h
      | 8, h => exact h
      | 9, h => exact h
      | 10, h => exact trivial
      | 11, h => exact trivial
      | 12, h => exact trivial
      | 13, h => exact trivial
      | _ + 14, _ => exact trivial
    · intro j v w1' w2' h
      match j, h with
      | 0, h => exact h
      | 1, h => exact h
      | 2, h => exact h
      | 3, h => exact h
      | 4, h => exact h
      | 5, h => exact h
      | 6, h => exact h
      | 7, h => exact h
      | 8, h => exact h
      | 9, h => exact h
      | 10, h => exact trivial
      | 11, h => exact trivial
      | 12, h => exact trivial
      | 13, h => exact trivial
      | _ + 14, _ => exact trivial
    · refine ⟨?_, ?_, ?_, ?_, ?_, ?_, ?_, ?_, ?_, ?_, ?_, ?_, ?_, ?_, trivial⟩
      · intro _ ac wx hf hb hd -- 0
        have f3 : ac.tmps[3]?.getD undef = .pointer (some ⟨w.heap.size, 0, none⟩) := by rw [← Array.getD_eq_getD_getElem?]; exact hf.same 3 (by decide)
        obtain ⟨c0, c1, c2, c3, c4, c5, c6, c7⟩ := HCZ.out wx hb
        exact rstep_eq (by simp [execOp, Act.eval, f3, c0, c1, c2, c3, go_sem]) rfl
      · intro _ ac wx hf hb hd -- 1
        have f4 : ac.tmps[4]?.getD undef = .pointer (some ⟨w.heap.size + 1, 0, none⟩) := by rw [← Array.getD_eq_getD_getElem?]; exact hf.same 4 (by decide)
        exact rstep_eq (by simp [execOp, Act.eval, f4, go_sem]) rfl
      · intro _ ac wx hf hb hd -- 2
        have d1 : ac.tmps[77]?.getD undef = .pointer (some ⟨w.heap.size + 1, 0, none⟩) := by rw [← Array.getD_eq_getD_getElem?]; exact hd 1 (by decide)
        obtain ⟨c0, c1, c2, c3, c4, c5, c6, c7⟩ := HCZ.out wx hb
        exact rstep_eq (by simp [execOp, Act.eval, d1, c4, c5, go_sem]) rfl
      · intro _ ac wx hf hb hd -- 3
        have f2 : ac.tmps[2]?.getD undef = .int .i64 x := by rw [← Array.getD_eq_getD_getElem?]; exact hf.same 2 (by decide)
        exact rstep_eq (by simp [execOp, Act.eval, f2, go_sem]) rfl
      · intro _ ac wx hf hb hd -- 4
        have d0 : ac.tmps[76]?.getD undef = .agg #[.int .i64 s, .int .i64 ww, .int .i64 t, .int .i64 en] := by rw [← Array.getD_eq_getD_getElem?]; exact hd 0 (by decide)
        have d2 : ac.tmps[78]?.getD undef = .agg #[.slice A n c, .int .i64 S] := by rw [← Array.getD_eq_getD_getElem?]; exact hd 2 (by decide)
        have d3 : ac.tmps[79]?.getD undef = .int .i64 x := by rw [← Array.getD_eq_getD_getElem?]; exact hd 3 (by decide)
        refine rstep_call (f := 34) (args := #[.agg #[.int .i64 s, .int .i64 ww, .int .i64 t, .int .i64 en], .agg #[.slice A n c, .int .i64 S], .int .i64 x]) (by simp [Act.eval, d0, d2, d3, go_sem]) ?_ rfl
        exact N1.out wx (HZW.out.trans (hb.mono HZW.out.size))
      · intro _ ac wx hf hb hd -- 5
        have f3 : ac.tmps[3]?.getD undef = .pointer (some ⟨w.heap.size, 0, none⟩) := by rw [← Array.getD_eq_getD_getElem?]; exact hf.same 3 (by decide)
        obtain ⟨c0, c1, c2, c3, c4, c5, c6, c7⟩ := HCZ.out wx hb
        exact rstep_eq (by simp [execOp, Act.eval, f3, c0, c1, c2, c3, go_sem]) rfl
      · intro _ ac wx hf hb hd -- 6
        have f4 : ac.tmps[4]?.getD undef = .pointer (some ⟨w.heap.size + 1, 0, none⟩) := by rw [← Array.getD_eq_getD_getElem?]; exact hf.same 4 (by decide)
        exact rstep_eq (by simp [execOp, Act.eval, f4, go_sem]) rfl
      · intro _ ac wx hf hb hd -- 7
        have d6 : ac.tmps[82]?.getD undef = .pointer (some ⟨w.heap.size + 1, 2, none⟩) := by rw [← Array.getD_eq_getD_getElem?]; exact hd 6 (by decide)
        obtain ⟨c0, c1, c2, c3, c4, c5, c6, c7⟩ := HCZ.out wx hb
        exact rstep_eq (by simp [execOp, Act.eval, d6, c6, c7, go_sem]) rfl
      · intro _ ac wx hf hb hd -- 8
        have f2 : ac.tmps[2]?.getD undef = .int .i64 x := by rw [← Array.getD_eq_getD_getElem?]; exact hf.same 2 (by decide)
        exact rstep_eq (by simp [execOp, Act.eval, f2, go_sem]) rfl
      · intro _ ac wx hf hb hd -- 9
        have d5 : ac.tmps[81]?.getD undef = .agg #[.int .i64 s, .int .i64 ww, .int .i64 t, .int .i64 en] := by rw [← Array.getD_eq_getD_getElem?]; exact hd 5 (by decide)
        have d7 : ac.tmps[83]?.getD undef = .agg #[.slice A' n' c', .int .i64 T] := by rw [← Array.getD_eq_getD_getElem?]; exact hd 7 (by decide)
        have d8 : ac.tmps[84]?.getD undef = .int .i64 x := by rw [← Array.getD_eq_getD_getElem?]; exact hd 8 (by decide)
        refine rstep_call (f := 34) (args := #[.agg #[.int .i64 s, .int .i64 ww, .int .i64 t, .int .i64 en], .agg #[.slice A' n' c', .int .i64 T], .int .i64 x]) (by simp [Act.eval, d5, d7, d8, go_sem]) ?_ rfl
        exact N2.out wx (HZW.out.trans (hb.mono HZW.out.size))
      · intro h; cases h
      · intro h; cases h
      · intro h; cases h
      · intro h; cases h
    · refine ⟨?_, ?_, ?_, ?_, ?_, ?_, ?_, ?_, ?_, ?_, ?_, ?_, ?_, ?_, trivial⟩
      · intro h; cases h
      · intro h; cases h
      · intro h; cases h
      · intro h; cases h
      · intro h; cases h
      · intro _ ac wx hf hb hd -- 5
        have f3 : ac.tmps[3]?.getD undef = .pointer (some ⟨w.heap.size, 0, none⟩) := by rw [← Array.getD_eq_getD_getElem?]; exact hf.same 3 (by decide)
        obtain ⟨c0, c1, c2, c3, c4, c5, c6, c7⟩ := HCZ.out wx hb
        exact rstep_eq (by simp [execOp, Act.eval, f3, c0, c1, c2, c3, go_sem]) rfl
      · intro _ ac wx hf hb hd -- 6
        have f4 : ac.tmps[4]?.getD undef = .pointer (some ⟨w.heap.size + 1, 0, none⟩) := by rw [← Array.getD_eq_getD_getElem?]; exact hf.same 4 (by decide)
        exact rstep_eq (by simp [execOp, Act.eval, f4, go_sem]) rfl
      · intro _ ac wx hf hb hd -- 7
        have d6 : ac.tmps[82]?.getD undef = .pointer (some ⟨w.heap.size + 1, 2, none⟩) := by rw [← Array.getD_eq_getD_getElem?]; exact hd 6 (by decide)
        obtain ⟨c0, c1, c2, c3, c4, c5, c6, c7⟩ := HCZ.out wx hb
        exact rstep_eq (by simp [execOp, Act.eval, d6, c6, c7, go_sem]) rfl
      · intro _ ac wx hf hb hd -- 8
        have f2 : ac.tmps[2]?.getD undef = .int .i64 x := by rw [← Array.getD_eq_getD_getElem?]; exact hf.same 2 (by decide)
        exact rstep_eq (by simp [execOp, Act.eval, f2, go_sem]) rfl
      · intro h; cases h
      · intro h; cases h
      · intro h; cases h
      · intro h; cases h
      · intro h; cases h
    · intro q hq o ac wx ho
      simp only [List.mem_cons, List.not_mem_nil, or_false] at hq
      rcases hq with rfl | rfl <;> (cases ho; simp [execOp, go_sem])
    · intro q hq o ac wx bb ho hf hp z0 z1 y0 y1 hd
      simp only [List.mem_cons, List.not_mem_nil, or_false] at hq
      rcases hq with rfl | rfl
      · dsimp only at ho
        have ho2 : _ = o := Option.some.inj ho
        subst ho2
        clear ho
        have dp : ac.tmps[13]?.getD undef = .pointer (some ⟨bb, 0, none⟩) := by rw [← Array.getD_eq_getD_getElem?]; exact hp
        have dv : ac.tmps[80]?.getD undef = .agg #[.int .i64 mn, .int .i64 md] := by rw [← Array.getD_eq_getD_getElem?]; exact hd 4 (by decide)
        simp [Oper.wp, Oper.upon, execOp, Act.eval, go_sem, dp, dv, z0, z1, y0, y1]
      · dsimp only at ho
        have ho2 : _ = o := Option.some.inj ho
        subst ho2
        clear ho
        have dp : ac.tmps[14]?.getD undef = .pointer (some ⟨bb, 0, none⟩) := by rw [← Array.getD_eq_getD_getElem?]; exact hp
        have dv : ac.tmps[85]?.getD undef = .agg #[.int .i64 pn, .int .i64 pd] := by rw [← Array.getD_eq_getD_getElem?]; exact hd 9 (by decide)
        simp [Oper.wp, Oper.upon, execOp, Act.eval, go_sem, dp, dv, z0, z1, y0, y1]
    rintro ⟨⟨ll⟩, df⟩ w9 hf hbw9 hall ⟨blkf, hq1, hq2⟩
    have hdf : df = [] := hf.defers
    subst hdf
    have hsz : ll.length = 122 := hf.size
    obtain ⟨x0, ll0, rfl, hsz0⟩ := cons_of hsz
    obtain ⟨x1, ll1, rfl, hsz1⟩ := cons_of hsz0
    obtain ⟨x2, ll2, rfl, hsz2⟩ := cons_of hsz1
    obtain ⟨x3, ll3, rfl, hsz3⟩ := cons_of hsz2
    obtain ⟨x4, ll4, rfl, hsz4⟩ := cons_of hsz3
    obtain ⟨x5, ll5, rfl, hsz5⟩ := cons_of hsz4
    obtain ⟨x6, ll6, rfl, hsz6⟩ := cons_of hsz5
    obtain ⟨x7, ll7, rfl, hsz7⟩ := cons_of hsz6
    obtain ⟨x8, ll8, rfl, hsz8⟩ := cons_of hsz7
    obtain ⟨x9, ll9, rfl, hsz9⟩ := cons_of hsz8
    obtain ⟨x10, ll10, rfl, hsz10⟩ := cons_of hsz9
    obtain ⟨x11, ll11, rfl, hsz11⟩ := cons_of hsz10
    obtain ⟨x12, ll12, rfl, hsz12⟩ := cons_of hsz11
    obtain ⟨x13, ll13, rfl, hsz13⟩ := cons_of hsz12
    obtain ⟨x14, ll14, rfl, hsz14⟩ := cons_of hsz13
    obtain ⟨x15, ll15, rfl, hsz15⟩ := cons_of hsz14
    obtain ⟨x16, ll16, rfl, hsz16⟩ := cons_of hsz15
    obtain ⟨x17, ll17, rfl, hsz17⟩ := cons_of hsz16
    obtain ⟨x18, ll18, rfl, hsz18⟩ := cons_of hsz17
    obtain ⟨x19, ll19, rfl, hsz19⟩ := cons_of hsz18
    obtain ⟨x20, ll20, rfl, hsz20⟩ := cons_of hsz19
    obtain ⟨x21, ll21, rfl, hsz21⟩ := cons_of hsz20
    obtain ⟨x22, ll22, rfl, hsz22⟩ := cons_of hsz21
    obtain ⟨x23, ll23, rfl, hsz23⟩ := cons_of hsz22
    obtain ⟨x24, ll24, rfl, hsz24⟩ := cons_of hsz23
    obtain ⟨x25, ll25, rfl, hsz25⟩ := cons_of hsz24
    obtain ⟨x26, ll26, rfl, hsz26⟩ := cons_of hsz25
    obtain ⟨x27, ll27, rfl, hsz27⟩ := cons_of hsz26
    obtain ⟨x28, ll28, rfl, hsz28⟩ := cons_of hsz27
    obtain ⟨x29, ll29, rfl, hsz29⟩ := cons_of hsz28
    obtain ⟨x30, ll30, rfl, hsz30⟩ := cons_of hsz29
    obtain ⟨x31, ll31, rfl, hsz31⟩ := cons_of hsz30
    obtain ⟨x32, ll32, rfl, hsz32⟩ := cons_of hsz31
    obtain ⟨x33, ll33, rfl, hsz33⟩ := cons_of hsz32
    obtain ⟨x34, ll34, rfl, hsz34⟩ := cons_of hsz33
    obtain ⟨x35, ll35, rfl, hsz35⟩ := cons_of hsz34
    obtain ⟨x36, ll36, rfl, hsz36⟩ := cons_of hsz35
    obtain ⟨x37, ll37, rfl, hsz37⟩ := cons_of hsz36
    obtain ⟨x38, ll38, rfl, hsz38⟩ := cons_of hsz37
    obtain ⟨x39, ll39, rfl, hsz39⟩ := cons_of hsz38
    obtain ⟨x40, ll40, rfl, hsz40⟩ := cons_of hsz39
    obtain ⟨x41, ll41, rfl, hsz41⟩ := cons_of hsz40
    obtain ⟨x42, ll42, rfl, hsz42⟩ := cons_of hsz41
    obtain ⟨x43, ll43, rfl, hsz43⟩ := cons_of hsz42
    obtain ⟨x44, ll44, rfl, hsz44⟩ := cons_of hsz43
    obtain ⟨x45, ll45, rfl, hsz45⟩ := cons_of hsz44
    obtain ⟨x46, ll46, rfl, hsz46⟩ := cons_of hsz45
    obtain ⟨x47, ll47, rfl, hsz47⟩ := cons_of hsz46
    obtain ⟨x48, ll48, rfl, hsz48⟩ := cons_of hsz47
    obtain ⟨x49, ll49, rfl, hsz49⟩ := cons_of hsz48
    obtain ⟨x50, ll50, rfl, hsz50⟩ := cons_of hsz49
    obtain ⟨x51, ll51, rfl, hsz51⟩ := cons_of hsz50
    obtain ⟨x52, ll52, rfl, hsz52⟩ := cons_of hsz51
    obtain ⟨x53, ll53, rfl, hsz53⟩ := cons_of hsz52
    obtain ⟨x54, ll54, rfl, hsz54⟩ := cons_of hsz53
    obtain ⟨x55, ll55, rfl, hsz55⟩ := cons_of hsz54
    obtain ⟨x56, ll56, rfl, hsz56⟩ := cons_of hsz55
    obtain ⟨x57, ll57, rfl, hsz57⟩ := cons_of hsz56
    obtain ⟨x58, ll58, rfl, hsz58⟩ := cons_of hsz57
    obtain ⟨x59, ll59, rfl, hsz59⟩ := cons_of hsz58
    obtain ⟨x60, ll60, rfl, hsz60⟩ := cons_of hsz59
    obtain ⟨x61, ll61, rfl, hsz61⟩ := cons_of hsz60
    obtain ⟨x62, ll62, rfl, hsz62⟩ := cons_of hsz61
    obtain ⟨x63, ll63, rfl, hsz63⟩ := cons_of hsz62
    obtain ⟨x64, ll64, rfl, hsz64⟩ := cons_of hsz63
    obtain ⟨x65, ll65, rfl, hsz65⟩ := cons_of hsz64
    obtain ⟨x66, ll66, rfl, hsz66⟩ := cons_of hsz65
    obtain ⟨x67, ll67, rfl, hsz67⟩ := cons_of hsz66
    obtain ⟨x68, ll68, rfl, hsz68⟩ := cons_of hsz67
    obtain ⟨x69, ll69, rfl, hsz69⟩ := cons_of hsz68
    obtain ⟨x70, ll70, rfl, hsz70⟩ := cons_of hsz69
    obtain ⟨x71, ll71, rfl, hsz71⟩ := cons_of hsz70
    obtain ⟨x72, ll72, rfl, hsz72⟩ := cons_of hsz71
    obtain ⟨x73, ll73, rfl, hsz73⟩ := cons_of hsz72
    obtain ⟨x74, ll74, rfl, hsz74⟩ := cons_of hsz73
    obtain ⟨x75, ll75, rfl, hsz75⟩ := cons_of hsz74
    obtain ⟨x76, ll76, rfl, hsz76⟩ := cons_of hsz75
    obtain ⟨x77, ll77, rfl, hsz77⟩ := cons_of hsz76
    obtain ⟨x78, ll78, rfl, hsz78⟩ := cons_of hsz77
    obtain ⟨x79, ll79, rfl, hsz79⟩ := cons_of hsz78
    obtain ⟨x80, ll80, rfl, hsz80⟩ := cons_of hsz79
    obtain ⟨x81, ll81, rfl, hsz81⟩ := cons_of hsz80
    obtain ⟨x82, ll82, rfl, hsz82⟩ := cons_of hsz81
    obtain ⟨x83, ll83, rfl, hsz83⟩ := cons_of hsz82
    obtain ⟨x84, ll84, rfl, hsz84⟩ := cons_of hsz83
    obtain ⟨x85, ll85, rfl, hsz85⟩ := cons_of hsz84
    obtain ⟨x86, ll86, rfl, hsz86⟩ := cons_of hsz85
    obtain ⟨x87, ll87, rfl, hsz87⟩ := cons_of hsz86
    obtain ⟨x88, ll88, rfl, hsz88⟩ := cons_of hsz87
    obtain ⟨x89, ll89, rfl, hsz89⟩ := cons_of hsz88
    obtain ⟨x90, ll90, rfl, hsz90⟩ := cons_of hsz89
    obtain ⟨x91, ll91, rfl, hsz91⟩ := cons_of hsz90
    obtain ⟨x92, ll92, rfl, hsz92⟩ := cons_of hsz91
    obtain ⟨x93, ll93, rfl, hsz93⟩ := cons_of hsz92
    obtain ⟨x94, ll94, rfl, hsz94⟩ := cons_of hsz93
    obtain ⟨x95, ll95, rfl, hsz95⟩ := cons_of hsz94
    obtain ⟨x96, ll96, rfl, hsz96⟩ := cons_of hsz95
    obtain ⟨x97, ll97, rfl, hsz97⟩ := cons_of hsz96
    obtain ⟨x98, ll98, rfl, hsz98⟩ := cons_of hsz97
    obtain ⟨x99, ll99, rfl, hsz99⟩ := cons_of hsz98
    obtain ⟨x100, ll100, rfl, hsz100⟩ := cons_of hsz99
    obtain ⟨x101, ll101, rfl, hsz101⟩ := cons_of hsz100
    obtain ⟨x102, ll102, rfl, hsz102⟩ := cons_of hsz101
    obtain ⟨x103, ll103, rfl, hsz103⟩ := cons_of hsz102
    obtain ⟨x104, ll104, rfl, hsz104⟩ := cons_of hsz103
    obtain ⟨x105, ll105, rfl, hsz105⟩ := cons_of hsz104
    obtain ⟨x106, ll106, rfl, hsz106⟩ := cons_of hsz105
    obtain ⟨x107, ll107, rfl, hsz107⟩ := cons_of hsz106
    obtain ⟨x108, ll108, rfl, hsz108⟩ := cons_of hsz107
    obtain ⟨x109, ll109, rfl, hsz109⟩ := cons_of hsz108
    obtain ⟨x110, ll110, rfl, hsz110⟩ := cons_of hsz109
    obtain ⟨x111, ll111, rfl, hsz111⟩ := cons_of hsz110
    obtain ⟨x112, ll112, rfl, hsz112⟩ := cons_of hsz111
    obtain ⟨x113, ll113, rfl, hsz113⟩ := cons_of hsz112
    obtain ⟨x114, ll114, rfl, hsz114⟩ := cons_of hsz113
    obtain ⟨x115, ll115, rfl, hsz115⟩ := cons_of hsz114
    obtain ⟨x116, ll116, rfl, hsz116⟩ := cons_of hsz115
    obtain ⟨x117, ll117, rfl, hsz117⟩ := cons_of hsz116
    obtain ⟨x118, ll118, rfl, hsz118⟩ := cons_of hsz117
    obtain ⟨x119, ll119, rfl, hsz119⟩ := cons_of hsz118
    obtain ⟨x120, ll120, rfl, hsz120⟩ := cons_of hsz119
    obtain ⟨x121, ll121, rfl, hsz121⟩ := cons_of hsz120
    obtain rfl := List.eq_nil_of_length_eq_zero hsz121
    obtain rfl : x2 = .int .i64 x := hf.same 2 (by decide)
    obtain rfl : x3 = .pointer (some ⟨w.heap.size, 0, none⟩) := hf.same 3 (by decide)
    obtain rfl : x4 = .pointer (some ⟨w.heap.size + 1, 0, none⟩) := hf.same 4 (by decide)
    obtain rfl : x7 = .pointer (some ⟨pA, 0, none⟩) := hf.same 7 (by decide)
    obtain rfl : x8 = .pointer (some ⟨pB, 0, none⟩) := hf.same 8 (by decide)
    obtain rfl : x9 = .int .i64 0 := hf.same 9 (by decide)
    obtain rfl : x10 = .int .i64 0 := hf.same 10 (by decide)
    obtain rfl : x11 = .pointer (some ⟨w8.heap.size, 0, none⟩) := hf.same 11 (by decide)
    obtain rfl : x12 = .pointer (some ⟨w8.heap.size + 1, 0, none⟩) := hf.same 12 (by decide)
    obtain rfl : x76 = .agg #[.int .i64 s, .int .i64 ww, .int .i64 t, .int .i64 en] := hall 0 76 rfl
    obtain rfl : x77 = .pointer (some ⟨w.heap.size + 1, 0, none⟩) := hall 1 77 rfl
    obtain rfl : x78 = .agg #[.slice A n c, .int .i64 S] := hall 2 78 rfl
    obtain rfl : x79 = .int .i64 x := hall 3 79 rfl
    obtain rfl : x80 = .agg #[.int .i64 mn, .int .i64 md] := hall 4 80 rfl
    obtain rfl : x81 = .agg #[.int .i64 s, .int .i64 ww, .int .i64 t, .int .i64 en] := hall 5 81 rfl
    obtain rfl : x82 = .pointer (some ⟨w.heap.size + 1, 2, none⟩) := hall 6 82 rfl
    obtain rfl : x83 = .agg #[.slice A' n' c', .int .i64 T] := hall 7 83 rfl
    obtain rfl : x84 = .int .i64 x := hall 8 84 rfl
    obtain rfl : x85 = .agg #[.int .i64 pn, .int .i64 pd] := hall 9 85 rfl
    obtain ⟨pC, hxC, plC, psC, paC, pcC⟩ : ∃ blk, x13 = .pointer (some ⟨blk, 0, none⟩) ∧ wz.heap.size ≤ blk ∧ blk < w9.heap.size ∧ w9.cell? ⟨blk, 0, none⟩ = some (.int .i64 mn) ∧ w9.cell? ⟨blk, 1, none⟩ = some (.int .i64 md) := by
      obtain ⟨g0, g1, g2, -, -, g5, g6⟩ := hq1 ⟨10, 12, mn, md⟩ (by simp) rfl
      exact ⟨blkf 10, g0, g1, g2, g5, g6⟩
    subst hxC
    obtain ⟨pD, hxD, plD, psD, paD, pcD⟩ : ∃ blk, x14 = .pointer (some ⟨blk, 0, none⟩) ∧ wz.heap.size ≤ blk ∧ blk < w9.heap.size ∧ w9.cell? ⟨blk, 0, none⟩ = some (.int .i64 pn) ∧ w9.cell? ⟨blk, 1, none⟩ = some (.int .i64 pd) := by
      obtain ⟨g0, g1, g2, -, -, g5, g6⟩ := hq1 ⟨11, 13, pn, pd⟩ (by simp) rfl
      exact ⟨blkf 11, g0, g1, g2, g5, g6⟩
    subst hxD
    clear hall hf hq1 hq2 blkf
    clear hsz hsz0 hsz1 hsz2 hsz3 hsz4 hsz5 hsz6 hsz7 hsz8 hsz9 hsz10 hsz11 hsz12 hsz13 hsz14 hsz15 hsz16 hsz17 hsz18 hsz19 hsz20 hsz21 hsz22 hsz23 hsz24 hsz25 hsz26 hsz27 hsz28 hsz29 hsz30 hsz31 hsz32 hsz33 hsz34 hsz35 hsz36 hsz37 hsz38 hsz39 hsz40 hsz41 hsz42 hsz43 hsz44 hsz45 hsz46 hsz47 hsz48 hsz49 hsz50 hsz51 hsz52 hsz53 hsz54 hsz55 hsz56 hsz57 hsz58 hsz59 hsz60 hsz61 hsz62 hsz63 hsz64 hsz65 hsz66 hsz67 hsz68 hsz69 hsz70 hsz71 hsz72 hsz73 hsz74 hsz75 hsz76 hsz77 hsz78 hsz79 hsz80 hsz81 hsz82 hsz83 hsz84 hsz85 hsz86 hsz87 hsz88 hsz89 hsz90 hsz91 hsz92 hsz93 hsz94 hsz95 hsz96 hsz97 hsz98 hsz99 hsz100 hsz101 hsz102 hsz103 hsz104 hsz105 hsz106 hsz107 hsz108 hsz109 hsz110 hsz111 hsz112 hsz113 hsz114 hsz115 hsz116 hsz117 hsz118 hsz119 hsz120 hsz121
    have H9 := Lib.hid hbw9
    have H9W := Lib.hid (HZW.out.trans (hbw9.mono HZW.out.size))
    have l0 : pC < w9.heap.size := World.block_lt_of_cell? w9 _ paC
    have l1 : pD < w9.heap.size := World.block_lt_of_cell? w9 _ paD
    have HA9 : Hid (∀ wx, Below w9.heap.size w9 wx → (wx.cell? ⟨pA, 0, none⟩ = some (.int .i64 ln) ∧ wx.cell? ⟨pA, 1, none⟩ = some (.int .i64 ld) ∧ wx.cell? ⟨pB, 0, none⟩ = some (.int .i64 gn) ∧ wx.cell? ⟨pB, 1, none⟩ = some (.int .i64 gd)) ∧ (wx.cell? ⟨w8.heap.size, 0, none⟩ = some (.int .i64 ln) ∧ wx.cell? ⟨w8.heap.size, 1, none⟩ = some (.int .i64 ld) ∧ wx.cell? ⟨w8.heap.size + 1, 0, none⟩ = some (.int .i64 gn) ∧ wx.cell? ⟨w8.heap.size + 1, 1, none⟩ = some (.int .i64 gd)) ∧ (wx.cell? ⟨pC, 0, none⟩ = some (.int .i64 mn) ∧ wx.cell? ⟨pC, 1, none⟩ = some (.int .i64 md) ∧ wx.cell? ⟨pD, 0, none⟩ = some (.int .i64 pn) ∧ wx.cell? ⟨pD, 1, none⟩ = some (.int .i64 pd))) := Lib.hid (fun wx hb => by
      have g := bcell (H9.out.trans (hb.mono H9.out.size))
      have q := bcell hb
      exact ⟨⟨(g.1 _ _ HI.out.2.1).trans HV.out.1.1, (g.1 _ _ HI.out.2.1).trans HV.out.1.2, (g.1 _ _ HI.out.2.2).trans HV.out.2.1, (g.1 _ _ HI.out.2.2).trans HV.out.2.2⟩, ⟨(g.1 _ _ HI.out.1.1).trans HU.out.1.1, (g.1 _ _ HI.out.1.1).trans HU.out.1.2, (g.1 _ _ HI.out.1.2).trans HU.out.2.1, (g.1 _ _ HI.out.1.2).trans HU.out.2.2⟩, (q.1 _ _ l0).trans paC, (q.1 _ _ l0).trans pcC, (q.1 _ _ l1).trans paD, (q.1 _ _ l1).trans pcD⟩)
    clear hbw9 paC pcC paD pcD plC plD psC psD l0 l1
    have HX0 := Lib.hid (Below.refl w9.heap.size w9)
    obtain ⟨⟨f0, f1, f2, f3⟩, ⟨f4, f5, f6, f7⟩, f8, f9, f10, f11⟩ := HA9.out w9 HX0.out
    go_wp2_with (first | (go_at_call 50; (with_reducible refine Calls.mono (Q1.out _) ?_); rintro e wa ⟨rfl, hb⟩; have X1 := Lib.hid (HX0.out.trans (hb.mono HX0.out.size)); clear hb; obtain ⟨⟨g0, g1, g2, g3⟩, -, g8, g9, g10, g11⟩ := HA9.out wa X1.out) | (go_at_call 50; (with_reducible refine Calls.mono (Q2.out _) ?_); rintro e wb ⟨rfl, hb⟩; have X2 := Lib.hid (X1.out.trans (hb.mono X1.out.size)); clear hb; obtain ⟨⟨h0, h1, h2, h3⟩, -, h8, h9, h10, h11⟩ := HA9.out wb X2.out) | (go_at_call 50; (with_reducible refine Calls.mono (Q3.out _) ?_); rintro e wc ⟨rfl, hb⟩; have X3 := Lib.hid (X2.out.trans (hb.mono X2.out.size)); clear hb; obtain ⟨⟨j0, j1, j2, j3⟩, -, j8, j9, j10, j11⟩ := HA9.out wc X3.out) | (go_at_call 50; (with_reducible refine Calls.mono (Q4.out _) ?_); rintro e wd ⟨rfl, hb⟩; have X4 := Lib.hid (X3.out.trans (hb.mono X3.out.size)); clear hb) | fail)
    go_ret
    exact ⟨by simp [hk1, hk2, hk3, hk4], H9W.out.trans (X4.out.mono H9W.out.size)⟩
end Go.Proofs.Ytablphoicidlkaa
namespace Go.Proofs.Ytablphoicidlkaa
open Go.RowKit

set_option maxHeartbeats 8000000 in
set_option maxRecDepth 20000 in
theorem ranges_many {s ww t en x : Int} {A A' : Option Addr} {n c n' c' : Nat} {S T : Int} (h : 12 < n ∨ 12 < n') (w : World) :
    Calls Try.prog 8 #[bmV ⟨s, ww, t, en⟩, .agg #[.slice A n c, .int .i64 S, .slice A' n' c', .int .i64 T], .int .i64 x] w fun e w' => e = .returned (.bool true) ∧ Below w.heap.size w w' := by
  have AW := fun wx => Lib.hid (awake_any wx)
  have FE := Lib.hid (fun wx => few_any (A := A) (n := n) (c := c) (S := S) wx)
  have FE' := Lib.hid (fun wx => few_any (A := A') (n := n') (c := c') (S := T) wx)
  obtain ⟨q, hq⟩ : ∃ q, decide (n ≤ 12) = q := ⟨_, rfl⟩
  rw [hq] at FE
  have hx : q = false ∨ (q = true ∧ decide (n' ≤ 12) = false) := by
    cases q
    · exact .inl rfl
    · have := of_decide_eq_true hq
      exact .inr ⟨rfl, decide_eq_false (by omega)⟩
  clear hq h
  unfold bmV buV at *
  go_enter Try.func8, Try.ntmps8
  go_upto_region 1 with fail
  obtain ⟨w0, hw0⟩ : ∃ w0, ((w.alloc (.cells #[.int .i64 s, .int .i64 ww, .int .i64 t, .int .i64 en] 23)).alloc (.cells #[.slice A n c, .int .i64 S, .slice A' n' c', .int .i64 T] 70)) = w0 := ⟨_, rfl⟩
  have HB0 : Hid (Below w.heap.size w w0) := Lib.hid (by rw [← hw0]; exact (((Below.refl _ _).alloc (Nat.le_refl _) _).alloc (by simp; try omega) _))
  have HC := Lib.hid (fun wx (hb : Below w0.heap.size w0 wx) => (show wx.cell? ⟨w.heap.size + 1, 0, none⟩ = some (.slice A n c) ∧ wx.cell? ⟨w.heap.size + 1, 1, none⟩ = some (.int .i64 S) ∧ wx.cell? ⟨w.heap.size + 1, 2, none⟩ = some (.slice A' n' c') ∧ wx.cell? ⟨w.heap.size + 1, 3, none⟩ = some (.int .i64 T) from by
    subst hw0
    obtain ⟨k, kf⟩ := bcell hb
    exact ⟨(k _ _ (by simp; try omega)).trans (by simp [go_sem]), (k _ _ (by simp; try omega)).trans (by simp [go_sem]), (k _ _ (by simp; try omega)).trans (by simp [go_sem]), (k _ _ (by simp; try omega)).trans (by simp [go_sem])⟩))
  rw [hw0]
  clear hw0
  go_upto_region 3 with (go_at_call 19; (refine Calls.mono (AW _).out ?_); rintro e w1 ⟨rfl, hb1⟩; have H1 := Lib.hid hb1; clear hb1)
  obtain ⟨c0, c1, c2, c3⟩ := HC.out w1 H1.out
  rcases hx with rfl | ⟨rfl, h2⟩
  · go_wp2_with (go_at_call 20; (with_reducible refine Calls.mono (FE.out _) ?_); rintro e w2 ⟨rfl, hb2⟩; have H2 := Lib.hid (H1.out.trans (hb2.mono H1.out.size)); clear hb2)
    go_ret
    exact ⟨rfl, HB0.out.trans (H2.out.mono HB0.out.size)⟩
  · rw [h2] at FE'
    clear h2
    go_wp2_with (first | (go_at_call 20; (with_reducible refine Calls.mono (FE.out _) ?_); rintro e wf ⟨rfl, hb2⟩; have HF := Lib.hid (H1.out.trans (hb2.mono H1.out.size)); clear hb2; obtain ⟨e0, e1, e2, e3⟩ := HC.out wf HF.out) | (go_at_call 20; (with_reducible refine Calls.mono (FE'.out _) ?_); rintro e w2 ⟨rfl, hb2⟩; have H2 := Lib.hid (HF.out.trans (hb2.mono HF.out.size)); clear hb2) | fail)
    go_ret
    exact ⟨rfl, HB0.out.trans (H2.out.mono HB0.out.size)⟩
theorem zzE (r : List Int) : firstE (0 :: r) = firstE r := rfl
theorem wiN {n lo hi : Int} (h : wiB n lo hi = false) : rngE lo hi [n] = 2 := by rw [rng_wi, h]; rfl
theorem wiY {n lo hi : Int} (h : wiB n lo hi = true) : rngE lo hi [n] = 0 := by rw [rng_wi, h]; rfl
theorem mrE_eq {b : Bm} {l m : List Pt} {S T x : Int} : (¬ rgE b l m S T = 0 → mrE b l m S T x = rgE b l m S T) ∧ (rgE b l m S T = 0 → mrE b l m S T x = firstE [rngE 0 b.s [x]]) := by
  unfold rgE mrE
  refine ⟨fun h => ?_, fun h => ?_⟩
  · rw [firstE_cons, firstE_cons, firstE_cons] at h
    rw [firstE_cons, firstE_cons, firstE_cons, firstE_cons (burE b l S), firstE_cons (burE b m T), firstE_cons (btwE l m S T)]
    cases h1 : burE b l S == 0
    · rfl
    · cases h2 : burE b m T == 0
      · rfl
      · cases h3 : btwE l m S T == 0
        · rfl
        · rw [h1, h2, h3] at h
          exact absurd rfl h
  · have g := rgE_ok (b := b) (l := l) (m := m) (S := S) (T := T) h
    rw [g.1, g.2.1, g.2.2, zzE, zzE, zzE]
set_option maxHeartbeats 8000000 in
theorem ranges_walk (b : Bm) (A : Option Addr) (n c : Nat) (S : Int) (l : List Pt) (A' : Option Addr) (n' c' : Nat) (T : Int) (m : List Pt) (x : Int) (hn : n ≤ maxLen) (hn' : n' ≤ maxLen) (hc : n ≤ c ∧ c ≤ maxLen) (hc' : n' ≤ c' ∧ c' ≤ maxLen) (w : World) (h : PtRow w A n l) (h' : PtRow w A' n' m) :
    Calls Try.prog 8 #[bmV b, .agg #[.slice A n c, .int .i64 S, .slice A' n' c', .int .i64 T], .int .i64 x] w fun e w' => e = .returned (.bool true) ∧ Below w.heap.size w w' := by
  by_cases hm : 12 < n ∨ 12 < n'
  · obtain ⟨s, ww, t, en⟩ := b
    exact ranges_many hm w
  have h12 : n ≤ 12 := by omega
  have h12' : n' ≤ 12 := by omega
  have MR : ∀ A1 c1 A2 c2 wx, PtRow wx A1 n l → PtRow wx A2 n' m → _ := fun A1 c1 A2 c2 wx r1 r2 => momentRange_any (b := b) (c := c1) (c' := c2) (S := S) (T := T) (x := x) wx r1 r2 hn hn'
  have CR := fun wx (hx : Below w.heap.size w wx) => rcheckRange_any (b := b) (c := c) (c' := c') (S := S) (T := T) hn hn' wx (h.below hx) (h'.below hx)
  have WI := fun wx => within_any x 0 b.s wx
  obtain ⟨E1, E2⟩ := mrE_eq (b := b) (l := l) (m := m) (S := S) (T := T) (x := x)
  by_cases h0 : rgE b l m S T = 0
  · have hE := E2 h0
    obtain ⟨g1, g2, g3⟩ := rgE_ok h0
    obtain ⟨hb, hl⟩ := burE_ok.1 g1
    obtain ⟨-, hm2⟩ := burE_ok.1 g2
    rw [h0] at CR
    cases hwi : wiB x 0 b.s
    · rw [wiN hwi] at hE
      have hE2 : mrE b l m S T x = 2 := hE
      simp only [hE2, fr3_bad (show (2 : Int) ≠ 0 by decide)] at MR
      rw [hwi] at WI
      obtain ⟨s, ww, t, en⟩ := b
      exact ranges_law (mn := 0) (md := 0) (pn := 0) (pd := 0) (k1 := 0) (k2 := 0) (k3 := 0) (k4 := 0) h12 h12' MR w CR WI (fun _ h => by cases h) (fun _ h => by cases h) (fun _ h => by cases h) (fun _ h => by cases h) (fun _ h => by cases h) (fun _ h => by cases h) (fun _ h => by cases h) (fun _ h => by cases h) (.inr (.inl ⟨rfl, rfl, rfl, rfl, rfl, rfl, rfl⟩)) h h'
    · rw [wiY hwi] at hE
      have hE2 : mrE b l m S T x = 0 := hE
      have hy := wiB_iff.1 hwi
      simp only [hE2, fr3_ok] at MR
      rw [hwi] at WI
      have hnn : n = n' := by
        have a1 := (plB_iff.1 (btwE_ok g3).1).1
        have a2 := h.1
        have a3 := h'.1
        omega
      subst hnn
      have RG := fun wx (hw : Below w.heap.size w wx) => rMomentRange_any (c := c) (c' := c') hb hl hm2 hy.1 hy.2 g3 hc.1 hc'.1 hc.2 hc'.2 wx (h.below hw) (h'.below hw)
      have M1 := fun wx (hw : Below w.heap.size w wx) => rMoment_any (c := c) hb hl hy.1 hy.2 wx (h.below hw)
      have M2 := fun wx (hw : Below w.heap.size w wx) => rMoment_any (c := c') hb hm2 hy.1 hy.2 wx (h'.below hw)
      have hu := btw_under g3
      have hmu := mom_under (b := b) hy.1 hy.2 hl.pt hu.1 hu.2
      have d0 : 0 < 2 * b.s := by have := hb.s0; omega
      have d1 : 2 * b.s ≤ 4000 := by have := hb.s1; omega
      have B1 := mom_bd9 hb hl hy.1 hy.2
      have B2 := mom_bd9 hb hm2 hy.1 hy.2
      have CMP : ∀ p q : Int, p.natAbs ≤ 5000000000000000000 → q.natAbs ≤ 5000000000000000000 → ∀ wx, Calls Try.prog 50 #[frV p (2 * b.s), frV q (2 * b.s)] wx fun e w' => e = .returned (.int .i64 (Int.sign (lowN p (2 * b.s) * lowD q (2 * b.s) - lowN q (2 * b.s) * lowD p (2 * b.s)))) ∧ Below wx.heap.size wx w' := fun p q hp hq wx =>
        cmp_any (lowD_pos d0) (lowD_pos d0) (Nat.le_trans (lowN_bd d0) hp) (by have := lowD_le (n := p) d0; omega) (Nat.le_trans (lowN_bd d0) hq) (by have := lowD_le (n := q) d0; omega) wx
      have B1' : (mom b l S x).natAbs ≤ 5000000000000000000 := Nat.le_trans (mom_bds hb hl hy.1 hy.2).2.2 (by decide)
      have B2' : (mom b m T x).natAbs ≤ 5000000000000000000 := Nat.le_trans (mom_bds hb hm2 hy.1 hy.2).2.2 (by decide)
      unfold rgA rgZ at *
      cases he : b.e == 1
      · rw [he] at hmu
        simp only [he, cond_false] at MR RG hmu
        obtain ⟨s, ww, t, en⟩ := b
        exact ranges_law h12 h12' MR w CR WI (fun _ _ => RG) (fun _ _ => M1) (fun _ _ => M2) (fun _ _ => CMP _ _ B1' B1') (fun _ _ => CMP _ _ B1' B2') (fun _ _ => CMP _ _ B1' B2') (fun _ _ => CMP _ _ B2' B2') (fun _ _ => ⟨⟨low_cmp d0 (Int.le_refl _), low_cmp d0 hmu⟩, low_cmp d0 hmu, low_cmp d0 (Int.le_refl _)⟩) (.inr (.inr ⟨rfl, rfl, rfl⟩)) h h'
      · rw [he] at hmu
        simp only [he, cond_true] at MR RG hmu
        obtain ⟨s, ww, t, en⟩ := b
        exact ranges_law h12 h12' MR w CR WI (fun _ _ => RG) (fun _ _ => M1) (fun _ _ => M2) (fun _ _ => CMP _ _ B2' B1') (fun _ _ => CMP _ _ B1' B1') (fun _ _ => CMP _ _ B2' B2') (fun _ _ => CMP _ _ B2' B1') (fun _ _ => ⟨⟨low_cmp d0 hmu, low_cmp d0 (Int.le_refl _)⟩, low_cmp d0 (Int.le_refl _), low_cmp d0 hmu⟩) (.inr (.inr ⟨rfl, rfl, rfl⟩)) h h'
  · have hE := E1 h0
    simp only [hE, fr3_bad h0] at MR
    obtain ⟨s, ww, t, en⟩ := b
    exact ranges_law (mn := 0) (md := 0) (pn := 0) (pd := 0) (k1 := 0) (k2 := 0) (k3 := 0) (k4 := 0) (wi := wiB x 0 s) h12 h12' MR w CR WI (fun h => absurd h h0) (fun h => absurd h h0) (fun h => absurd h h0) (fun h => absurd h h0) (fun h => absurd h h0) (fun h => absurd h h0) (fun h => absurd h h0) (fun h => absurd h h0) (.inl ⟨h0, rfl, rfl, rfl, rfl, rfl⟩) h h'
end Go.Proofs.Ytablphoicidlkaa
