/- Walks over the timber seat: the whole function Defective; the law TimberDefects. -/
import Derived.Test.YtnjbhidncicfiaaF4
import Derived.Test.YtnjbhidncicfiaaF5
import Derived.Test.YtnjbhidncicfiaaB6
import Derived.Test.YtnjbhidncicfiaaD2
import Derived.Deep.RegionHeld3
import Derived.BigQuiet
namespace Go.Proofs.Ytnjbhidncicfiaa
open Go.RowKit

set_option maxHeartbeats 1000000 in
theorem defErr_any {nm sp : ByteArray} {ln wd th cu mo : Int} {D : Option Addr} {dn dc : Nat} {ds : List Rc} {c : Int} (hc : bdCode ⟨nm, sp, ln, wd, th, cu, mo, ds⟩ = c) (hz : c ≠ 0) (hn1 : nm.size ≤ maxLen) (hn2 : sp.size ≤ maxLen) (hdn : dn ≤ maxLen) (w : World) (hd : RcRow w D dn ds) :
    Calls Try.prog 43 #[.agg #[.string nm, .string sp, .int .i64 ln, .int .i64 wd, .int .i64 th, .int .i64 cu, .int .i64 mo, .slice D dn dc]] w fun e w' => e = .returned (.tuple #[.int .i64 0, .int .i64 c]) ∧ Below w.heap.size w w' := by
  have hBL : Below w.heap.size w (w.alloc (.cells #[.string nm, .string sp, .int .i64 ln, .int .i64 wd, .int .i64 th, .int .i64 cu, .int .i64 mo, .slice D dn dc] 34)) := (Below.refl _ _).alloc (Nat.le_refl _) _
  have BA := Lib.hid (boardAlone_any (dc := dc) hc hn1 hn2 hdn _ (RcRow.below hd hBL))
  have hzb : (c == 0) = false := beq_eq_false_iff_ne.2 hz
  clear hc hd
  go_enter Try.func43, Try.ntmps43
  go_wp2_with (go_at_call 88; (refine Calls.mono BA.out ?_); rintro e w1 ⟨rfl, hb1⟩)
  go_ret2
  exact ⟨rfl, hBL.trans (hb1.mono (by simp))⟩
set_option maxHeartbeats 1000000 in
theorem defOk_any {nm sp : ByteArray} {ln wd th cu mo : Int} {D : Option Addr} {dn dc : Nat} {ds : List Rc} (hc : bdCode ⟨nm, sp, ln, wd, th, cu, mo, ds⟩ = 0) (hn1 : nm.size ≤ maxLen) (hn2 : sp.size ≤ maxLen) (hdn : dn ≤ maxLen) (w : World) (hd : RcRow w D dn ds) :
    Calls Try.prog 43 #[.agg #[.string nm, .string sp, .int .i64 ln, .int .i64 wd, .int .i64 th, .int .i64 cu, .int .i64 mo, .slice D dn dc]] w fun e w' => e = .returned (.tuple #[.int .i64 (covered ⟨nm, sp, ln, wd, th, cu, mo, ds⟩), .int .i64 0]) ∧ Below w.heap.size w w' := by
  have hBL : Below w.heap.size w (w.alloc (.cells #[.string nm, .string sp, .int .i64 ln, .int .i64 wd, .int .i64 th, .int .i64 cu, .int .i64 mo, .slice D dn dc] 34)) := (Below.refl _ _).alloc (Nat.le_refl _) _
  have hd1 := RcRow.below hd hBL
  have BA := Lib.hid (boardAlone_any (dc := dc) hc hn1 hn2 hdn _ hd1)
  have CL := fun wx hb => Lib.hid (defective_any (dc := dc) (bdOk_of hc) wx (RcRow.below hd1 hb))
  clear hc hd hd1
  go_enter Try.func43, Try.ntmps43
  go_wp2_with (first | (go_at_call 88; (refine Calls.mono BA.out ?_); rintro e w1 ⟨rfl, hb1⟩; have hs1 : w.heap.size < w1.heap.size := (by have := hb1.size; (try simp at this); omega); obtain ⟨hc1, hf1⟩ := bcell hb1) | (go_at_call 89; (refine Calls.mono (CL _ hb1).out ?_); rintro e w2 ⟨rfl, hb2⟩))
  go_ret2
  exact ⟨rfl, (hBL.trans (hb1.mono (by simp))).trans (hb2.mono (by omega))⟩
theorem sound_less {b : Bd} {x1 y1 x2 y2 : Int} (h : soundB b ⟨x1, y1, x2, y2⟩ = true) : soundB b ⟨x1 + 1, y1, x2, y2⟩ = true := by
  rw [soundB_iff] at h ⊢
  intro d hd hh
  refine h d hd ?_
  simp only at hh ⊢
  omega
set_option maxHeartbeats 1000000 in
set_option maxRecDepth 20000 in
theorem ldef_skip {nm sp : ByteArray} {ln wd th cu mo : Int} {D : Option Addr} {dn dc : Nat} {x1 y1 x2 y2 : Int} (hpl : plainB nm sp dn = false) (hn1 : nm.size ≤ maxLen) (hn2 : sp.size ≤ maxLen) (hdn : dn ≤ maxLen) (w : World) :
    Calls Try.prog 10 #[.agg #[.string nm, .string sp, .int .i64 ln, .int .i64 wd, .int .i64 th, .int .i64 cu, .int .i64 mo, .slice D dn dc], .agg #[.int .i64 x1, .int .i64 y1, .int .i64 x2, .int .i64 y2]] w fun e w' => e = .returned (.bool true) ∧ Below w.heap.size w w' := by
  have hBL : Below w.heap.size w ((w.alloc (.cells #[.string nm, .string sp, .int .i64 ln, .int .i64 wd, .int .i64 th, .int .i64 cu, .int .i64 mo, .slice D dn dc] 34)).alloc (.cells #[.int .i64 x1, .int .i64 y1, .int .i64 x2, .int .i64 y2] 75)) := ((Below.refl _ _).alloc (Nat.le_refl _) _).alloc (by simp) _
  have PL := fun wx => Lib.hid (plain_any (nm := nm) (sp := sp) (ln := ln) (wd := wd) (th := th) (cu := cu) (mo := mo) (D := D) (dn := dn) (dc := dc) (w := wx) hpl hn1 hn2 hdn)
  clear hpl
  go_enter Try.func10, Try.ntmps10
  go_wp2_with (first | (go_at_call 18; refine (awake_any _).mono ?_; rintro e w1 ⟨rfl, hb1⟩; have hs1 : w.heap.size + 1 < w1.heap.size := (by have := hb1.size; (try simp at this); omega); have ht1 : w.heap.size < w1.heap.size := (by omega); obtain ⟨hc1, hf1⟩ := bcell hb1) | (go_at_call 24; (refine Calls.mono (PL _).out ?_); rintro e w2 ⟨rfl, hq2⟩; have hb2 := hb1.trans (hq2.mono hb1.size); have hs2 : w.heap.size + 1 < w2.heap.size := (by have := hq2.size; omega); have ht2 : w.heap.size < w2.heap.size := (by omega); obtain ⟨hc2, hf2⟩ := bcell hb2))
  go_ret
  exact ⟨rfl, hBL.trans (hb2.mono (by simp; omega))⟩
set_option maxHeartbeats 2000000 in
set_option maxRecDepth 20000 in
theorem ldef_err {nm sp : ByteArray} {ln wd th cu mo : Int} {D : Option Addr} {dn dc : Nat} {ds : List Rc} {x1 y1 x2 y2 c : Int} (hpl : plainB nm sp dn = true) (hc : bdCode ⟨nm, sp, ln, wd, th, cu, mo, ds⟩ = c) (hz : c ≠ 0) (hn1 : nm.size ≤ maxLen) (hn2 : sp.size ≤ maxLen) (hdn : dn ≤ maxLen) (w : World) (hr : RcRow w D dn ds) :
    Calls Try.prog 10 #[.agg #[.string nm, .string sp, .int .i64 ln, .int .i64 wd, .int .i64 th, .int .i64 cu, .int .i64 mo, .slice D dn dc], .agg #[.int .i64 x1, .int .i64 y1, .int .i64 x2, .int .i64 y2]] w fun e w' => e = .returned (.bool true) ∧ Below w.heap.size w w' := by
  have hBL : Below w.heap.size w ((w.alloc (.cells #[.string nm, .string sp, .int .i64 ln, .int .i64 wd, .int .i64 th, .int .i64 cu, .int .i64 mo, .slice D dn dc] 34)).alloc (.cells #[.int .i64 x1, .int .i64 y1, .int .i64 x2, .int .i64 y2] 75)) := ((Below.refl _ _).alloc (Nat.le_refl _) _).alloc (by simp) _
  have hr1 := RcRow.below hr hBL
  have PL := fun wx => Lib.hid (plain_any (nm := nm) (sp := sp) (ln := ln) (wd := wd) (th := th) (cu := cu) (mo := mo) (D := D) (dn := dn) (dc := dc) (w := wx) hpl hn1 hn2 hdn)
  have AR := fun wx hbx => Lib.hid (area_any (dc := dc) hc hn1 hn2 hdn wx (RcRow.below hr1 hbx))
  have hAT : areaT c ln wd = .tuple #[.int .i64 0, .int .i64 c] := if_neg hz
  rw [hAT] at AR
  have DE := fun wx hbx => Lib.hid (defErr_any (dc := dc) hc hz hn1 hn2 hdn wx (RcRow.below hr1 hbx))
  have SO := fun wx hbx => Lib.hid (sound_any (dc := dc) (x1 := x1) (y1 := y1) (x2 := x2) (y2 := y2) (c := c) hc rfl rfl hn1 hn2 hdn wx (RcRow.below hr1 hbx))
  have hST : soundT c (rcK ln wd x1 y1 x2 y2) (soundB ⟨nm, sp, ln, wd, th, cu, mo, ds⟩ ⟨x1, y1, x2, y2⟩) = .tuple #[.bool false, .int .i64 c] := if_neg hz
  rw [hST] at SO
  have BE := fun wx hbx => Lib.hid (rboardErr_any (dc := dc) hc hn1 hn2 hdn wx (RcRow.below hr1 hbx))
  have hzb : (c == 0) = false := beq_eq_false_iff_ne.2 hz
  clear hr hr1 hpl hc hAT hST hz
  go_enter Try.func10, Try.ntmps10
  go_wp2_with (first | (go_at_call 18; refine (awake_any _).mono ?_; rintro e w1 ⟨rfl, hb1⟩; have hs1 : w.heap.size + 1 < w1.heap.size := (by have := hb1.size; (try simp at this); omega); have ht1 : w.heap.size < w1.heap.size := (by omega); obtain ⟨hc1, hf1⟩ := bcell hb1) | (go_at_call 24; (refine Calls.mono (PL _).out ?_); rintro e w2 ⟨rfl, hq2⟩; have hb2 := hb1.trans (hq2.mono hb1.size); have hs2 : w.heap.size + 1 < w2.heap.size := (by have := hq2.size; omega); have ht2 : w.heap.size < w2.heap.size := (by omega); obtain ⟨hc2, hf2⟩ := bcell hb2) | (go_at_call 42; (refine Calls.mono (AR _ hb2).out ?_); rintro e w3 ⟨rfl, hq3⟩; have hb3 := hb2.trans (hq3.mono hb2.size); have hs3 : w.heap.size + 1 < w3.heap.size := (by have := hq3.size; omega); have ht3 : w.heap.size < w3.heap.size := (by omega); obtain ⟨hc3, hf3⟩ := bcell hb3) | (go_at_call 43; (refine Calls.mono (DE _ hb3).out ?_); rintro e w4 ⟨rfl, hq4⟩; have hb4 := hb3.trans (hq4.mono hb3.size); have hs4 : w.heap.size + 1 < w4.heap.size := (by have := hq4.size; omega); have ht4 : w.heap.size < w4.heap.size := (by omega); obtain ⟨hc4, hf4⟩ := bcell hb4) | (go_at_call 44; (refine Calls.mono (SO _ hb4).out ?_); rintro e w5 ⟨rfl, hq5⟩; have hb5 := hb4.trans (hq5.mono hb4.size); have hs5 : w.heap.size + 1 < w5.heap.size := (by have := hq5.size; omega); have ht5 : w.heap.size < w5.heap.size := (by omega); obtain ⟨hc5, hf5⟩ := bcell hb5) | (go_at_call 45; (refine Calls.mono (BE _ hb5).out ?_); rintro e w6 ⟨rfl, hq6⟩; have hb6 := hb5.trans (hq6.mono hb5.size); have hs6 : w.heap.size + 1 < w6.heap.size := (by have := hq6.size; omega); have ht6 : w.heap.size < w6.heap.size := (by omega); obtain ⟨hc6, hf6⟩ := bcell hb6))
  go_ret
  exact ⟨rfl, hBL.trans (hb6.mono (by simp; omega))⟩
set_option maxHeartbeats 4000000 in
set_option maxRecDepth 20000 in
theorem ldef_form {nm sp : ByteArray} {ln wd th cu mo : Int} {D : Option Addr} {dn dc : Nat} {ds : List Rc} {x1 y1 x2 y2 f : Int} (hpl : plainB nm sp dn = true) (hc : bdCode ⟨nm, sp, ln, wd, th, cu, mo, ds⟩ = 0) (hf : formE x1 y1 x2 y2 = f) (hz : f ≠ 0) (hn1 : nm.size ≤ maxLen) (hn2 : sp.size ≤ maxLen) (hdn : dn ≤ maxLen) (w : World) (hr : RcRow w D dn ds) :
    Calls Try.prog 10 #[.agg #[.string nm, .string sp, .int .i64 ln, .int .i64 wd, .int .i64 th, .int .i64 cu, .int .i64 mo, .slice D dn dc], .agg #[.int .i64 x1, .int .i64 y1, .int .i64 x2, .int .i64 y2]] w fun e w' => e = .returned (.bool true) ∧ Below w.heap.size w w' := by
  have hBL : Below w.heap.size w ((w.alloc (.cells #[.string nm, .string sp, .int .i64 ln, .int .i64 wd, .int .i64 th, .int .i64 cu, .int .i64 mo, .slice D dn dc] 34)).alloc (.cells #[.int .i64 x1, .int .i64 y1, .int .i64 x2, .int .i64 y2] 75)) := ((Below.refl _ _).alloc (Nat.le_refl _) _).alloc (by simp) _
  have hr1 := RcRow.below hr hBL
  have PL := fun wx => Lib.hid (plain_any (nm := nm) (sp := sp) (ln := ln) (wd := wd) (th := th) (cu := cu) (mo := mo) (D := D) (dn := dn) (dc := dc) (w := wx) hpl hn1 hn2 hdn)
  have AR := fun wx hbx => Lib.hid (area_any (dc := dc) hc hn1 hn2 hdn wx (RcRow.below hr1 hbx))
  have hAT : areaT 0 ln wd = .tuple #[.int .i64 (wrap64 (ln * wd)), .int .i64 0] := rfl
  rw [hAT] at AR
  have DE := fun wx hbx => Lib.hid (defOk_any (dc := dc) hc hn1 hn2 hdn wx (RcRow.below hr1 hbx))
  have BE := fun wx hbx => Lib.hid (rboardErr_any (dc := dc) hc hn1 hn2 hdn wx (RcRow.below hr1 hbx))
  have DR := fun wx hbx => Lib.hid (defRef_any (dc := dc) (bdOk_of hc) wx (RcRow.below hr1 hbx))
  have SO := fun wx hbx => Lib.hid (sound_any (dc := dc) (x1 := x1) (y1 := y1) (x2 := x2) (y2 := y2) (c := 0) (e0 := f) hc ((rcK_form (by rw [hf]; exact hz)).trans hf) rfl hn1 hn2 hdn wx (RcRow.below hr1 hbx))
  have hST : soundT 0 f (soundB ⟨nm, sp, ln, wd, th, cu, mo, ds⟩ ⟨x1, y1, x2, y2⟩) = .tuple #[.bool false, .int .i64 f] := by unfold soundT; rw [if_pos rfl, if_neg hz]
  rw [hST] at SO
  have RE := fun wx => Lib.hid (rectErr_any (w := wx) hf)
  have hzb : (f == 0) = false := beq_eq_false_iff_ne.2 hz
  clear hr hr1 hpl hc hAT hST hz hf
  go_enter Try.func10, Try.ntmps10
  go_wp2_with (first | (go_at_call 18; refine (awake_any _).mono ?_; rintro e w1 ⟨rfl, hb1⟩; have hs1 : w.heap.size + 1 < w1.heap.size := (by have := hb1.size; (try simp at this); omega); have ht1 : w.heap.size < w1.heap.size := (by omega); obtain ⟨hc1, hf1⟩ := bcell hb1) | (go_at_call 24; (refine Calls.mono (PL _).out ?_); rintro e w2 ⟨rfl, hq2⟩; have hb2 := hb1.trans (hq2.mono hb1.size); have hs2 : w.heap.size + 1 < w2.heap.size := (by have := hq2.size; omega); have ht2 : w.heap.size < w2.heap.size := (by omega); obtain ⟨hc2, hf2⟩ := bcell hb2) | (go_at_call 42; (refine Calls.mono (AR _ hb2).out ?_); rintro e w3 ⟨rfl, hq3⟩; have hb3 := hb2.trans (hq3.mono hb2.size); have hs3 : w.heap.size + 1 < w3.heap.size := (by have := hq3.size; omega); have ht3 : w.heap.size < w3.heap.size := (by omega); obtain ⟨hc3, hf3⟩ := bcell hb3) | (go_at_call 43; (refine Calls.mono (DE _ hb3).out ?_); rintro e w4 ⟨rfl, hq4⟩; have hb4 := hb3.trans (hq4.mono hb3.size); have hs4 : w.heap.size + 1 < w4.heap.size := (by have := hq4.size; omega); have ht4 : w.heap.size < w4.heap.size := (by omega); obtain ⟨hc4, hf4⟩ := bcell hb4) | (go_at_call 44; (refine Calls.mono (SO _ hb4).out ?_); rintro e w5 ⟨rfl, hq5⟩; have hb5 := hb4.trans (hq5.mono hb4.size); have hs5 : w.heap.size + 1 < w5.heap.size := (by have := hq5.size; omega); have ht5 : w.heap.size < w5.heap.size := (by omega); obtain ⟨hc5, hf5⟩ := bcell hb5) | (go_at_call 45; (refine Calls.mono (BE _ hb5).out ?_); rintro e w6 ⟨rfl, hq6⟩; have hb6 := hb5.trans (hq6.mono hb5.size); have hs6 : w.heap.size + 1 < w6.heap.size := (by have := hq6.size; omega); have ht6 : w.heap.size < w6.heap.size := (by omega); obtain ⟨hc6, hf6⟩ := bcell hb6) | (go_at_call 46; (refine Calls.mono (DR _ hb6).out ?_); rintro e w7 ⟨rfl, hq7⟩; have hb7 := hb6.trans (hq7.mono hb6.size); have hs7 : w.heap.size + 1 < w7.heap.size := (by have := hq7.size; omega); have ht7 : w.heap.size < w7.heap.size := (by omega); obtain ⟨hc7, hf7⟩ := bcell hb7) | (go_at_call 47; (refine Calls.mono (RE _).out ?_); rintro e w8 ⟨rfl, hq8⟩; have hb8 := hb7.trans (hq8.mono hb7.size); have hs8 : w.heap.size + 1 < w8.heap.size := (by have := hq8.size; omega); have ht8 : w.heap.size < w8.heap.size := (by omega); obtain ⟨hc8, hf8⟩ := bcell hb8))
  go_quiet (fail)
  go_wp2
  go_ret
  exact ⟨rfl, hBL.trans ((below_drewN hb8 _).mono (by simp; omega))⟩
set_option maxHeartbeats 4000000 in
set_option maxRecDepth 20000 in
theorem ldef_out {nm sp : ByteArray} {ln wd th cu mo : Int} {D : Option Addr} {dn dc : Nat} {ds : List Rc} {x1 y1 x2 y2 : Int} (hpl : plainB nm sp dn = true) (hc : bdCode ⟨nm, sp, ln, wd, th, cu, mo, ds⟩ = 0) (hf : formE x1 y1 x2 y2 = 0) (hin : insideB x1 y1 x2 y2 0 0 ln wd = false) (hn1 : nm.size ≤ maxLen) (hn2 : sp.size ≤ maxLen) (hdn : dn ≤ maxLen) (w : World) (hr : RcRow w D dn ds) :
    Calls Try.prog 10 #[.agg #[.string nm, .string sp, .int .i64 ln, .int .i64 wd, .int .i64 th, .int .i64 cu, .int .i64 mo, .slice D dn dc], .agg #[.int .i64 x1, .int .i64 y1, .int .i64 x2, .int .i64 y2]] w fun e w' => e = .returned (.bool true) ∧ Below w.heap.size w w' := by
  have hBL : Below w.heap.size w ((w.alloc (.cells #[.string nm, .string sp, .int .i64 ln, .int .i64 wd, .int .i64 th, .int .i64 cu, .int .i64 mo, .slice D dn dc] 34)).alloc (.cells #[.int .i64 x1, .int .i64 y1, .int .i64 x2, .int .i64 y2] 75)) := ((Below.refl _ _).alloc (Nat.le_refl _) _).alloc (by simp) _
  have hr1 := RcRow.below hr hBL
  have PL := fun wx => Lib.hid (plain_any (nm := nm) (sp := sp) (ln := ln) (wd := wd) (th := th) (cu := cu) (mo := mo) (D := D) (dn := dn) (dc := dc) (w := wx) hpl hn1 hn2 hdn)
  have AR := fun wx hbx => Lib.hid (area_any (dc := dc) hc hn1 hn2 hdn wx (RcRow.below hr1 hbx))
  have hAT : areaT 0 ln wd = .tuple #[.int .i64 (wrap64 (ln * wd)), .int .i64 0] := rfl
  rw [hAT] at AR
  have DE := fun wx hbx => Lib.hid (defOk_any (dc := dc) hc hn1 hn2 hdn wx (RcRow.below hr1 hbx))
  have BE := fun wx hbx => Lib.hid (rboardErr_any (dc := dc) hc hn1 hn2 hdn wx (RcRow.below hr1 hbx))
  have DR := fun wx hbx => Lib.hid (defRef_any (dc := dc) (bdOk_of hc) wx (RcRow.below hr1 hbx))
  have SO := fun wx hbx => Lib.hid (sound_any (dc := dc) (x1 := x1) (y1 := y1) (x2 := x2) (y2 := y2) (c := 0) (e0 := 2) hc (by rw [rcK_ok hf, hin]; rfl) rfl hn1 hn2 hdn wx (RcRow.below hr1 hbx))
  have hST : soundT 0 2 (soundB ⟨nm, sp, ln, wd, th, cu, mo, ds⟩ ⟨x1, y1, x2, y2⟩) = .tuple #[.bool false, .int .i64 2] := by unfold soundT; rw [if_pos rfl, if_neg (by decide)]
  rw [hST] at SO
  have RE := fun wx => Lib.hid (rectErr_any (w := wx) hf)
  have WH := fun wx => Lib.hid (whole_any (nm := nm) (sp := sp) (ln := ln) (wd := wd) (th := th) (cu := cu) (mo := mo) (D := D) (dn := dn) (dc := dc) wx)
  have IN := fun wx => Lib.hid (inside_any (w := wx) hin)
  clear hr hr1 hpl hc hAT hST hf hin
  go_enter Try.func10, Try.ntmps10
  go_wp2_with (first | (go_at_call 18; refine (awake_any _).mono ?_; rintro e w1 ⟨rfl, hb1⟩; have hs1 : w.heap.size + 1 < w1.heap.size := (by have := hb1.size; (try simp at this); omega); have ht1 : w.heap.size < w1.heap.size := (by omega); obtain ⟨hc1, hf1⟩ := bcell hb1) | (go_at_call 24; (refine Calls.mono (PL _).out ?_); rintro e w2 ⟨rfl, hq2⟩; have hb2 := hb1.trans (hq2.mono hb1.size); have hs2 : w.heap.size + 1 < w2.heap.size := (by have := hq2.size; omega); have ht2 : w.heap.size < w2.heap.size := (by omega); obtain ⟨hc2, hf2⟩ := bcell hb2) | (go_at_call 42; (refine Calls.mono (AR _ hb2).out ?_); rintro e w3 ⟨rfl, hq3⟩; have hb3 := hb2.trans (hq3.mono hb2.size); have hs3 : w.heap.size + 1 < w3.heap.size := (by have := hq3.size; omega); have ht3 : w.heap.size < w3.heap.size := (by omega); obtain ⟨hc3, hf3⟩ := bcell hb3) | (go_at_call 43; (refine Calls.mono (DE _ hb3).out ?_); rintro e w4 ⟨rfl, hq4⟩; have hb4 := hb3.trans (hq4.mono hb3.size); have hs4 : w.heap.size + 1 < w4.heap.size := (by have := hq4.size; omega); have ht4 : w.heap.size < w4.heap.size := (by omega); obtain ⟨hc4, hf4⟩ := bcell hb4) | (go_at_call 44; (refine Calls.mono (SO _ hb4).out ?_); rintro e w5 ⟨rfl, hq5⟩; have hb5 := hb4.trans (hq5.mono hb4.size); have hs5 : w.heap.size + 1 < w5.heap.size := (by have := hq5.size; omega); have ht5 : w.heap.size < w5.heap.size := (by omega); obtain ⟨hc5, hf5⟩ := bcell hb5) | (go_at_call 45; (refine Calls.mono (BE _ hb5).out ?_); rintro e w6 ⟨rfl, hq6⟩; have hb6 := hb5.trans (hq6.mono hb5.size); have hs6 : w.heap.size + 1 < w6.heap.size := (by have := hq6.size; omega); have ht6 : w.heap.size < w6.heap.size := (by omega); obtain ⟨hc6, hf6⟩ := bcell hb6) | (go_at_call 46; (refine Calls.mono (DR _ hb6).out ?_); rintro e w7 ⟨rfl, hq7⟩; have hb7 := hb6.trans (hq7.mono hb6.size); have hs7 : w.heap.size + 1 < w7.heap.size := (by have := hq7.size; omega); have ht7 : w.heap.size < w7.heap.size := (by omega); obtain ⟨hc7, hf7⟩ := bcell hb7) | (go_at_call 47; (refine Calls.mono (RE _).out ?_); rintro e w8 ⟨rfl, hq8⟩; have hb8 := hb7.trans (hq8.mono hb7.size); have hs8 : w.heap.size + 1 < w8.heap.size := (by have := hq8.size; omega); have ht8 : w.heap.size < w8.heap.size := (by omega); obtain ⟨hc8, hf8⟩ := bcell hb8))
  have QB := Lib.hid ht8
  have QK := Lib.hid hs8
  have K8 : ∀ b o, b < w.heap.size + 2 → w8.cell? ⟨b, o, none⟩ = _ := fun b o h => hb8.cell (p := ⟨b, o, none⟩) (by simp; omega)
  have q0 := K8 w.heap.size 0 (by omega); have q1 := K8 w.heap.size 1 (by omega); have q2 := K8 w.heap.size 2 (by omega); have q3 := K8 w.heap.size 3 (by omega); have q4 := K8 w.heap.size 4 (by omega); have q5 := K8 w.heap.size 5 (by omega); have q6 := K8 w.heap.size 6 (by omega); have q7 := K8 w.heap.size 7 (by omega)
  have r0 := K8 (w.heap.size + 1) 0 (by omega); have r1 := K8 (w.heap.size + 1) 1 (by omega); have r2 := K8 (w.heap.size + 1) 2 (by omega); have r3 := K8 (w.heap.size + 1) 3 (by omega)
  simp [go_sem] at q0 q1 q2 q3 q4 q5 q6 q7 r0 r1 r2 r3
  go_region_held3 (fun wx => Below w8.heap.size w8 wx ∧ wx.cell? ⟨w.heap.size, 0, none⟩ = some (.string nm) ∧ wx.cell? ⟨w.heap.size, 1, none⟩ = some (.string sp) ∧ wx.cell? ⟨w.heap.size, 2, none⟩ = some (.int .i64 ln) ∧ wx.cell? ⟨w.heap.size, 3, none⟩ = some (.int .i64 wd) ∧ wx.cell? ⟨w.heap.size, 4, none⟩ = some (.int .i64 th) ∧ wx.cell? ⟨w.heap.size, 5, none⟩ = some (.int .i64 cu) ∧ wx.cell? ⟨w.heap.size, 6, none⟩ = some (.int .i64 mo) ∧ wx.cell? ⟨w.heap.size, 7, none⟩ = some (.slice D dn dc) ∧ wx.cell? ⟨w.heap.size + 1, 0, none⟩ = some (.int .i64 x1) ∧ wx.cell? ⟨w.heap.size + 1, 0 + 1, none⟩ = some (.int .i64 y1) ∧ wx.cell? ⟨w.heap.size + 1, 0 + 2, none⟩ = some (.int .i64 x2) ∧ wx.cell? ⟨w.heap.size + 1, 0 + 3, none⟩ = some (.int .i64 y2)) ((first | (refine ⟨(Below.refl _ _).drew, ?_, ?_, ?_, ?_, ?_, ?_, ?_, ?_, ?_, ?_, ?_, ?_⟩ <;> assumption) | (refine ⟨?_, ?_, ?_, ?_, ?_, ?_, ?_, ?_, ?_, ?_, ?_, ?_, ?_⟩ <;> assumption) | (apply kept12 <;> first | assumption | exact QB.out | exact QK.out))) (first | (go_at_call 49; refine Calls.mono (WH _).out ?_; rintro e w' ⟨rfl, hbx⟩) | (go_at_call 48; refine Calls.mono (IN _).out ?_; rintro e w' ⟨rfl, hbx⟩))
  obtain ⟨hWx, -⟩ := ‹Below w8.heap.size w8 w' ∧ _›
  go_wp2
  go_ret
  exact ⟨rfl, hBL.trans ((hb8.trans (hWx.mono hb8.size)).mono (by simp; omega))⟩
theorem inside_iff {a b c d x y u v : Int} : insideB a b c d x y u v = true ↔ x ≤ a ∧ c ≤ u ∧ y ≤ b ∧ d ≤ v := by unfold insideB; simp
theorem formE_iff {x1 y1 x2 y2 : Int} : formE x1 y1 x2 y2 = 0 ↔ x1 < x2 ∧ y1 < y2 := by
  unfold formE
  cases h : decide (x1 < x2) && decide (y1 < y2)
  · simp at h ⊢; omega
  · simp at h ⊢; omega
set_option maxHeartbeats 4000000 in
set_option maxRecDepth 20000 in
theorem ldef_in_true {nm sp : ByteArray} {ln wd th cu mo : Int} {D : Option Addr} {dn dc : Nat} {ds : List Rc} {x1 y1 x2 y2 : Int} (hv : soundB ⟨nm, sp, ln, wd, th, cu, mo, ds⟩ ⟨x1, y1, x2, y2⟩ = true) (hpl : plainB nm sp dn = true) (hc : bdCode ⟨nm, sp, ln, wd, th, cu, mo, ds⟩ = 0) (hf : formE x1 y1 x2 y2 = 0) (hin : insideB x1 y1 x2 y2 0 0 ln wd = true) (hn1 : nm.size ≤ maxLen) (hn2 : sp.size ≤ maxLen) (hdn : dn ≤ maxLen) (w : World) (hr : RcRow w D dn ds) :
    Calls Try.prog 10 #[.agg #[.string nm, .string sp, .int .i64 ln, .int .i64 wd, .int .i64 th, .int .i64 cu, .int .i64 mo, .slice D dn dc], .agg #[.int .i64 x1, .int .i64 y1, .int .i64 x2, .int .i64 y2]] w fun e w' => e = .returned (.bool true) ∧ Below w.heap.size w w' := by
  have hBL : Below w.heap.size w ((w.alloc (.cells #[.string nm, .string sp, .int .i64 ln, .int .i64 wd, .int .i64 th, .int .i64 cu, .int .i64 mo, .slice D dn dc] 34)).alloc (.cells #[.int .i64 x1, .int .i64 y1, .int .i64 x2, .int .i64 y2] 75)) := ((Below.refl _ _).alloc (Nat.le_refl _) _).alloc (by simp) _
  have hr1 := RcRow.below hr hBL
  have PL := fun wx => Lib.hid (plain_any (nm := nm) (sp := sp) (ln := ln) (wd := wd) (th := th) (cu := cu) (mo := mo) (D := D) (dn := dn) (dc := dc) (w := wx) hpl hn1 hn2 hdn)
  have AR := fun wx hbx => Lib.hid (area_any (dc := dc) hc hn1 hn2 hdn wx (RcRow.below hr1 hbx))
  have hAT : areaT 0 ln wd = .tuple #[.int .i64 (wrap64 (ln * wd)), .int .i64 0] := rfl
  rw [hAT] at AR
  have DE := fun wx hbx => Lib.hid (defOk_any (dc := dc) hc hn1 hn2 hdn wx (RcRow.below hr1 hbx))
  have BE := fun wx hbx => Lib.hid (rboardErr_any (dc := dc) hc hn1 hn2 hdn wx (RcRow.below hr1 hbx))
  have DR := fun wx hbx => Lib.hid (defRef_any (dc := dc) (bdOk_of hc) wx (RcRow.below hr1 hbx))
  have SO := fun wx hbx => Lib.hid (sound_any (dc := dc) (x1 := x1) (y1 := y1) (x2 := x2) (y2 := y2) (c := 0) (e0 := 0) hc (by rw [rcK_ok hf, hin]; rfl) hv hn1 hn2 hdn wx (RcRow.below hr1 hbx))
  have hST : soundT 0 0 true = .tuple #[.bool true, .int .i64 0] := rfl
  rw [hST] at SO
  have RE := fun wx => Lib.hid (rectErr_any (w := wx) hf)
  have WH := fun wx => Lib.hid (whole_any (nm := nm) (sp := sp) (ln := ln) (wd := wd) (th := th) (cu := cu) (mo := mo) (D := D) (dn := dn) (dc := dc) wx)
  have IN := fun wx => Lib.hid (inside_any (w := wx) hin)
  have IS := fun wx hbx => Lib.hid (isSound_any (dc := dc) hv hdn wx (RcRow.below hr1 hbx))
  obtain ⟨i1, i2, i3, i4⟩ := inside_iff.1 hin
  obtain ⟨f1, f2⟩ := formE_iff.1 hf
  have hl1 := (bdOk_of hc).l1
  simp only at hl1
  have S2 : 2 ≤ x2 - x1 → ∀ wx, Below w.heap.size w wx → Hid (Calls Try.prog 44 #[.agg #[.string nm, .string sp, .int .i64 ln, .int .i64 wd, .int .i64 th, .int .i64 cu, .int .i64 mo, .slice D dn dc], .agg #[.int .i64 (x1 + 1), .int .i64 y1, .int .i64 x2, .int .i64 y2]] wx fun e w' => e = .returned (.tuple #[.bool (soundB ⟨nm, sp, ln, wd, th, cu, mo, ds⟩ ⟨x1 + 1, y1, x2, y2⟩), .int .i64 0]) ∧ Below wx.heap.size wx w') := fun h2 wx hbx => Lib.hid (sound_any (dc := dc) (c := 0) (e0 := 0) hc (by rw [rcK_ok (formE_iff.2 ⟨by omega, f2⟩), inside_iff.2 ⟨by omega, i2, i3, i4⟩]; rfl) rfl hn1 hn2 hdn wx (RcRow.below hr hbx))
  rw [sound_less hv] at S2
  clear hr hr1 hpl hc hAT hST hf hin hv
  go_enter Try.func10, Try.ntmps10
  go_wp2_with (first | (go_at_call 18; refine (awake_any _).mono ?_; rintro e w1 ⟨rfl, hb1⟩; have hs1 : w.heap.size + 1 < w1.heap.size := (by have := hb1.size; (try simp at this); omega); have ht1 : w.heap.size < w1.heap.size := (by omega); obtain ⟨hc1, hf1⟩ := bcell hb1) | (go_at_call 24; (refine Calls.mono (PL _).out ?_); rintro e w2 ⟨rfl, hq2⟩; have hb2 := hb1.trans (hq2.mono hb1.size); have hs2 : w.heap.size + 1 < w2.heap.size := (by have := hq2.size; omega); have ht2 : w.heap.size < w2.heap.size := (by omega); obtain ⟨hc2, hf2⟩ := bcell hb2) | (go_at_call 42; (refine Calls.mono (AR _ hb2).out ?_); rintro e w3 ⟨rfl, hq3⟩; have hb3 := hb2.trans (hq3.mono hb2.size); have hs3 : w.heap.size + 1 < w3.heap.size := (by have := hq3.size; omega); have ht3 : w.heap.size < w3.heap.size := (by omega); obtain ⟨hc3, hf3⟩ := bcell hb3) | (go_at_call 43; (refine Calls.mono (DE _ hb3).out ?_); rintro e w4 ⟨rfl, hq4⟩; have hb4 := hb3.trans (hq4.mono hb3.size); have hs4 : w.heap.size + 1 < w4.heap.size := (by have := hq4.size; omega); have ht4 : w.heap.size < w4.heap.size := (by omega); obtain ⟨hc4, hf4⟩ := bcell hb4) | (go_at_call 44; (refine Calls.mono (SO _ hb4).out ?_); rintro e w5 ⟨rfl, hq5⟩; have hb5 := hb4.trans (hq5.mono hb4.size); have hs5 : w.heap.size + 1 < w5.heap.size := (by have := hq5.size; omega); have ht5 : w.heap.size < w5.heap.size := (by omega); obtain ⟨hc5, hf5⟩ := bcell hb5) | (go_at_call 45; (refine Calls.mono (BE _ hb5).out ?_); rintro e w6 ⟨rfl, hq6⟩; have hb6 := hb5.trans (hq6.mono hb5.size); have hs6 : w.heap.size + 1 < w6.heap.size := (by have := hq6.size; omega); have ht6 : w.heap.size < w6.heap.size := (by omega); obtain ⟨hc6, hf6⟩ := bcell hb6) | (go_at_call 46; (refine Calls.mono (DR _ hb6).out ?_); rintro e w7 ⟨rfl, hq7⟩; have hb7 := hb6.trans (hq7.mono hb6.size); have hs7 : w.heap.size + 1 < w7.heap.size := (by have := hq7.size; omega); have ht7 : w.heap.size < w7.heap.size := (by omega); obtain ⟨hc7, hf7⟩ := bcell hb7) | (go_at_call 47; (refine Calls.mono (RE _).out ?_); rintro e w8 ⟨rfl, hq8⟩; have hb8 := hb7.trans (hq8.mono hb7.size); have hs8 : w.heap.size + 1 < w8.heap.size := (by have := hq8.size; omega); have ht8 : w.heap.size < w8.heap.size := (by omega); obtain ⟨hc8, hf8⟩ := bcell hb8))
  have QB := Lib.hid ht8
  have QK := Lib.hid hs8
  have K8 : ∀ b o, b < w.heap.size + 2 → w8.cell? ⟨b, o, none⟩ = _ := fun b o h => hb8.cell (p := ⟨b, o, none⟩) (by simp; omega)
  have q0 := K8 w.heap.size 0 (by omega); have q1 := K8 w.heap.size 1 (by omega); have q2 := K8 w.heap.size 2 (by omega); have q3 := K8 w.heap.size 3 (by omega); have q4 := K8 w.heap.size 4 (by omega); have q5 := K8 w.heap.size 5 (by omega); have q6 := K8 w.heap.size 6 (by omega); have q7 := K8 w.heap.size 7 (by omega)
  have r0 := K8 (w.heap.size + 1) 0 (by omega); have r1 := K8 (w.heap.size + 1) 1 (by omega); have r2 := K8 (w.heap.size + 1) 2 (by omega); have r3 := K8 (w.heap.size + 1) 3 (by omega)
  simp [go_sem] at q0 q1 q2 q3 q4 q5 q6 q7 r0 r1 r2 r3
  go_region_held3 (fun wx => Below w8.heap.size w8 wx ∧ wx.cell? ⟨w.heap.size, 0, none⟩ = some (.string nm) ∧ wx.cell? ⟨w.heap.size, 1, none⟩ = some (.string sp) ∧ wx.cell? ⟨w.heap.size, 2, none⟩ = some (.int .i64 ln) ∧ wx.cell? ⟨w.heap.size, 3, none⟩ = some (.int .i64 wd) ∧ wx.cell? ⟨w.heap.size, 4, none⟩ = some (.int .i64 th) ∧ wx.cell? ⟨w.heap.size, 5, none⟩ = some (.int .i64 cu) ∧ wx.cell? ⟨w.heap.size, 6, none⟩ = some (.int .i64 mo) ∧ wx.cell? ⟨w.heap.size, 7, none⟩ = some (.slice D dn dc) ∧ wx.cell? ⟨w.heap.size + 1, 0, none⟩ = some (.int .i64 x1) ∧ wx.cell? ⟨w.heap.size + 1, 0 + 1, none⟩ = some (.int .i64 y1) ∧ wx.cell? ⟨w.heap.size + 1, 0 + 2, none⟩ = some (.int .i64 x2) ∧ wx.cell? ⟨w.heap.size + 1, 0 + 3, none⟩ = some (.int .i64 y2)) ((first | (refine ⟨(Below.refl _ _).drew, ?_, ?_, ?_, ?_, ?_, ?_, ?_, ?_, ?_, ?_, ?_, ?_⟩ <;> assumption) | (refine ⟨?_, ?_, ?_, ?_, ?_, ?_, ?_, ?_, ?_, ?_, ?_, ?_, ?_⟩ <;> assumption) | (apply kept12 <;> first | assumption | exact QB.out | exact QK.out))) (first | (go_at_call 49; refine Calls.mono (WH _).out ?_; rintro e w' ⟨rfl, hbx⟩) | (go_at_call 48; refine Calls.mono (IN _).out ?_; rintro e w' ⟨rfl, hbx⟩))
  obtain ⟨hq9, z0, z1, z2, z3, z4, z5, z6, z7, y0, y1', y2', y3⟩ := ‹Below w8.heap.size w8 w' ∧ _›
  have hb9 := hb8.trans (hq9.mono hb8.size)
  have hs9 : w.heap.size + 1 < w'.heap.size := by have := hq9.size; omega
  have ht9 : w.heap.size < w'.heap.size := by omega
  have fz := hb9.frozen (p := ⟨w.heap.size + 1, 0, none⟩) (by simp)
  simp [go_sem] at fz
  clear q0 q1 q2 q3 q4 q5 q6 q7 r0 r1 r2 r3 K8 hc1 hf1 hc2 hf2 hc3 hf3 hc4 hf4 hc5 hf5 hc6 hf6 hc7 hf7 hc8 hf8 AR DE BE DR SO RE WH IN PL
  by_cases h2 : x2 - x1 < 2
  · have h2b : decide (x2 - x1 < 2) = true := decide_eq_true h2
    clear S2
    go_wp2_with (go_at_call 50; (refine Calls.mono (IS _ hb9).out ?_); rintro e w10 ⟨rfl, hq10⟩; have hb10 := hb9.trans (hq10.mono hb9.size); obtain ⟨hc10, hf10⟩ := bcell hq10)
    go_ret
    exact ⟨rfl, hBL.trans (hb10.mono (by simp; omega))⟩
  · have h2b : decide (x2 - x1 < 2) = false := decide_eq_false h2
    have S3 := S2 (by omega)
    clear S2
    go_wp2_with (first | (go_at_call 50; (refine Calls.mono (IS _ hb9).out ?_); rintro e w10 ⟨rfl, hq10⟩; have hb10 := hb9.trans (hq10.mono hb9.size); have hs10 : w.heap.size + 1 < w10.heap.size := (by have := hq10.size; omega); have ht10 : w.heap.size < w10.heap.size := (by omega); obtain ⟨hc10, hf10⟩ := bcell hq10) | (go_at_call 44; refine Calls.mono (S3 _ ((hBL.trans (hb10.mono (by simp; omega))).setCell (by simp) _)).out ?_; rintro e w11 ⟨rfl, hq11⟩))
    go_ret
    exact ⟨rfl, (((hBL.trans (hb10.mono (by simp; omega))).setCell (by simp) _)).trans (hq11.mono (by simp; omega))⟩
set_option maxHeartbeats 4000000 in
set_option maxRecDepth 20000 in
theorem ldef_in_false {nm sp : ByteArray} {ln wd th cu mo : Int} {D : Option Addr} {dn dc : Nat} {ds : List Rc} {x1 y1 x2 y2 : Int} (hv : soundB ⟨nm, sp, ln, wd, th, cu, mo, ds⟩ ⟨x1, y1, x2, y2⟩ = false) (hpl : plainB nm sp dn = true) (hc : bdCode ⟨nm, sp, ln, wd, th, cu, mo, ds⟩ = 0) (hf : formE x1 y1 x2 y2 = 0) (hin : insideB x1 y1 x2 y2 0 0 ln wd = true) (hn1 : nm.size ≤ maxLen) (hn2 : sp.size ≤ maxLen) (hdn : dn ≤ maxLen) (w : World) (hr : RcRow w D dn ds) :
    Calls Try.prog 10 #[.agg #[.string nm, .string sp, .int .i64 ln, .int .i64 wd, .int .i64 th, .int .i64 cu, .int .i64 mo, .slice D dn dc], .agg #[.int .i64 x1, .int .i64 y1, .int .i64 x2, .int .i64 y2]] w fun e w' => e = .returned (.bool true) ∧ Below w.heap.size w w' := by
  have hBL : Below w.heap.size w ((w.alloc (.cells #[.string nm, .string sp, .int .i64 ln, .int .i64 wd, .int .i64 th, .int .i64 cu, .int .i64 mo, .slice D dn dc] 34)).alloc (.cells #[.int .i64 x1, .int .i64 y1, .int .i64 x2, .int .i64 y2] 75)) := ((Below.refl _ _).alloc (Nat.le_refl _) _).alloc (by simp) _
  have hr1 := RcRow.below hr hBL
  have PL := fun wx => Lib.hid (plain_any (nm := nm) (sp := sp) (ln := ln) (wd := wd) (th := th) (cu := cu) (mo := mo) (D := D) (dn := dn) (dc := dc) (w := wx) hpl hn1 hn2 hdn)
  have AR := fun wx hbx => Lib.hid (area_any (dc := dc) hc hn1 hn2 hdn wx (RcRow.below hr1 hbx))
  have hAT : areaT 0 ln wd = .tuple #[.int .i64 (wrap64 (ln * wd)), .int .i64 0] := rfl
  rw [hAT] at AR
  have DE := fun wx hbx => Lib.hid (defOk_any (dc := dc) hc hn1 hn2 hdn wx (RcRow.below hr1 hbx))
  have BE := fun wx hbx => Lib.hid (rboardErr_any (dc := dc) hc hn1 hn2 hdn wx (RcRow.below hr1 hbx))
  have DR := fun wx hbx => Lib.hid (defRef_any (dc := dc) (bdOk_of hc) wx (RcRow.below hr1 hbx))
  have SO := fun wx hbx => Lib.hid (sound_any (dc := dc) (x1 := x1) (y1 := y1) (x2 := x2) (y2 := y2) (c := 0) (e0 := 0) hc (by rw [rcK_ok hf, hin]; rfl) hv hn1 hn2 hdn wx (RcRow.below hr1 hbx))
  have hST : soundT 0 0 false = .tuple #[.bool false, .int .i64 0] := rfl
  rw [hST] at SO
  have RE := fun wx => Lib.hid (rectErr_any (w := wx) hf)
  have WH := fun wx => Lib.hid (whole_any (nm := nm) (sp := sp) (ln := ln) (wd := wd) (th := th) (cu := cu) (mo := mo) (D := D) (dn := dn) (dc := dc) wx)
  have IN := fun wx => Lib.hid (inside_any (w := wx) hin)
  have IS := fun wx hbx => Lib.hid (isSound_any (dc := dc) hv hdn wx (RcRow.below hr1 hbx))
  obtain ⟨i1, i2, i3, i4⟩ := inside_iff.1 hin
  obtain ⟨f1, f2⟩ := formE_iff.1 hf
  have hl1 := (bdOk_of hc).l1
  simp only at hl1
  have S2 : 2 ≤ x2 - x1 → ∀ wx, Below w.heap.size w wx → Hid (Calls Try.prog 44 #[.agg #[.string nm, .string sp, .int .i64 ln, .int .i64 wd, .int .i64 th, .int .i64 cu, .int .i64 mo, .slice D dn dc], .agg #[.int .i64 (x1 + 1), .int .i64 y1, .int .i64 x2, .int .i64 y2]] wx fun e w' => e = .returned (.tuple #[.bool (soundB ⟨nm, sp, ln, wd, th, cu, mo, ds⟩ ⟨x1 + 1, y1, x2, y2⟩), .int .i64 0]) ∧ Below wx.heap.size wx w') := fun h2 wx hbx => Lib.hid (sound_any (dc := dc) (c := 0) (e0 := 0) hc (by rw [rcK_ok (formE_iff.2 ⟨by omega, f2⟩), inside_iff.2 ⟨by omega, i2, i3, i4⟩]; rfl) rfl hn1 hn2 hdn wx (RcRow.below hr hbx))
  obtain ⟨v2, hv2⟩ : ∃ v2, soundB ⟨nm, sp, ln, wd, th, cu, mo, ds⟩ ⟨x1 + 1, y1, x2, y2⟩ = v2 := ⟨_, rfl⟩
  rw [hv2] at S2
  clear hv2
  clear hr hr1 hpl hc hAT hST hf hin hv
  go_enter Try.func10, Try.ntmps10
  go_wp2_with (first | (go_at_call 18; refine (awake_any _).mono ?_; rintro e w1 ⟨rfl, hb1⟩; have hs1 : w.heap.size + 1 < w1.heap.size := (by have := hb1.size; (try simp at this); omega); have ht1 : w.heap.size < w1.heap.size := (by omega); obtain ⟨hc1, hf1⟩ := bcell hb1) | (go_at_call 24; (refine Calls.mono (PL _).out ?_); rintro e w2 ⟨rfl, hq2⟩; have hb2 := hb1.trans (hq2.mono hb1.size); have hs2 : w.heap.size + 1 < w2.heap.size := (by have := hq2.size; omega); have ht2 : w.heap.size < w2.heap.size := (by omega); obtain ⟨hc2, hf2⟩ := bcell hb2) | (go_at_call 42; (refine Calls.mono (AR _ hb2).out ?_); rintro e w3 ⟨rfl, hq3⟩; have hb3 := hb2.trans (hq3.mono hb2.size); have hs3 : w.heap.size + 1 < w3.heap.size := (by have := hq3.size; omega); have ht3 : w.heap.size < w3.heap.size := (by omega); obtain ⟨hc3, hf3⟩ := bcell hb3) | (go_at_call 43; (refine Calls.mono (DE _ hb3).out ?_); rintro e w4 ⟨rfl, hq4⟩; have hb4 := hb3.trans (hq4.mono hb3.size); have hs4 : w.heap.size + 1 < w4.heap.size := (by have := hq4.size; omega); have ht4 : w.heap.size < w4.heap.size := (by omega); obtain ⟨hc4, hf4⟩ := bcell hb4) | (go_at_call 44; (refine Calls.mono (SO _ hb4).out ?_); rintro e w5 ⟨rfl, hq5⟩; have hb5 := hb4.trans (hq5.mono hb4.size); have hs5 : w.heap.size + 1 < w5.heap.size := (by have := hq5.size; omega); have ht5 : w.heap.size < w5.heap.size := (by omega); obtain ⟨hc5, hf5⟩ := bcell hb5) | (go_at_call 45; (refine Calls.mono (BE _ hb5).out ?_); rintro e w6 ⟨rfl, hq6⟩; have hb6 := hb5.trans (hq6.mono hb5.size); have hs6 : w.heap.size + 1 < w6.heap.size := (by have := hq6.size; omega); have ht6 : w.heap.size < w6.heap.size := (by omega); obtain ⟨hc6, hf6⟩ := bcell hb6) | (go_at_call 46; (refine Calls.mono (DR _ hb6).out ?_); rintro e w7 ⟨rfl, hq7⟩; have hb7 := hb6.trans (hq7.mono hb6.size); have hs7 : w.heap.size + 1 < w7.heap.size := (by have := hq7.size; omega); have ht7 : w.heap.size < w7.heap.size := (by omega); obtain ⟨hc7, hf7⟩ := bcell hb7) | (go_at_call 47; (refine Calls.mono (RE _).out ?_); rintro e w8 ⟨rfl, hq8⟩; have hb8 := hb7.trans (hq8.mono hb7.size); have hs8 : w.heap.size + 1 < w8.heap.size := (by have := hq8.size; omega); have ht8 : w.heap.size < w8.heap.size := (by omega); obtain ⟨hc8, hf8⟩ := bcell hb8))
  have QB := Lib.hid ht8
  have QK := Lib.hid hs8
  have K8 : ∀ b o, b < w.heap.size + 2 → w8.cell? ⟨b, o, none⟩ = _ := fun b o h => hb8.cell (p := ⟨b, o, none⟩) (by simp; omega)
  have q0 := K8 w.heap.size 0 (by omega); have q1 := K8 w.heap.size 1 (by omega); have q2 := K8 w.heap.size 2 (by omega); have q3 := K8 w.heap.size 3 (by omega); have q4 := K8 w.heap.size 4 (by omega); have q5 := K8 w.heap.size 5 (by omega); have q6 := K8 w.heap.size 6 (by omega); have q7 := K8 w.heap.size 7 (by omega)
  have r0 := K8 (w.heap.size + 1) 0 (by omega); have r1 := K8 (w.heap.size + 1) 1 (by omega); have r2 := K8 (w.heap.size + 1) 2 (by omega); have r3 := K8 (w.heap.size + 1) 3 (by omega)
  simp [go_sem] at q0 q1 q2 q3 q4 q5 q6 q7 r0 r1 r2 r3
  go_region_held3 (fun wx => Below w8.heap.size w8 wx ∧ wx.cell? ⟨w.heap.size, 0, none⟩ = some (.string nm) ∧ wx.cell? ⟨w.heap.size, 1, none⟩ = some (.string sp) ∧ wx.cell? ⟨w.heap.size, 2, none⟩ = some (.int .i64 ln) ∧ wx.cell? ⟨w.heap.size, 3, none⟩ = some (.int .i64 wd) ∧ wx.cell? ⟨w.heap.size, 4, none⟩ = some (.int .i64 th) ∧ wx.cell? ⟨w.heap.size, 5, none⟩ = some (.int .i64 cu) ∧ wx.cell? ⟨w.heap.size, 6, none⟩ = some (.int .i64 mo) ∧ wx.cell? ⟨w.heap.size, 7, none⟩ = some (.slice D dn dc) ∧ wx.cell? ⟨w.heap.size + 1, 0, none⟩ = some (.int .i64 x1) ∧ wx.cell? ⟨w.heap.size + 1, 0 + 1, none⟩ = some (.int .i64 y1) ∧ wx.cell? ⟨w.heap.size + 1, 0 + 2, none⟩ = some (.int .i64 x2) ∧ wx.cell? ⟨w.heap.size + 1, 0 + 3, none⟩ = some (.int .i64 y2)) ((first | (refine ⟨(Below.refl _ _).drew, ?_, ?_, ?_, ?_, ?_, ?_, ?_, ?_, ?_, ?_, ?_, ?_⟩ <;> assumption) | (refine ⟨?_, ?_, ?_, ?_, ?_, ?_, ?_, ?_, ?_, ?_, ?_, ?_, ?_⟩ <;> assumption) | (apply kept12 <;> first | assumption | exact QB.out | exact QK.out))) (first | (go_at_call 49; refine Calls.mono (WH _).out ?_; rintro e w' ⟨rfl, hbx⟩) | (go_at_call 48; refine Calls.mono (IN _).out ?_; rintro e w' ⟨rfl, hbx⟩))
  obtain ⟨hq9, z0, z1, z2, z3, z4, z5, z6, z7, y0, y1', y2', y3⟩ := ‹Below w8.heap.size w8 w' ∧ _›
  have hb9 := hb8.trans (hq9.mono hb8.size)
  have hs9 : w.heap.size + 1 < w'.heap.size := by have := hq9.size; omega
  have ht9 : w.heap.size < w'.heap.size := by omega
  have fz := hb9.frozen (p := ⟨w.heap.size + 1, 0, none⟩) (by simp)
  simp [go_sem] at fz
  clear q0 q1 q2 q3 q4 q5 q6 q7 r0 r1 r2 r3 K8 hc1 hf1 hc2 hf2 hc3 hf3 hc4 hf4 hc5 hf5 hc6 hf6 hc7 hf7 hc8 hf8 AR DE BE DR SO RE WH IN PL
  by_cases h2 : x2 - x1 < 2
  · have h2b : decide (x2 - x1 < 2) = true := decide_eq_true h2
    clear S2
    go_wp2_with (go_at_call 50; (refine Calls.mono (IS _ hb9).out ?_); rintro e w10 ⟨rfl, hq10⟩; have hb10 := hb9.trans (hq10.mono hb9.size); obtain ⟨hc10, hf10⟩ := bcell hq10)
    go_ret
    exact ⟨rfl, hBL.trans (hb10.mono (by simp; omega))⟩
  · have h2b : decide (x2 - x1 < 2) = false := decide_eq_false h2
    have S3 := S2 (by omega)
    clear S2
    go_wp2_with (first | (go_at_call 50; (refine Calls.mono (IS _ hb9).out ?_); rintro e w10 ⟨rfl, hq10⟩; have hb10 := hb9.trans (hq10.mono hb9.size); have hs10 : w.heap.size + 1 < w10.heap.size := (by have := hq10.size; omega); have ht10 : w.heap.size < w10.heap.size := (by omega); obtain ⟨hc10, hf10⟩ := bcell hq10) | (go_at_call 44; refine Calls.mono (S3 _ ((hBL.trans (hb10.mono (by simp; omega))).setCell (by simp) _)).out ?_; rintro e w11 ⟨rfl, hq11⟩))
    all_goals
      go_ret
      exact ⟨rfl, (((hBL.trans (hb10.mono (by simp; omega))).setCell (by simp) _)).trans (hq11.mono (by simp; omega))⟩
theorem ldef_law (bd : Bd) (D : Option Addr) (dn dc : Nat) (x1 y1 x2 y2 : Int) (hb : bd.nm.size ≤ maxLen ∧ bd.sp.size ≤ maxLen ∧ dn ≤ maxLen ∧ dn ≤ dc) (w : World) (hr : RcRow w D dn bd.df) :
    Calls Try.prog 10 #[.agg #[.string bd.nm, .string bd.sp, .int .i64 bd.ln, .int .i64 bd.wd, .int .i64 bd.th, .int .i64 bd.cu, .int .i64 bd.mo, .slice D dn dc], .agg #[.int .i64 x1, .int .i64 y1, .int .i64 x2, .int .i64 y2]] w fun e w' => e = .returned (.bool true) ∧ Below w.heap.size w w' := by
  obtain ⟨nm, sp, ln, wd, th, cu, mo, ds⟩ := bd
  simp only at hb hr ⊢
  cases hp : plainB nm sp dn
  · exact ldef_skip hp hb.1 hb.2.1 hb.2.2.1 w
  · by_cases hc : bdCode ⟨nm, sp, ln, wd, th, cu, mo, ds⟩ = 0
    · by_cases hf : formE x1 y1 x2 y2 = 0
      · cases hi : insideB x1 y1 x2 y2 0 0 ln wd
        · exact ldef_out hp hc hf hi hb.1 hb.2.1 hb.2.2.1 w hr
        · cases hv : soundB ⟨nm, sp, ln, wd, th, cu, mo, ds⟩ ⟨x1, y1, x2, y2⟩
          · exact ldef_in_false hv hp hc hf hi hb.1 hb.2.1 hb.2.2.1 w hr
          · exact ldef_in_true hv hp hc hf hi hb.1 hb.2.1 hb.2.2.1 w hr
      · exact ldef_form hp hc rfl hf hb.1 hb.2.1 hb.2.2.1 w hr
    · exact ldef_err hp rfl hc hb.1 hb.2.1 hb.2.2.1 w hr
end Go.Proofs.Ytnjbhidncicfiaa
