/- The law TimberClear: what isn't plain, and boards with an error. -/
import Derived.Test.YtnjbhidncicfiaaEA
import Derived.Test.YtnjbhidncicfiaaB6
namespace Go.Proofs.Ytnjbhidncicfiaa
open Go.RowKit

set_option maxHeartbeats 1000000 in
set_option maxRecDepth 20000 in
theorem lclear_skip {nm sp : ByteArray} {ln wd th cu mo : Int} {D : Option Addr} {dn dc : Nat} {q : Int} (hpl : plainB nm sp dn = false) (hn1 : nm.size ≤ maxLen) (hn2 : sp.size ≤ maxLen) (hdn : dn ≤ maxLen) (w : World) :
    Calls Try.prog 11 #[.agg #[.string nm, .string sp, .int .i64 ln, .int .i64 wd, .int .i64 th, .int .i64 cu, .int .i64 mo, .slice D dn dc], .int .i64 q] w fun e w' => e = .returned (.bool true) ∧ Below w.heap.size w w' := by
  have PL := fun wx => Lib.hid (plain_any (nm := nm) (sp := sp) (ln := ln) (wd := wd) (th := th) (cu := cu) (mo := mo) (D := D) (dn := dn) (dc := dc) (w := wx) hpl hn1 hn2 hdn)
  clear hpl
  go_enter Try.func11, Try.ntmps11
  go_wp2_with (first | (go_at_call 18; refine (awake_any _).mono ?_; rintro e w1 ⟨rfl, hb1⟩; have hs1 : w.heap.size < w1.heap.size := (by have := hb1.size; (try simp at this); omega); obtain ⟨hc1, hf1⟩ := bcell hb1) | (go_at_call 24; (refine Calls.mono (PL _).out ?_); rintro e w3 ⟨rfl, hb3⟩))
  go_ret
  exact ⟨rfl, (((Below.refl _ _).alloc (Nat.le_refl _) _).trans (hb1.mono (by simp))).trans (hb3.mono (by omega))⟩
set_option maxHeartbeats 1000000 in
set_option maxRecDepth 20000 in
theorem lclear_err {nm sp : ByteArray} {ln wd th cu mo : Int} {D : Option Addr} {dn dc : Nat} {ds : List Rc} {c q : Int} (hpl : plainB nm sp dn = true) (hc : bdCode ⟨nm, sp, ln, wd, th, cu, mo, ds⟩ = c) (hz : c ≠ 0) (hn1 : nm.size ≤ maxLen) (hn2 : sp.size ≤ maxLen) (hdn : dn ≤ maxLen) (w : World) (hr : RcRow w D dn ds) (_hcp : dn ≤ dc) :
    Calls Try.prog 11 #[.agg #[.string nm, .string sp, .int .i64 ln, .int .i64 wd, .int .i64 th, .int .i64 cu, .int .i64 mo, .slice D dn dc], .int .i64 q] w fun e w' => e = .returned (.bool true) ∧ Below w.heap.size w w' := by
  have hBL : Below w.heap.size w (w.alloc (.cells #[.string nm, .string sp, .int .i64 ln, .int .i64 wd, .int .i64 th, .int .i64 cu, .int .i64 mo, .slice D dn dc] 34)) := (Below.refl _ _).alloc (Nat.le_refl _) _
  have hr1 := RcRow.below hr hBL
  have PL := fun wx => Lib.hid (plain_any (nm := nm) (sp := sp) (ln := ln) (wd := wd) (th := th) (cu := cu) (mo := mo) (D := D) (dn := dn) (dc := dc) (w := wx) hpl hn1 hn2 hdn)
  have CE := fun wx hb => Lib.hid (clear_err (dc := dc) hc hz hn1 hn2 hdn wx (RcRow.below hr1 hb))
  have BE := fun wx hb => Lib.hid (rboardErr_any (dc := dc) hc hn1 hn2 hdn wx (RcRow.below hr1 hb))
  have hzb : (c == 0) = false := beq_eq_false_iff_ne.2 hz
  have HBL := Lib.hid hBL
  clear hr hr1 hBL hc hpl
  go_enter Try.func11, Try.ntmps11
  go_wp2_with (first | (go_at_call 18; refine (awake_any _).mono ?_; rintro e w1 ⟨rfl, hb1⟩; have hs1 : w.heap.size < w1.heap.size := (by have := hb1.size; (try simp at this); omega); obtain ⟨hc1, hf1⟩ := bcell hb1) | (go_at_call 24; (refine Calls.mono (PL _).out ?_); rintro e w3 ⟨rfl, hb3⟩; have hb13 := hb1.trans (hb3.mono hb1.size); have hs3 : w.heap.size < w3.heap.size := (by have := hb3.size; omega); obtain ⟨hc3, hf3⟩ := bcell hb13) | (go_at_call 51; (refine Calls.mono (CE _ hb13).out ?_); rintro e w4 ⟨rfl, hb4⟩; have hb14 := hb13.trans (hb4.mono hb13.size); have hs4 : w.heap.size < w4.heap.size := (by have := hb4.size; omega); obtain ⟨hc4, hf4⟩ := bcell hb14) | (go_at_call 45; (refine Calls.mono (BE _ hb14).out ?_); rintro e w5 ⟨rfl, hb5⟩; have hb15 := hb14.trans (hb5.mono hb14.size)))
  go_ret
  exact ⟨rfl, HBL.out.trans (hb15.mono (by simp))⟩
end Go.Proofs.Ytnjbhidncicfiaa
