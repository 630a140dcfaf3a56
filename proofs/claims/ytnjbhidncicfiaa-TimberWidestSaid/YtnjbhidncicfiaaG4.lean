/- Walks over the timber seat: the law of the widest sound rectangle, the ways that end early. -/
import Derived.Test.YtnjbhidncicfiaaG3
import Derived.Test.YtnjbhidncicfiaaG2
namespace Go.Proofs.Ytnjbhidncicfiaa
open Go.RowKit

theorem l_size {w : World} {o1 o2 : Obj} : ((w.alloc o1).alloc o2).heap.size = w.heap.size + 2 := by simp
theorem l_facts {nm sp : ByteArray} {ln wd th cu mo : Int} {D : Option Addr} {dn dc : Nat} {o1 u1 o2 u2 : Int} {w W : World} (hb : Below (w.heap.size + 2) ((w.alloc (.cells #[.string nm, .string sp, .int .i64 ln, .int .i64 wd, .int .i64 th, .int .i64 cu, .int .i64 mo, .slice D dn dc] 34)).alloc (.cells #[.int .i64 o1, .int .i64 u1, .int .i64 o2, .int .i64 u2] 75)) W) : (W.cell? ⟨w.heap.size, 0, none⟩ = some (.string nm) ∧ W.cell? ⟨w.heap.size, 1, none⟩ = some (.string sp) ∧ W.cell? ⟨w.heap.size, 2, none⟩ = some (.int .i64 ln) ∧ W.cell? ⟨w.heap.size, 3, none⟩ = some (.int .i64 wd) ∧ W.cell? ⟨w.heap.size, 4, none⟩ = some (.int .i64 th) ∧ W.cell? ⟨w.heap.size, 5, none⟩ = some (.int .i64 cu) ∧ W.cell? ⟨w.heap.size, 6, none⟩ = some (.int .i64 mo) ∧ W.cell? ⟨w.heap.size, 7, none⟩ = some (.slice D dn dc)) ∧ (W.cell? ⟨w.heap.size + 1, 0, none⟩ = some (.int .i64 o1) ∧ W.cell? ⟨w.heap.size + 1, 1, none⟩ = some (.int .i64 u1) ∧ W.cell? ⟨w.heap.size + 1, 2, none⟩ = some (.int .i64 o2) ∧ W.cell? ⟨w.heap.size + 1, 3, none⟩ = some (.int .i64 u2)) := by
  have k1 : ∀ o, W.cell? ⟨w.heap.size + 1, o, none⟩ = _ := fun o => hb.cell (p := ⟨w.heap.size + 1, o, none⟩) (by simp)
  have k3 : ∀ o, W.cell? ⟨w.heap.size, o, none⟩ = _ := fun o => hb.cell (p := ⟨w.heap.size, o, none⟩) (by simp)
  refine ⟨⟨?_, ?_, ?_, ?_, ?_, ?_, ?_, ?_⟩, ⟨?_, ?_, ?_, ?_⟩⟩
  all_goals first | (rw [k1]; simp [go_sem]) | (rw [k3]; simp [go_sem])
theorem rc4_new {w W : World} {a b c d : Int} (h : Below (w.alloc (.cells #[.int .i64 a, .int .i64 b, .int .i64 c, .int .i64 d] 75)).heap.size (w.alloc (.cells #[.int .i64 a, .int .i64 b, .int .i64 c, .int .i64 d] 75)) W) : Rc4 W w.heap.size ⟨a, b, c, d⟩ := by
  refine Rc4.below ?_ h (by simp)
  refine ⟨⟨?_, ?_, ?_, ?_⟩, ⟨?_, ?_, ?_, ?_⟩⟩ <;> simp [go_sem]
set_option maxHeartbeats 1000000 in
set_option maxRecDepth 20000 in
theorem lwid_skip {nm sp : ByteArray} {ln wd th cu mo : Int} {D : Option Addr} {dn dc : Nat} {_ds : List Rc} {q o1 u1 o2 u2 : Int} (hpl : plainB nm sp dn = false) (hn1 : nm.size ≤ maxLen) (hn2 : sp.size ≤ maxLen) (hdn : dn ≤ maxLen) (w : World) :
    Calls Try.prog 12 #[.agg #[.string nm, .string sp, .int .i64 ln, .int .i64 wd, .int .i64 th, .int .i64 cu, .int .i64 mo, .slice D dn dc], .int .i64 q, .agg #[.int .i64 o1, .int .i64 u1, .int .i64 o2, .int .i64 u2]] w fun e w' => e = .returned (.bool true) ∧ Below w.heap.size w w' := by
  have hBL : Below w.heap.size w ((w.alloc (.cells #[.string nm, .string sp, .int .i64 ln, .int .i64 wd, .int .i64 th, .int .i64 cu, .int .i64 mo, .slice D dn dc] 34)).alloc (.cells #[.int .i64 o1, .int .i64 u1, .int .i64 o2, .int .i64 u2] 75)) := ((Below.refl _ _).alloc (Nat.le_refl _) _).alloc (by simp) _
  have PL := fun wx => Lib.hid (plain_any (nm := nm) (sp := sp) (ln := ln) (wd := wd) (th := th) (cu := cu) (mo := mo) (D := D) (dn := dn) (dc := dc) (w := wx) hpl hn1 hn2 hdn)
  clear hpl
  go_enter Try.func12, Try.ntmps12
  go_wp2_with (first | (go_at_call 18; refine (awake_any _).mono ?_; rintro e w1 ⟨rfl, hq1⟩; have hB1 : Below (w.heap.size + 2) ((w.alloc (.cells #[.string nm, .string sp, .int .i64 ln, .int .i64 wd, .int .i64 th, .int .i64 cu, .int .i64 mo, .slice D dn dc] 34)).alloc (.cells #[.int .i64 o1, .int .i64 u1, .int .i64 o2, .int .i64 u2] 75)) w1 := (hq1.mono (by simp)); have hs1 : w.heap.size + 1 < w1.heap.size := (by have := hB1.size; (try simp at this); omega); have ht1 : w.heap.size < w1.heap.size := (by omega); obtain ⟨⟨p10, p11, p12, p13, p14, p15, p16, p17⟩, ⟨i10, i11, i12, i13⟩⟩ := l_facts hB1) | (go_at_call 24; (refine Calls.mono (PL _).out ?_); rintro e w2 ⟨rfl, hq2⟩; have hB2 : Below (w.heap.size + 2) ((w.alloc (.cells #[.string nm, .string sp, .int .i64 ln, .int .i64 wd, .int .i64 th, .int .i64 cu, .int .i64 mo, .slice D dn dc] 34)).alloc (.cells #[.int .i64 o1, .int .i64 u1, .int .i64 o2, .int .i64 u2] 75)) w2 := (hB1.trans (hq2.mono (by omega))); have hs2 : w.heap.size + 1 < w2.heap.size := (by have := hB2.size; (try simp at this); omega); have ht2 : w.heap.size < w2.heap.size := (by omega); obtain ⟨⟨p20, p21, p22, p23, p24, p25, p26, p27⟩, ⟨i20, i21, i22, i23⟩⟩ := l_facts hB2))
  go_ret
  exact ⟨rfl, hBL.trans (hB2.mono (by omega))⟩
set_option maxHeartbeats 2000000 in
set_option maxRecDepth 20000 in
theorem lwid_err {nm sp : ByteArray} {ln wd th cu mo : Int} {D : Option Addr} {dn dc : Nat} {ds : List Rc} {q o1 u1 o2 u2 : Int} {c : Int} (hpl : plainB nm sp dn = true) (hc : bdCode ⟨nm, sp, ln, wd, th, cu, mo, ds⟩ = c) (hz : c ≠ 0) (hn1 : nm.size ≤ maxLen) (hn2 : sp.size ≤ maxLen) (hdn : dn ≤ maxLen) (w : World) (hr : RcRow w D dn ds) :
    Calls Try.prog 12 #[.agg #[.string nm, .string sp, .int .i64 ln, .int .i64 wd, .int .i64 th, .int .i64 cu, .int .i64 mo, .slice D dn dc], .int .i64 q, .agg #[.int .i64 o1, .int .i64 u1, .int .i64 o2, .int .i64 u2]] w fun e w' => e = .returned (.bool true) ∧ Below w.heap.size w w' := by
  have hBL : Below w.heap.size w ((w.alloc (.cells #[.string nm, .string sp, .int .i64 ln, .int .i64 wd, .int .i64 th, .int .i64 cu, .int .i64 mo, .slice D dn dc] 34)).alloc (.cells #[.int .i64 o1, .int .i64 u1, .int .i64 o2, .int .i64 u2] 75)) := ((Below.refl _ _).alloc (Nat.le_refl _) _).alloc (by simp) _
  have hr1 := RcRow.below hr hBL
  have PL := fun wx => Lib.hid (plain_any (nm := nm) (sp := sp) (ln := ln) (wd := wd) (th := th) (cu := cu) (mo := mo) (D := D) (dn := dn) (dc := dc) (w := wx) hpl hn1 hn2 hdn)
  have WI := fun wx (hbx : Below (w.heap.size + 2) ((w.alloc (.cells #[.string nm, .string sp, .int .i64 ln, .int .i64 wd, .int .i64 th, .int .i64 cu, .int .i64 mo, .slice D dn dc] 34)).alloc (.cells #[.int .i64 o1, .int .i64 u1, .int .i64 o2, .int .i64 u2] 75)) wx) => Lib.hid (wideErr_any (dc := dc) (q := q) hc hz hn1 hn2 hdn wx (RcRow.below hr1 (by rw [l_size]; exact hbx)))
  have BE := fun wx (hbx : Below (w.heap.size + 2) ((w.alloc (.cells #[.string nm, .string sp, .int .i64 ln, .int .i64 wd, .int .i64 th, .int .i64 cu, .int .i64 mo, .slice D dn dc] 34)).alloc (.cells #[.int .i64 o1, .int .i64 u1, .int .i64 o2, .int .i64 u2] 75)) wx) => Lib.hid (rboardErr_any (dc := dc) hc hn1 hn2 hdn wx (RcRow.below hr1 (by rw [l_size]; exact hbx)))
  have hzb : (c == 0) = false := beq_eq_false_iff_ne.2 hz
  clear hr hr1 hpl hc hz
  go_enter Try.func12, Try.ntmps12
  go_wp2_with (first | (go_at_call 18; refine (awake_any _).mono ?_; rintro e w1 ⟨rfl, hq1⟩; have hB1 : Below (w.heap.size + 2) ((w.alloc (.cells #[.string nm, .string sp, .int .i64 ln, .int .i64 wd, .int .i64 th, .int .i64 cu, .int .i64 mo, .slice D dn dc] 34)).alloc (.cells #[.int .i64 o1, .int .i64 u1, .int .i64 o2, .int .i64 u2] 75)) w1 := (hq1.mono (by simp)); have hs1 : w.heap.size + 1 < w1.heap.size := (by have := hB1.size; (try simp at this); omega); have ht1 : w.heap.size < w1.heap.size := (by omega); obtain ⟨⟨p10, p11, p12, p13, p14, p15, p16, p17⟩, ⟨i10, i11, i12, i13⟩⟩ := l_facts hB1) | (go_at_call 24; (refine Calls.mono (PL _).out ?_); rintro e w2 ⟨rfl, hq2⟩; have hB2 : Below (w.heap.size + 2) ((w.alloc (.cells #[.string nm, .string sp, .int .i64 ln, .int .i64 wd, .int .i64 th, .int .i64 cu, .int .i64 mo, .slice D dn dc] 34)).alloc (.cells #[.int .i64 o1, .int .i64 u1, .int .i64 o2, .int .i64 u2] 75)) w2 := (hB1.trans (hq2.mono (by omega))); have hs2 : w.heap.size + 1 < w2.heap.size := (by have := hB2.size; (try simp at this); omega); have ht2 : w.heap.size < w2.heap.size := (by omega); obtain ⟨⟨p20, p21, p22, p23, p24, p25, p26, p27⟩, ⟨i20, i21, i22, i23⟩⟩ := l_facts hB2) | (go_at_call 53; (refine Calls.mono (WI _ hB2).out ?_); rintro e w3 ⟨rfl, hq3⟩; have hB3 : Below (w.heap.size + 2) ((w.alloc (.cells #[.string nm, .string sp, .int .i64 ln, .int .i64 wd, .int .i64 th, .int .i64 cu, .int .i64 mo, .slice D dn dc] 34)).alloc (.cells #[.int .i64 o1, .int .i64 u1, .int .i64 o2, .int .i64 u2] 75)) w3 := (hB2.trans (hq3.mono (by omega))); have hs3 : w.heap.size + 1 < w3.heap.size := (by have := hB3.size; (try simp at this); omega); have ht3 : w.heap.size < w3.heap.size := (by omega); obtain ⟨⟨p30, p31, p32, p33, p34, p35, p36, p37⟩, ⟨i30, i31, i32, i33⟩⟩ := l_facts hB3) | (go_at_call 45; (refine Calls.mono (BE _ (hB3.alloc (by omega) _)).out ?_); rintro e w4 ⟨rfl, hq4⟩; have hB4 : Below (w.heap.size + 2) ((w.alloc (.cells #[.string nm, .string sp, .int .i64 ln, .int .i64 wd, .int .i64 th, .int .i64 cu, .int .i64 mo, .slice D dn dc] 34)).alloc (.cells #[.int .i64 o1, .int .i64 u1, .int .i64 o2, .int .i64 u2] 75)) w4 := ((hB3.alloc (by omega) _).trans (hq4.mono (by simp; omega))); have hs4 : w.heap.size + 1 < w4.heap.size := (by have := hB4.size; (try simp at this); omega); have ht4 : w.heap.size < w4.heap.size := (by omega); obtain ⟨⟨p40, p41, p42, p43, p44, p45, p46, p47⟩, ⟨i40, i41, i42, i43⟩⟩ := l_facts hB4; have hr7 := rc4_new hq4; have h7s : w3.heap.size < w4.heap.size := (by have := hq4.size; (try simp at this); omega); obtain ⟨⟨m0, m1, m2, m3⟩, -⟩ := rc4_new hq4; (try simp only at m0 m1 m2 m3)))
  go_ret
  exact ⟨rfl, hBL.trans (hB4.mono (by omega))⟩
set_option maxHeartbeats 2000000 in
set_option maxRecDepth 20000 in
theorem lwid_range {nm sp : ByteArray} {ln wd th cu mo : Int} {D : Option Addr} {dn dc : Nat} {ds : List Rc} {q o1 u1 o2 u2 : Int} (hpl : plainB nm sp dn = true) (hc : bdCode ⟨nm, sp, ln, wd, th, cu, mo, ds⟩ = 0) (hq : inB 1 ln q = false) (hn1 : nm.size ≤ maxLen) (hn2 : sp.size ≤ maxLen) (hdn : dn ≤ maxLen) (w : World) (hr : RcRow w D dn ds) :
    Calls Try.prog 12 #[.agg #[.string nm, .string sp, .int .i64 ln, .int .i64 wd, .int .i64 th, .int .i64 cu, .int .i64 mo, .slice D dn dc], .int .i64 q, .agg #[.int .i64 o1, .int .i64 u1, .int .i64 o2, .int .i64 u2]] w fun e w' => e = .returned (.bool true) ∧ Below w.heap.size w w' := by
  have hBL : Below w.heap.size w ((w.alloc (.cells #[.string nm, .string sp, .int .i64 ln, .int .i64 wd, .int .i64 th, .int .i64 cu, .int .i64 mo, .slice D dn dc] 34)).alloc (.cells #[.int .i64 o1, .int .i64 u1, .int .i64 o2, .int .i64 u2] 75)) := ((Below.refl _ _).alloc (Nat.le_refl _) _).alloc (by simp) _
  have hr1 := RcRow.below hr hBL
  have PL := fun wx => Lib.hid (plain_any (nm := nm) (sp := sp) (ln := ln) (wd := wd) (th := th) (cu := cu) (mo := mo) (D := D) (dn := dn) (dc := dc) (w := wx) hpl hn1 hn2 hdn)
  have WI := fun wx (hbx : Below (w.heap.size + 2) ((w.alloc (.cells #[.string nm, .string sp, .int .i64 ln, .int .i64 wd, .int .i64 th, .int .i64 cu, .int .i64 mo, .slice D dn dc] 34)).alloc (.cells #[.int .i64 o1, .int .i64 u1, .int .i64 o2, .int .i64 u2] 75)) wx) => Lib.hid (wideRange_any (dc := dc) (q := q) hc hq hn1 hn2 hdn wx (RcRow.below hr1 (by rw [l_size]; exact hbx)))
  have BE := fun wx (hbx : Below (w.heap.size + 2) ((w.alloc (.cells #[.string nm, .string sp, .int .i64 ln, .int .i64 wd, .int .i64 th, .int .i64 cu, .int .i64 mo, .slice D dn dc] 34)).alloc (.cells #[.int .i64 o1, .int .i64 u1, .int .i64 o2, .int .i64 u2] 75)) wx) => Lib.hid (rboardErr_any (dc := dc) hc hn1 hn2 hdn wx (RcRow.below hr1 (by rw [l_size]; exact hbx)))
  have WB := fun wx => Lib.hid (rwithin_any hq wx)
  clear hr hr1 hpl hc hq
  go_enter Try.func12, Try.ntmps12
  go_wp2_with (first | (go_at_call 18; refine (awake_any _).mono ?_; rintro e w1 ⟨rfl, hq1⟩; have hB1 : Below (w.heap.size + 2) ((w.alloc (.cells #[.string nm, .string sp, .int .i64 ln, .int .i64 wd, .int .i64 th, .int .i64 cu, .int .i64 mo, .slice D dn dc] 34)).alloc (.cells #[.int .i64 o1, .int .i64 u1, .int .i64 o2, .int .i64 u2] 75)) w1 := (hq1.mono (by simp)); have hs1 : w.heap.size + 1 < w1.heap.size := (by have := hB1.size; (try simp at this); omega); have ht1 : w.heap.size < w1.heap.size := (by omega); obtain ⟨⟨p10, p11, p12, p13, p14, p15, p16, p17⟩, ⟨i10, i11, i12, i13⟩⟩ := l_facts hB1) | (go_at_call 24; (refine Calls.mono (PL _).out ?_); rintro e w2 ⟨rfl, hq2⟩; have hB2 : Below (w.heap.size + 2) ((w.alloc (.cells #[.string nm, .string sp, .int .i64 ln, .int .i64 wd, .int .i64 th, .int .i64 cu, .int .i64 mo, .slice D dn dc] 34)).alloc (.cells #[.int .i64 o1, .int .i64 u1, .int .i64 o2, .int .i64 u2] 75)) w2 := (hB1.trans (hq2.mono (by omega))); have hs2 : w.heap.size + 1 < w2.heap.size := (by have := hB2.size; (try simp at this); omega); have ht2 : w.heap.size < w2.heap.size := (by omega); obtain ⟨⟨p20, p21, p22, p23, p24, p25, p26, p27⟩, ⟨i20, i21, i22, i23⟩⟩ := l_facts hB2) | (go_at_call 53; (refine Calls.mono (WI _ hB2).out ?_); rintro e w3 ⟨rfl, hq3⟩; have hB3 : Below (w.heap.size + 2) ((w.alloc (.cells #[.string nm, .string sp, .int .i64 ln, .int .i64 wd, .int .i64 th, .int .i64 cu, .int .i64 mo, .slice D dn dc] 34)).alloc (.cells #[.int .i64 o1, .int .i64 u1, .int .i64 o2, .int .i64 u2] 75)) w3 := (hB2.trans (hq3.mono (by omega))); have hs3 : w.heap.size + 1 < w3.heap.size := (by have := hB3.size; (try simp at this); omega); have ht3 : w.heap.size < w3.heap.size := (by omega); obtain ⟨⟨p30, p31, p32, p33, p34, p35, p36, p37⟩, ⟨i30, i31, i32, i33⟩⟩ := l_facts hB3) | (go_at_call 45; (refine Calls.mono (BE _ (hB3.alloc (by omega) _)).out ?_); rintro e w4 ⟨rfl, hq4⟩; have hB4 : Below (w.heap.size + 2) ((w.alloc (.cells #[.string nm, .string sp, .int .i64 ln, .int .i64 wd, .int .i64 th, .int .i64 cu, .int .i64 mo, .slice D dn dc] 34)).alloc (.cells #[.int .i64 o1, .int .i64 u1, .int .i64 o2, .int .i64 u2] 75)) w4 := ((hB3.alloc (by omega) _).trans (hq4.mono (by simp; omega))); have hs4 : w.heap.size + 1 < w4.heap.size := (by have := hB4.size; (try simp at this); omega); have ht4 : w.heap.size < w4.heap.size := (by omega); obtain ⟨⟨p40, p41, p42, p43, p44, p45, p46, p47⟩, ⟨i40, i41, i42, i43⟩⟩ := l_facts hB4; have hr7 := rc4_new hq4; have h7s : w3.heap.size < w4.heap.size := (by have := hq4.size; (try simp at this); omega); obtain ⟨⟨m0, m1, m2, m3⟩, -⟩ := rc4_new hq4; (try simp only at m0 m1 m2 m3)) | (go_at_call 39; (refine Calls.mono (WB _).out ?_); rintro e _ ⟨rfl, rfl⟩))
  go_ret
  exact ⟨rfl, hBL.trans (hB4.mono (by omega))⟩
set_option maxHeartbeats 2000000 in
set_option maxRecDepth 20000 in
theorem lwid_none {nm sp : ByteArray} {ln wd th cu mo : Int} {D : Option Addr} {dn dc : Nat} {ds : List Rc} {q o1 u1 o2 u2 : Int} (hpl : plainB nm sp dn = true) (hc : bdCode ⟨nm, sp, ln, wd, th, cu, mo, ds⟩ = 0) (hq : inB 1 ln q = true) (hq0 : 1 ≤ q) (hq1 : q ≤ ln) (hw : (widR ⟨nm, sp, ln, wd, th, cu, mo, ds⟩ q) = zeroR) (hn1 : nm.size ≤ maxLen) (hn2 : sp.size ≤ maxLen) (hdn : dn ≤ maxLen) (w : World) (hr : RcRow w D dn ds) :
    Calls Try.prog 12 #[.agg #[.string nm, .string sp, .int .i64 ln, .int .i64 wd, .int .i64 th, .int .i64 cu, .int .i64 mo, .slice D dn dc], .int .i64 q, .agg #[.int .i64 o1, .int .i64 u1, .int .i64 o2, .int .i64 u2]] w fun e w' => e = .returned (.bool true) ∧ Below w.heap.size w w' := by
  have hBL : Below w.heap.size w ((w.alloc (.cells #[.string nm, .string sp, .int .i64 ln, .int .i64 wd, .int .i64 th, .int .i64 cu, .int .i64 mo, .slice D dn dc] 34)).alloc (.cells #[.int .i64 o1, .int .i64 u1, .int .i64 o2, .int .i64 u2] 75)) := ((Below.refl _ _).alloc (Nat.le_refl _) _).alloc (by simp) _
  have hr1 := RcRow.below hr hBL
  have PL := fun wx => Lib.hid (plain_any (nm := nm) (sp := sp) (ln := ln) (wd := wd) (th := th) (cu := cu) (mo := mo) (D := D) (dn := dn) (dc := dc) (w := wx) hpl hn1 hn2 hdn)
  have WI := fun wx (hbx : Below (w.heap.size + 2) ((w.alloc (.cells #[.string nm, .string sp, .int .i64 ln, .int .i64 wd, .int .i64 th, .int .i64 cu, .int .i64 mo, .slice D dn dc] 34)).alloc (.cells #[.int .i64 o1, .int .i64 u1, .int .i64 o2, .int .i64 u2] 75)) wx) => Lib.hid (wideNone_any (dc := dc) (q := q) hc hq hq0 hq1 hw hn1 hn2 hdn wx (RcRow.below hr1 (by rw [l_size]; exact hbx)))
  have BE := fun wx (hbx : Below (w.heap.size + 2) ((w.alloc (.cells #[.string nm, .string sp, .int .i64 ln, .int .i64 wd, .int .i64 th, .int .i64 cu, .int .i64 mo, .slice D dn dc] 34)).alloc (.cells #[.int .i64 o1, .int .i64 u1, .int .i64 o2, .int .i64 u2] 75)) wx) => Lib.hid (rboardErr_any (dc := dc) hc hn1 hn2 hdn wx (RcRow.below hr1 (by rw [l_size]; exact hbx)))
  have WB := fun wx => Lib.hid (rwithin_any hq wx)
  have WR := fun wx (hbx : Below (w.heap.size + 2) ((w.alloc (.cells #[.string nm, .string sp, .int .i64 ln, .int .i64 wd, .int .i64 th, .int .i64 cu, .int .i64 mo, .slice D dn dc] 34)).alloc (.cells #[.int .i64 o1, .int .i64 u1, .int .i64 o2, .int .i64 u2] 75)) wx) => Lib.hid (widRef_any (dc := dc) (X1 := 0) (Y1 := 0) (X2 := 0) (Y2 := 0) (fb := false) (bdOk_of hc) hq0 hq1 hw rfl wx (RcRow.below hr1 (by rw [l_size]; exact hbx)))
  clear hr hr1 hpl hc hq hw
  go_enter Try.func12, Try.ntmps12
  go_wp2_with (first | (go_at_call 18; refine (awake_any _).mono ?_; rintro e w1 ⟨rfl, hq1⟩; have hB1 : Below (w.heap.size + 2) ((w.alloc (.cells #[.string nm, .string sp, .int .i64 ln, .int .i64 wd, .int .i64 th, .int .i64 cu, .int .i64 mo, .slice D dn dc] 34)).alloc (.cells #[.int .i64 o1, .int .i64 u1, .int .i64 o2, .int .i64 u2] 75)) w1 := (hq1.mono (by simp)); have hs1 : w.heap.size + 1 < w1.heap.size := (by have := hB1.size; (try simp at this); omega); have ht1 : w.heap.size < w1.heap.size := (by omega); obtain ⟨⟨p10, p11, p12, p13, p14, p15, p16, p17⟩, ⟨i10, i11, i12, i13⟩⟩ := l_facts hB1) | (go_at_call 24; (refine Calls.mono (PL _).out ?_); rintro e w2 ⟨rfl, hq2⟩; have hB2 : Below (w.heap.size + 2) ((w.alloc (.cells #[.string nm, .string sp, .int .i64 ln, .int .i64 wd, .int .i64 th, .int .i64 cu, .int .i64 mo, .slice D dn dc] 34)).alloc (.cells #[.int .i64 o1, .int .i64 u1, .int .i64 o2, .int .i64 u2] 75)) w2 := (hB1.trans (hq2.mono (by omega))); have hs2 : w.heap.size + 1 < w2.heap.size := (by have := hB2.size; (try simp at this); omega); have ht2 : w.heap.size < w2.heap.size := (by omega); obtain ⟨⟨p20, p21, p22, p23, p24, p25, p26, p27⟩, ⟨i20, i21, i22, i23⟩⟩ := l_facts hB2) | (go_at_call 53; (refine Calls.mono (WI _ hB2).out ?_); rintro e w3 ⟨rfl, hq3⟩; have hB3 : Below (w.heap.size + 2) ((w.alloc (.cells #[.string nm, .string sp, .int .i64 ln, .int .i64 wd, .int .i64 th, .int .i64 cu, .int .i64 mo, .slice D dn dc] 34)).alloc (.cells #[.int .i64 o1, .int .i64 u1, .int .i64 o2, .int .i64 u2] 75)) w3 := (hB2.trans (hq3.mono (by omega))); have hs3 : w.heap.size + 1 < w3.heap.size := (by have := hB3.size; (try simp at this); omega); have ht3 : w.heap.size < w3.heap.size := (by omega); obtain ⟨⟨p30, p31, p32, p33, p34, p35, p36, p37⟩, ⟨i30, i31, i32, i33⟩⟩ := l_facts hB3) | (go_at_call 45; (refine Calls.mono (BE _ (hB3.alloc (by omega) _)).out ?_); rintro e w4 ⟨rfl, hq4⟩; have hB4 : Below (w.heap.size + 2) ((w.alloc (.cells #[.string nm, .string sp, .int .i64 ln, .int .i64 wd, .int .i64 th, .int .i64 cu, .int .i64 mo, .slice D dn dc] 34)).alloc (.cells #[.int .i64 o1, .int .i64 u1, .int .i64 o2, .int .i64 u2] 75)) w4 := ((hB3.alloc (by omega) _).trans (hq4.mono (by simp; omega))); have hs4 : w.heap.size + 1 < w4.heap.size := (by have := hB4.size; (try simp at this); omega); have ht4 : w.heap.size < w4.heap.size := (by omega); obtain ⟨⟨p40, p41, p42, p43, p44, p45, p46, p47⟩, ⟨i40, i41, i42, i43⟩⟩ := l_facts hB4; have hr7 := rc4_new hq4; have h7s : w3.heap.size < w4.heap.size := (by have := hq4.size; (try simp at this); omega); obtain ⟨⟨m0, m1, m2, m3⟩, -⟩ := rc4_new hq4; (try simp only at m0 m1 m2 m3)) | (go_at_call 39; (refine Calls.mono (WB _).out ?_); rintro e _ ⟨rfl, rfl⟩) | (go_at_call 54; (refine Calls.mono (WR _ hB4).out ?_); rintro e w5 ⟨rfl, hq5⟩; have hB5 : Below (w.heap.size + 2) ((w.alloc (.cells #[.string nm, .string sp, .int .i64 ln, .int .i64 wd, .int .i64 th, .int .i64 cu, .int .i64 mo, .slice D dn dc] 34)).alloc (.cells #[.int .i64 o1, .int .i64 u1, .int .i64 o2, .int .i64 u2] 75)) w5 := (hB4.trans (hq5.mono (by omega))); have hs5 : w.heap.size + 1 < w5.heap.size := (by have := hB5.size; (try simp at this); omega); have ht5 : w.heap.size < w5.heap.size := (by omega); obtain ⟨⟨p50, p51, p52, p53, p54, p55, p56, p57⟩, ⟨i50, i51, i52, i53⟩⟩ := l_facts hB5; have hr5 := hr7.below hq5 h7s; have h7t : w3.heap.size < w5.heap.size := (by have := hq5.size; omega); obtain ⟨⟨n0, n1, n2, n3⟩, -⟩ := hr7.below hq5 h7s; (try simp only at n0 n1 n2 n3)))
  go_ret
  exact ⟨rfl, hBL.trans ((hB5.alloc (by omega) _).mono (by omega))⟩
set_option maxHeartbeats 4000000 in
set_option maxRecDepth 20000 in
theorem lwid_form {nm sp : ByteArray} {ln wd th cu mo : Int} {D : Option Addr} {dn dc : Nat} {ds : List Rc} {q o1 u1 o2 u2 : Int} {x1 y1 x2 y2 f : Int} (hpl : plainB nm sp dn = true) (hc : bdCode ⟨nm, sp, ln, wd, th, cu, mo, ds⟩ = 0) (hq : inB 1 ln q = true) (hq0 : 1 ≤ q) (hq1 : q ≤ ln) (hw : (widR ⟨nm, sp, ln, wd, th, cu, mo, ds⟩ q) = ⟨x1, y1, x2, y2⟩) (hp : y1 < y2) (hf : formE o1 u1 o2 u2 = f) (hz : f ≠ 0) (hn1 : nm.size ≤ maxLen) (hn2 : sp.size ≤ maxLen) (hdn : dn ≤ maxLen) (w : World) (hr : RcRow w D dn ds) :
    Calls Try.prog 12 #[.agg #[.string nm, .string sp, .int .i64 ln, .int .i64 wd, .int .i64 th, .int .i64 cu, .int .i64 mo, .slice D dn dc], .int .i64 q, .agg #[.int .i64 o1, .int .i64 u1, .int .i64 o2, .int .i64 u2]] w fun e w' => e = .returned (.bool true) ∧ Below w.heap.size w w' := by
  have hBL : Below w.heap.size w ((w.alloc (.cells #[.string nm, .string sp, .int .i64 ln, .int .i64 wd, .int .i64 th, .int .i64 cu, .int .i64 mo, .slice D dn dc] 34)).alloc (.cells #[.int .i64 o1, .int .i64 u1, .int .i64 o2, .int .i64 u2] 75)) := ((Below.refl _ _).alloc (Nat.le_refl _) _).alloc (by simp) _
  have hr1 := RcRow.below hr hBL
  have PL := fun wx => Lib.hid (plain_any (nm := nm) (sp := sp) (ln := ln) (wd := wd) (th := th) (cu := cu) (mo := mo) (D := D) (dn := dn) (dc := dc) (w := wx) hpl hn1 hn2 hdn)
  have WI := fun wx (hbx : Below (w.heap.size + 2) ((w.alloc (.cells #[.string nm, .string sp, .int .i64 ln, .int .i64 wd, .int .i64 th, .int .i64 cu, .int .i64 mo, .slice D dn dc] 34)).alloc (.cells #[.int .i64 o1, .int .i64 u1, .int .i64 o2, .int .i64 u2] 75)) wx) => Lib.hid (wideOk_any (dc := dc) (q := q) hc hq hq0 hq1 hw hp hn1 hn2 hdn wx (RcRow.below hr1 (by rw [l_size]; exact hbx)))
  have BE := fun wx (hbx : Below (w.heap.size + 2) ((w.alloc (.cells #[.string nm, .string sp, .int .i64 ln, .int .i64 wd, .int .i64 th, .int .i64 cu, .int .i64 mo, .slice D dn dc] 34)).alloc (.cells #[.int .i64 o1, .int .i64 u1, .int .i64 o2, .int .i64 u2] 75)) wx) => Lib.hid (rboardErr_any (dc := dc) hc hn1 hn2 hdn wx (RcRow.below hr1 (by rw [l_size]; exact hbx)))
  have WB := fun wx => Lib.hid (rwithin_any hq wx)
  have WR := fun wx (hbx : Below (w.heap.size + 2) ((w.alloc (.cells #[.string nm, .string sp, .int .i64 ln, .int .i64 wd, .int .i64 th, .int .i64 cu, .int .i64 mo, .slice D dn dc] 34)).alloc (.cells #[.int .i64 o1, .int .i64 u1, .int .i64 o2, .int .i64 u2] 75)) wx) => Lib.hid (widRef_any (dc := dc) (fb := true) (bdOk_of hc) hq0 hq1 hw (decide_eq_true (by omega)) wx (RcRow.below hr1 (by rw [l_size]; exact hbx)))
  have RE := fun wx => Lib.hid (rectErr_any (w := wx) hf)
  have hzb : (f == 0) = false := beq_eq_false_iff_ne.2 hz
  clear hr hr1 hpl hc hq hw hf
  go_enter Try.func12, Try.ntmps12
  go_wp2_with (first | (go_at_call 18; refine (awake_any _).mono ?_; rintro e w1 ⟨rfl, hq1⟩; have hB1 : Below (w.heap.size + 2) ((w.alloc (.cells #[.string nm, .string sp, .int .i64 ln, .int .i64 wd, .int .i64 th, .int .i64 cu, .int .i64 mo, .slice D dn dc] 34)).alloc (.cells #[.int .i64 o1, .int .i64 u1, .int .i64 o2, .int .i64 u2] 75)) w1 := (hq1.mono (by simp)); have hs1 : w.heap.size + 1 < w1.heap.size := (by have := hB1.size; (try simp at this); omega); have ht1 : w.heap.size < w1.heap.size := (by omega); obtain ⟨⟨p10, p11, p12, p13, p14, p15, p16, p17⟩, ⟨i10, i11, i12, i13⟩⟩ := l_facts hB1) | (go_at_call 24; (refine Calls.mono (PL _).out ?_); rintro e w2 ⟨rfl, hq2⟩; have hB2 : Below (w.heap.size + 2) ((w.alloc (.cells #[.string nm, .string sp, .int .i64 ln, .int .i64 wd, .int .i64 th, .int .i64 cu, .int .i64 mo, .slice D dn dc] 34)).alloc (.cells #[.int .i64 o1, .int .i64 u1, .int .i64 o2, .int .i64 u2] 75)) w2 := (hB1.trans (hq2.mono (by omega))); have hs2 : w.heap.size + 1 < w2.heap.size := (by have := hB2.size; (try simp at this); omega); have ht2 : w.heap.size < w2.heap.size := (by omega); obtain ⟨⟨p20, p21, p22, p23, p24, p25, p26, p27⟩, ⟨i20, i21, i22, i23⟩⟩ := l_facts hB2) | (go_at_call 53; (refine Calls.mono (WI _ hB2).out ?_); rintro e w3 ⟨rfl, hq3⟩; have hB3 : Below (w.heap.size + 2) ((w.alloc (.cells #[.string nm, .string sp, .int .i64 ln, .int .i64 wd, .int .i64 th, .int .i64 cu, .int .i64 mo, .slice D dn dc] 34)).alloc (.cells #[.int .i64 o1, .int .i64 u1, .int .i64 o2, .int .i64 u2] 75)) w3 := (hB2.trans (hq3.mono (by omega))); have hs3 : w.heap.size + 1 < w3.heap.size := (by have := hB3.size; (try simp at this); omega); have ht3 : w.heap.size < w3.heap.size := (by omega); obtain ⟨⟨p30, p31, p32, p33, p34, p35, p36, p37⟩, ⟨i30, i31, i32, i33⟩⟩ := l_facts hB3) | (go_at_call 45; (refine Calls.mono (BE _ (hB3.alloc (by omega) _)).out ?_); rintro e w4 ⟨rfl, hq4⟩; have hB4 : Below (w.heap.size + 2) ((w.alloc (.cells #[.string nm, .string sp, .int .i64 ln, .int .i64 wd, .int .i64 th, .int .i64 cu, .int .i64 mo, .slice D dn dc] 34)).alloc (.cells #[.int .i64 o1, .int .i64 u1, .int .i64 o2, .int .i64 u2] 75)) w4 := ((hB3.alloc (by omega) _).trans (hq4.mono (by simp; omega))); have hs4 : w.heap.size + 1 < w4.heap.size := (by have := hB4.size; (try simp at this); omega); have ht4 : w.heap.size < w4.heap.size := (by omega); obtain ⟨⟨p40, p41, p42, p43, p44, p45, p46, p47⟩, ⟨i40, i41, i42, i43⟩⟩ := l_facts hB4; have hr7 := rc4_new hq4; have h7s : w3.heap.size < w4.heap.size := (by have := hq4.size; (try simp at this); omega); obtain ⟨⟨m0, m1, m2, m3⟩, -⟩ := rc4_new hq4; (try simp only at m0 m1 m2 m3)) | (go_at_call 39; (refine Calls.mono (WB _).out ?_); rintro e _ ⟨rfl, rfl⟩) | (go_at_call 54; (refine Calls.mono (WR _ hB4).out ?_); rintro e w5 ⟨rfl, hq5⟩; have hB5 : Below (w.heap.size + 2) ((w.alloc (.cells #[.string nm, .string sp, .int .i64 ln, .int .i64 wd, .int .i64 th, .int .i64 cu, .int .i64 mo, .slice D dn dc] 34)).alloc (.cells #[.int .i64 o1, .int .i64 u1, .int .i64 o2, .int .i64 u2] 75)) w5 := (hB4.trans (hq5.mono (by omega))); have hs5 : w.heap.size + 1 < w5.heap.size := (by have := hB5.size; (try simp at this); omega); have ht5 : w.heap.size < w5.heap.size := (by omega); obtain ⟨⟨p50, p51, p52, p53, p54, p55, p56, p57⟩, ⟨i50, i51, i52, i53⟩⟩ := l_facts hB5; have hr5 := hr7.below hq5 h7s; have h7t : w3.heap.size < w5.heap.size := (by have := hq5.size; omega); obtain ⟨⟨n0, n1, n2, n3⟩, -⟩ := hr7.below hq5 h7s; (try simp only at n0 n1 n2 n3)))
  obtain ⟨w6, hw6⟩ : ∃ w6, w5.alloc (.cells #[.int .i64 x1, .int .i64 y1, .int .i64 x2, .int .i64 y2] 75) = w6 := ⟨_, rfl⟩
  rw [hw6]
  have hB6 : Below (w.heap.size + 2) ((w.alloc (.cells #[.string nm, .string sp, .int .i64 ln, .int .i64 wd, .int .i64 th, .int .i64 cu, .int .i64 mo, .slice D dn dc] 34)).alloc (.cells #[.int .i64 o1, .int .i64 u1, .int .i64 o2, .int .i64 u2] 75)) w6 := hw6 ▸ hB5.alloc (by omega) _
  have hr6 : Rc4 w6 w3.heap.size ⟨x1, y1, x2, y2⟩ := hr5.below (hw6 ▸ (Below.refl _ _).alloc (Nat.le_refl _) _) h7t
  have h6s : w3.heap.size < w6.heap.size := by rw [← hw6]; simp; omega
  have hs6 : w.heap.size + 1 < w6.heap.size := (by have := hB6.size; (try simp at this); omega); have ht6 : w.heap.size < w6.heap.size := (by omega)
  obtain ⟨⟨p60, p61, p62, p63, p64, p65, p66, p67⟩, ⟨i60, i61, i62, i63⟩⟩ := l_facts hB6
  have QB := Lib.hid ht6
  have QK := Lib.hid hs6
  have HB6 := Lib.hid hB6
  have HR6 := Lib.hid hr6
  have HS6 := Lib.hid h6s
  clear hw6 hr6 hB6
  refine wp_region_held_drew (S := fun wx => Below w6.heap.size w6 wx ∧ wx.cell? ⟨w.heap.size, 0, none⟩ = some (.string nm) ∧ wx.cell? ⟨w.heap.size, 1, none⟩ = some (.string sp) ∧ wx.cell? ⟨w.heap.size, 2, none⟩ = some (.int .i64 ln) ∧ wx.cell? ⟨w.heap.size, 3, none⟩ = some (.int .i64 wd) ∧ wx.cell? ⟨w.heap.size, 4, none⟩ = some (.int .i64 th) ∧ wx.cell? ⟨w.heap.size, 5, none⟩ = some (.int .i64 cu) ∧ wx.cell? ⟨w.heap.size, 6, none⟩ = some (.int .i64 mo) ∧ wx.cell? ⟨w.heap.size, 7, none⟩ = some (.slice D dn dc) ∧ wx.cell? ⟨w.heap.size + 1, 0, none⟩ = some (.int .i64 o1) ∧ wx.cell? ⟨w.heap.size + 1, 0 + 1, none⟩ = some (.int .i64 u1) ∧ wx.cell? ⟨w.heap.size + 1, 0 + 2, none⟩ = some (.int .i64 o2) ∧ wx.cell? ⟨w.heap.size + 1, 0 + 3, none⟩ = some (.int .i64 u2)) (by kernel_rfl) ?_ (fun hHeld => ?_)
  · refine ⟨(Below.refl _ _).drew, ?_, ?_, ?_, ?_, ?_, ?_, ?_, ?_, ?_, ?_, ?_, ?_⟩ <;> assumption
  refine wpAnyH_take (i := 0) (oi := { dst := some 68, op := Go.Op.load 75 (Go.Operand.tmp 5), type := 75, pos := "law.go:282", after := #[], guard := none }) (v := ?_) rfl (by kernel_rfl) (by kernel_rfl) (by kernel_rfl) (fun _ _ _ h => h) (Or.inl ⟨by rfl, ?hy1⟩) (by assumption) ?rest1
  case hy1 =>
    intro w hSw
    try dsimp only at hSw
    go_simp
    try with_reducible rfl
  try simp only [Act.put, List.setIfInBounds_toArray, List.set_cons_zero, List.set_cons_succ]
  refine wpAnyH_ready (rs := [1]) (by kernel_rfl) (by simp) ?_
  refine AllReadyH.cons (o := { dst := some 69, op := Go.Op.call { callee := Go.Callee.value (Go.Operand.func 47), args := #[Go.Operand.tmp 68], argTypes := #[75] }, type := 3, pos := "law.go:282", after := #[{ on := 0, ground := Go.Ground.data }], guard := none }) rfl (fun K hK => ?_) AllReadyH.nil
  go_simp
  go_at_call 47
  refine Calls.mono (RE _).out ?_
  rintro e wc1 ⟨rfl, hbx⟩
  try dsimp only
  refine hK.out _ _ ?_ (fun hHeld2 => ?_)
  · exact kept12 hbx hHeld QB.out QK.out
  clear hK K hHeld hbx
  try simp only [Act.put, List.setIfInBounds_toArray, List.set_cons_zero, List.set_cons_succ]
  refine wpAnyH_take (i := 2) (oi := { dst := some 70, op := Go.Op.binOp Go.BinOp.neq 3 (Go.Operand.tmp 69) (Go.Operand.const (Go.Value.int Go.IntKind.i64 0)) 3, type := 4, pos := "law.go:282", after := #[{ on := 1, ground := Go.Ground.data }], guard := none }) (v := .bool true) rfl (by kernel_rfl) (by kernel_rfl) (by kernel_rfl) (fun _ _ _ h => h) (Or.inl ⟨by rfl, ?hy2⟩) (by assumption) ?rest2
  case hy2 =>
    intro w hSw
    clear hSw
    go_simp
    try (simp [hzb]; done)
  try simp only [Act.put, List.setIfInBounds_toArray, List.set_cons_zero, List.set_cons_succ]
  refine wpAnyH_take (i := 3) (oi := { dst := some 71, op := Go.Op.move (Go.Operand.tmp 70), type := 4, pos := "law.go:282", after := #[{ on := 2, ground := Go.Ground.data }, { on := 1, ground := Go.Ground.chain }], guard := none }) (v := ?_) rfl (by kernel_rfl) (by kernel_rfl) (by kernel_rfl) (fun _ _ _ h => h) (Or.inl ⟨by rfl, ?hy3⟩) (by assumption) ?rest3
  case hy3 =>
    intro w hSw
    try dsimp only at hSw
    go_simp
    try with_reducible rfl
  try simp only [Act.put, List.setIfInBounds_toArray, List.set_cons_zero, List.set_cons_succ]
  refine wpAnyH_take (i := 4) (oi := { dst := some 72, op := Go.Op.load 75 (Go.Operand.tmp 5), type := 75, pos := "law.go:282", after := #[{ on := 3, ground := Go.Ground.guard }], guard := some (3, false) }) (v := undef) rfl (by kernel_rfl) (by kernel_rfl) (by kernel_rfl) (fun _ _ _ h => h) (Or.inr ⟨by kernel_rfl, rfl⟩) (by assumption) ?_
  try simp only [Act.put, List.setIfInBounds_toArray, List.set_cons_zero, List.set_cons_succ]
  refine wpAnyH_take (i := 5) (oi := { dst := some 73, op := Go.Op.load 34 (Go.Operand.tmp 3), type := 34, pos := "law.go:282", after := #[{ on := 3, ground := Go.Ground.guard }], guard := some (3, false) }) (v := undef) rfl (by kernel_rfl) (by kernel_rfl) (by kernel_rfl) (fun _ _ _ h => h) (Or.inr ⟨by kernel_rfl, rfl⟩) (by assumption) ?_
  try simp only [Act.put, List.setIfInBounds_toArray, List.set_cons_zero, List.set_cons_succ]
  refine wpAnyH_take (i := 6) (oi := { dst := some 74, op := Go.Op.call { callee := Go.Callee.value (Go.Operand.func 49), args := #[Go.Operand.tmp 73], argTypes := #[34] }, type := 75, pos := "law.go:282", after := #[{ on := 5, ground := Go.Ground.data }, { on := 3, ground := Go.Ground.chain }, { on := 3, ground := Go.Ground.guard }], guard := some (3, false) }) (v := undef) rfl (by kernel_rfl) (by kernel_rfl) (by kernel_rfl) (fun _ _ _ h => h) (Or.inr ⟨by kernel_rfl, rfl⟩) (by assumption) ?_
  try simp only [Act.put, List.setIfInBounds_toArray, List.set_cons_zero, List.set_cons_succ]
  refine wpAnyH_take (i := 7) (oi := { dst := some 75, op := Go.Op.call { callee := Go.Callee.value (Go.Operand.func 48), args := #[Go.Operand.tmp 72, Go.Operand.tmp 74], argTypes := #[75, 75] }, type := 4, pos := "law.go:282", after := #[{ on := 4, ground := Go.Ground.data }, { on := 6, ground := Go.Ground.data }, { on := 6, ground := Go.Ground.chain }, { on := 3, ground := Go.Ground.guard }], guard := some (3, false) }) (v := undef) rfl (by kernel_rfl) (by kernel_rfl) (by kernel_rfl) (fun _ _ _ h => h) (Or.inr ⟨by kernel_rfl, rfl⟩) (by assumption) ?_
  try simp only [Act.put, List.setIfInBounds_toArray, List.set_cons_zero, List.set_cons_succ]
  refine wpAnyH_take (i := 8) (oi := { dst := some 76, op := Go.Op.unOp Go.UnOp.not 4 (Go.Operand.tmp 75), type := 4, pos := "law.go:282", after := #[{ on := 7, ground := Go.Ground.data }, { on := 3, ground := Go.Ground.guard }], guard := some (3, false) }) (v := undef) rfl (by kernel_rfl) (by kernel_rfl) (by kernel_rfl) (fun _ _ _ h => h) (Or.inr ⟨by kernel_rfl, rfl⟩) (by assumption) ?_
  try simp only [Act.put, List.setIfInBounds_toArray, List.set_cons_zero, List.set_cons_succ]
  refine wpAnyH_take (i := 9) (oi := { dst := some 77, op := Go.Op.pick (Go.Operand.tmp 71) (Go.Operand.const (Go.Value.bool true)) (Go.Operand.tmp 76), type := 4, pos := "law.go:282", after := #[{ on := 3, ground := Go.Ground.data }, { on := 8, ground := Go.Ground.data }], guard := none }) (v := ?_) rfl (by kernel_rfl) (by kernel_rfl) (by kernel_rfl) (fun _ _ _ h => h) (Or.inl ⟨by rfl, ?hy4⟩) (by assumption) ?rest4
  case hy4 =>
    intro w hSw
    try dsimp only at hSw
    go_simp
    try with_reducible rfl
  try simp only [Act.put, List.setIfInBounds_toArray, List.set_cons_zero, List.set_cons_succ]
  refine wpAnyH_take (i := 10) (oi := { dst := some 78, op := Go.Op.move (Go.Operand.tmp 77), type := 4, pos := "law.go:282", after := #[{ on := 9, ground := Go.Ground.data }, { on := 7, ground := Go.Ground.chain }], guard := none }) (v := ?_) rfl (by kernel_rfl) (by kernel_rfl) (by kernel_rfl) (fun _ _ _ h => h) (Or.inl ⟨by rfl, ?hy5⟩) (by assumption) ?rest5
  case hy5 =>
    intro w hSw
    try dsimp only at hSw
    go_simp
    try with_reducible rfl
  try simp only [Act.put, List.setIfInBounds_toArray, List.set_cons_zero, List.set_cons_succ]
  refine wpAnyH_take (i := 11) (oi := { dst := some 79, op := Go.Op.fieldAddr 75 (Go.Operand.tmp 5) 2, type := 0, pos := "law.go:282", after := #[{ on := 10, ground := Go.Ground.guard }], guard := some (10, false) }) (v := undef) rfl (by kernel_rfl) (by kernel_rfl) (by kernel_rfl) (fun _ _ _ h => h) (Or.inr ⟨by kernel_rfl, rfl⟩) (by assumption) ?_
  try simp only [Act.put, List.setIfInBounds_toArray, List.set_cons_zero, List.set_cons_succ]
  refine wpAnyH_take (i := 12) (oi := { dst := some 80, op := Go.Op.load 3 (Go.Operand.tmp 79), type := 3, pos := "law.go:282", after := #[{ on := 11, ground := Go.Ground.data }, { on := 10, ground := Go.Ground.guard }], guard := some (10, false) }) (v := undef) rfl (by kernel_rfl) (by kernel_rfl) (by kernel_rfl) (fun _ _ _ h => h) (Or.inr ⟨by kernel_rfl, rfl⟩) (by assumption) ?_
  try simp only [Act.put, List.setIfInBounds_toArray, List.set_cons_zero, List.set_cons_succ]
  refine wpAnyH_take (i := 13) (oi := { dst := some 81, op := Go.Op.fieldAddr 75 (Go.Operand.tmp 5) 0, type := 0, pos := "law.go:282", after := #[{ on := 10, ground := Go.Ground.guard }], guard := some (10, false) }) (v := undef) rfl (by kernel_rfl) (by kernel_rfl) (by kernel_rfl) (fun _ _ _ h => h) (Or.inr ⟨by kernel_rfl, rfl⟩) (by assumption) ?_
  try simp only [Act.put, List.setIfInBounds_toArray, List.set_cons_zero, List.set_cons_succ]
  refine wpAnyH_take (i := 14) (oi := { dst := some 82, op := Go.Op.load 3 (Go.Operand.tmp 81), type := 3, pos := "law.go:282", after := #[{ on := 13, ground := Go.Ground.data }, { on := 10, ground := Go.Ground.guard }], guard := some (10, false) }) (v := undef) rfl (by kernel_rfl) (by kernel_rfl) (by kernel_rfl) (fun _ _ _ h => h) (Or.inr ⟨by kernel_rfl, rfl⟩) (by assumption) ?_
  try simp only [Act.put, List.setIfInBounds_toArray, List.set_cons_zero, List.set_cons_succ]
  refine wpAnyH_take (i := 15) (oi := { dst := some 83, op := Go.Op.binOp Go.BinOp.sub 3 (Go.Operand.tmp 80) (Go.Operand.tmp 82) 3, type := 3, pos := "law.go:282", after := #[{ on := 12, ground := Go.Ground.data }, { on := 14, ground := Go.Ground.data }, { on := 10, ground := Go.Ground.guard }], guard := some (10, false) }) (v := undef) rfl (by kernel_rfl) (by kernel_rfl) (by kernel_rfl) (fun _ _ _ h => h) (Or.inr ⟨by kernel_rfl, rfl⟩) (by assumption) ?_
  try simp only [Act.put, List.setIfInBounds_toArray, List.set_cons_zero, List.set_cons_succ]
  refine wpAnyH_take (i := 16) (oi := { dst := some 84, op := Go.Op.move (Go.Operand.tmp 1), type := 3, pos := "law.go:282", after := #[{ on := 10, ground := Go.Ground.guard }], guard := some (10, false) }) (v := undef) rfl (by kernel_rfl) (by kernel_rfl) (by kernel_rfl) (fun _ _ _ h => h) (Or.inr ⟨by kernel_rfl, rfl⟩) (by assumption) ?_
  try simp only [Act.put, List.setIfInBounds_toArray, List.set_cons_zero, List.set_cons_succ]
  refine wpAnyH_take (i := 17) (oi := { dst := some 85, op := Go.Op.binOp Go.BinOp.neq 3 (Go.Operand.tmp 83) (Go.Operand.tmp 84) 3, type := 4, pos := "law.go:282", after := #[{ on := 15, ground := Go.Ground.data }, { on := 16, ground := Go.Ground.data }, { on := 10, ground := Go.Ground.guard }], guard := some (10, false) }) (v := undef) rfl (by kernel_rfl) (by kernel_rfl) (by kernel_rfl) (fun _ _ _ h => h) (Or.inr ⟨by kernel_rfl, rfl⟩) (by assumption) ?_
  try simp only [Act.put, List.setIfInBounds_toArray, List.set_cons_zero, List.set_cons_succ]
  refine wpAnyH_take (i := 18) (oi := { dst := some 86, op := Go.Op.pick (Go.Operand.tmp 78) (Go.Operand.const (Go.Value.bool true)) (Go.Operand.tmp 85), type := 4, pos := "law.go:282", after := #[{ on := 10, ground := Go.Ground.data }, { on := 17, ground := Go.Ground.data }], guard := none }) (v := ?_) rfl (by kernel_rfl) (by kernel_rfl) (by kernel_rfl) (fun _ _ _ h => h) (Or.inl ⟨by rfl, ?hy6⟩) (by assumption) ?rest6
  case hy6 =>
    intro w hSw
    try dsimp only at hSw
    go_simp
    try with_reducible rfl
  try simp only [Act.put, List.setIfInBounds_toArray, List.set_cons_zero, List.set_cons_succ]
  refine wpAnyH_done (by kernel_rfl) ?_ _
  have HH := Lib.hid hHeld2.1
  clear hHeld2
  go_wp2
  go_ret
  exact ⟨rfl, hBL.trans ((HB6.out.trans (HH.out.mono (by omega))).mono (by omega))⟩
set_option maxHeartbeats 4000000 in
set_option maxRecDepth 20000 in
theorem lwid_out {nm sp : ByteArray} {ln wd th cu mo : Int} {D : Option Addr} {dn dc : Nat} {ds : List Rc} {q o1 u1 o2 u2 : Int} {x1 y1 x2 y2 : Int} (hpl : plainB nm sp dn = true) (hc : bdCode ⟨nm, sp, ln, wd, th, cu, mo, ds⟩ = 0) (hq : inB 1 ln q = true) (hq0 : 1 ≤ q) (hq1 : q ≤ ln) (hw : (widR ⟨nm, sp, ln, wd, th, cu, mo, ds⟩ q) = ⟨x1, y1, x2, y2⟩) (hp : y1 < y2) (hf : formE o1 u1 o2 u2 = 0) (hin : insideB o1 u1 o2 u2 0 0 ln wd = false) (hn1 : nm.size ≤ maxLen) (hn2 : sp.size ≤ maxLen) (hdn : dn ≤ maxLen) (w : World) (hr : RcRow w D dn ds) :
    Calls Try.prog 12 #[.agg #[.string nm, .string sp, .int .i64 ln, .int .i64 wd, .int .i64 th, .int .i64 cu, .int .i64 mo, .slice D dn dc], .int .i64 q, .agg #[.int .i64 o1, .int .i64 u1, .int .i64 o2, .int .i64 u2]] w fun e w' => e = .returned (.bool true) ∧ Below w.heap.size w w' := by
  have hBL : Below w.heap.size w ((w.alloc (.cells #[.string nm, .string sp, .int .i64 ln, .int .i64 wd, .int .i64 th, .int .i64 cu, .int .i64 mo, .slice D dn dc] 34)).alloc (.cells #[.int .i64 o1, .int .i64 u1, .int .i64 o2, .int .i64 u2] 75)) := ((Below.refl _ _).alloc (Nat.le_refl _) _).alloc (by simp) _
  have hr1 := RcRow.below hr hBL
  have PL := fun wx => Lib.hid (plain_any (nm := nm) (sp := sp) (ln := ln) (wd := wd) (th := th) (cu := cu) (mo := mo) (D := D) (dn := dn) (dc := dc) (w := wx) hpl hn1 hn2 hdn)
  have WI := fun wx (hbx : Below (w.heap.size + 2) ((w.alloc (.cells #[.string nm, .string sp, .int .i64 ln, .int .i64 wd, .int .i64 th, .int .i64 cu, .int .i64 mo, .slice D dn dc] 34)).alloc (.cells #[.int .i64 o1, .int .i64 u1, .int .i64 o2, .int .i64 u2] 75)) wx) => Lib.hid (wideOk_any (dc := dc) (q := q) hc hq hq0 hq1 hw hp hn1 hn2 hdn wx (RcRow.below hr1 (by rw [l_size]; exact hbx)))
  have BE := fun wx (hbx : Below (w.heap.size + 2) ((w.alloc (.cells #[.string nm, .string sp, .int .i64 ln, .int .i64 wd, .int .i64 th, .int .i64 cu, .int .i64 mo, .slice D dn dc] 34)).alloc (.cells #[.int .i64 o1, .int .i64 u1, .int .i64 o2, .int .i64 u2] 75)) wx) => Lib.hid (rboardErr_any (dc := dc) hc hn1 hn2 hdn wx (RcRow.below hr1 (by rw [l_size]; exact hbx)))
  have WB := fun wx => Lib.hid (rwithin_any hq wx)
  have WR := fun wx (hbx : Below (w.heap.size + 2) ((w.alloc (.cells #[.string nm, .string sp, .int .i64 ln, .int .i64 wd, .int .i64 th, .int .i64 cu, .int .i64 mo, .slice D dn dc] 34)).alloc (.cells #[.int .i64 o1, .int .i64 u1, .int .i64 o2, .int .i64 u2] 75)) wx) => Lib.hid (widRef_any (dc := dc) (fb := true) (bdOk_of hc) hq0 hq1 hw (decide_eq_true (by omega)) wx (RcRow.below hr1 (by rw [l_size]; exact hbx)))
  have RE := fun wx => Lib.hid (rectErr_any (w := wx) hf)
  have WH := fun wx => Lib.hid (whole_any (nm := nm) (sp := sp) (ln := ln) (wd := wd) (th := th) (cu := cu) (mo := mo) (D := D) (dn := dn) (dc := dc) wx)
  have IN := fun wx => Lib.hid (inside_any (w := wx) hin)
  clear hr hr1 hpl hc hq hw hf hin
  go_enter Try.func12, Try.ntmps12
  go_wp2_with (first | (go_at_call 18; refine (awake_any _).mono ?_; rintro e w1 ⟨rfl, hq1⟩; have hB1 : Below (w.heap.size + 2) ((w.alloc (.cells #[.string nm, .string sp, .int .i64 ln, .int .i64 wd, .int .i64 th, .int .i64 cu, .int .i64 mo, .slice D dn dc] 34)).alloc (.cells #[.int .i64 o1, .int .i64 u1, .int .i64 o2, .int .i64 u2] 75)) w1 := (hq1.mono (by simp)); have hs1 : w.heap.size + 1 < w1.heap.size := (by have := hB1.size; (try simp at this); omega); have ht1 : w.heap.size < w1.heap.size := (by omega); obtain ⟨⟨p10, p11, p12, p13, p14, p15, p16, p17⟩, ⟨i10, i11, i12, i13⟩⟩ := l_facts hB1) | (go_at_call 24; (refine Calls.mono (PL _).out ?_); rintro e w2 ⟨rfl, hq2⟩; have hB2 : Below (w.heap.size + 2) ((w.alloc (.cells #[.string nm, .string sp, .int .i64 ln, .int .i64 wd, .int .i64 th, .int .i64 cu, .int .i64 mo, .slice D dn dc] 34)).alloc (.cells #[.int .i64 o1, .int .i64 u1, .int .i64 o2, .int .i64 u2] 75)) w2 := (hB1.trans (hq2.mono (by omega))); have hs2 : w.heap.size + 1 < w2.heap.size := (by have := hB2.size; (try simp at this); omega); have ht2 : w.heap.size < w2.heap.size := (by omega); obtain ⟨⟨p20, p21, p22, p23, p24, p25, p26, p27⟩, ⟨i20, i21, i22, i23⟩⟩ := l_facts hB2) | (go_at_call 53; (refine Calls.mono (WI _ hB2).out ?_); rintro e w3 ⟨rfl, hq3⟩; have hB3 : Below (w.heap.size + 2) ((w.alloc (.cells #[.string nm, .string sp, .int .i64 ln, .int .i64 wd, .int .i64 th, .int .i64 cu, .int .i64 mo, .slice D dn dc] 34)).alloc (.cells #[.int .i64 o1, .int .i64 u1, .int .i64 o2, .int .i64 u2] 75)) w3 := (hB2.trans (hq3.mono (by omega))); have hs3 : w.heap.size + 1 < w3.heap.size := (by have := hB3.size; (try simp at this); omega); have ht3 : w.heap.size < w3.heap.size := (by omega); obtain ⟨⟨p30, p31, p32, p33, p34, p35, p36, p37⟩, ⟨i30, i31, i32, i33⟩⟩ := l_facts hB3) | (go_at_call 45; (refine Calls.mono (BE _ (hB3.alloc (by omega) _)).out ?_); rintro e w4 ⟨rfl, hq4⟩; have hB4 : Below (w.heap.size + 2) ((w.alloc (.cells #[.string nm, .string sp, .int .i64 ln, .int .i64 wd, .int .i64 th, .int .i64 cu, .int .i64 mo, .slice D dn dc] 34)).alloc (.cells #[.int .i64 o1, .int .i64 u1, .int .i64 o2, .int .i64 u2] 75)) w4 := ((hB3.alloc (by omega) _).trans (hq4.mono (by simp; omega))); have hs4 : w.heap.size + 1 < w4.heap.size := (by have := hB4.size; (try simp at this); omega); have ht4 : w.heap.size < w4.heap.size := (by omega); obtain ⟨⟨p40, p41, p42, p43, p44, p45, p46, p47⟩, ⟨i40, i41, i42, i43⟩⟩ := l_facts hB4; have hr7 := rc4_new hq4; have h7s : w3.heap.size < w4.heap.size := (by have := hq4.size; (try simp at this); omega); obtain ⟨⟨m0, m1, m2, m3⟩, -⟩ := rc4_new hq4; (try simp only at m0 m1 m2 m3)) | (go_at_call 39; (refine Calls.mono (WB _).out ?_); rintro e _ ⟨rfl, rfl⟩) | (go_at_call 54; (refine Calls.mono (WR _ hB4).out ?_); rintro e w5 ⟨rfl, hq5⟩; have hB5 : Below (w.heap.size + 2) ((w.alloc (.cells #[.string nm, .string sp, .int .i64 ln, .int .i64 wd, .int .i64 th, .int .i64 cu, .int .i64 mo, .slice D dn dc] 34)).alloc (.cells #[.int .i64 o1, .int .i64 u1, .int .i64 o2, .int .i64 u2] 75)) w5 := (hB4.trans (hq5.mono (by omega))); have hs5 : w.heap.size + 1 < w5.heap.size := (by have := hB5.size; (try simp at this); omega); have ht5 : w.heap.size < w5.heap.size := (by omega); obtain ⟨⟨p50, p51, p52, p53, p54, p55, p56, p57⟩, ⟨i50, i51, i52, i53⟩⟩ := l_facts hB5; have hr5 := hr7.below hq5 h7s; have h7t : w3.heap.size < w5.heap.size := (by have := hq5.size; omega); obtain ⟨⟨n0, n1, n2, n3⟩, -⟩ := hr7.below hq5 h7s; (try simp only at n0 n1 n2 n3)))
  obtain ⟨w6, hw6⟩ : ∃ w6, w5.alloc (.cells #[.int .i64 x1, .int .i64 y1, .int .i64 x2, .int .i64 y2] 75) = w6 := ⟨_, rfl⟩
  rw [hw6]
  have hB6 : Below (w.heap.size + 2) ((w.alloc (.cells #[.string nm, .string sp, .int .i64 ln, .int .i64 wd, .int .i64 th, .int .i64 cu, .int .i64 mo, .slice D dn dc] 34)).alloc (.cells #[.int .i64 o1, .int .i64 u1, .int .i64 o2, .int .i64 u2] 75)) w6 := hw6 ▸ hB5.alloc (by omega) _
  have hr6 : Rc4 w6 w3.heap.size ⟨x1, y1, x2, y2⟩ := hr5.below (hw6 ▸ (Below.refl _ _).alloc (Nat.le_refl _) _) h7t
  have h6s : w3.heap.size < w6.heap.size := by rw [← hw6]; simp; omega
  have hs6 : w.heap.size + 1 < w6.heap.size := (by have := hB6.size; (try simp at this); omega); have ht6 : w.heap.size < w6.heap.size := (by omega)
  obtain ⟨⟨p60, p61, p62, p63, p64, p65, p66, p67⟩, ⟨i60, i61, i62, i63⟩⟩ := l_facts hB6
  have QB := Lib.hid ht6
  have QK := Lib.hid hs6
  have HB6 := Lib.hid hB6
  have HR6 := Lib.hid hr6
  have HS6 := Lib.hid h6s
  clear hw6 hr6 hB6
  refine wp_region_held_drew (S := fun wx => Below w6.heap.size w6 wx ∧ wx.cell? ⟨w.heap.size, 0, none⟩ = some (.string nm) ∧ wx.cell? ⟨w.heap.size, 1, none⟩ = some (.string sp) ∧ wx.cell? ⟨w.heap.size, 2, none⟩ = some (.int .i64 ln) ∧ wx.cell? ⟨w.heap.size, 3, none⟩ = some (.int .i64 wd) ∧ wx.cell? ⟨w.heap.size, 4, none⟩ = some (.int .i64 th) ∧ wx.cell? ⟨w.heap.size, 5, none⟩ = some (.int .i64 cu) ∧ wx.cell? ⟨w.heap.size, 6, none⟩ = some (.int .i64 mo) ∧ wx.cell? ⟨w.heap.size, 7, none⟩ = some (.slice D dn dc) ∧ wx.cell? ⟨w.heap.size + 1, 0, none⟩ = some (.int .i64 o1) ∧ wx.cell? ⟨w.heap.size + 1, 0 + 1, none⟩ = some (.int .i64 u1) ∧ wx.cell? ⟨w.heap.size + 1, 0 + 2, none⟩ = some (.int .i64 o2) ∧ wx.cell? ⟨w.heap.size + 1, 0 + 3, none⟩ = some (.int .i64 u2)) (by kernel_rfl) ?_ (fun hHeld => ?_)
  · refine ⟨(Below.refl _ _).drew, ?_, ?_, ?_, ?_, ?_, ?_, ?_, ?_, ?_, ?_, ?_, ?_⟩ <;> assumption
  refine wpAnyH_take (i := 0) (oi := { dst := some 68, op := Go.Op.load 75 (Go.Operand.tmp 5), type := 75, pos := "law.go:282", after := #[], guard := none }) (v := ?_) rfl (by kernel_rfl) (by kernel_rfl) (by kernel_rfl) (fun _ _ _ h => h) (Or.inl ⟨by rfl, ?hy7⟩) (by assumption) ?rest7
  case hy7 =>
    intro w hSw
    try dsimp only at hSw
    go_simp
    try with_reducible rfl
  try simp only [Act.put, List.setIfInBounds_toArray, List.set_cons_zero, List.set_cons_succ]
  refine wpAnyH_ready (rs := [1]) (by kernel_rfl) (by simp) ?_
  refine AllReadyH.cons (o := { dst := some 69, op := Go.Op.call { callee := Go.Callee.value (Go.Operand.func 47), args := #[Go.Operand.tmp 68], argTypes := #[75] }, type := 3, pos := "law.go:282", after := #[{ on := 0, ground := Go.Ground.data }], guard := none }) rfl (fun K hK => ?_) AllReadyH.nil
  go_simp
  go_at_call 47
  refine Calls.mono (RE _).out ?_
  rintro e wc1 ⟨rfl, hbx⟩
  try dsimp only
  refine hK.out _ _ ?_ (fun hHeld2 => ?_)
  · exact kept12 hbx hHeld QB.out QK.out
  clear hK K hHeld hbx
  try simp only [Act.put, List.setIfInBounds_toArray, List.set_cons_zero, List.set_cons_succ]
  refine wpAnyH_take (i := 2) (oi := { dst := some 70, op := Go.Op.binOp Go.BinOp.neq 3 (Go.Operand.tmp 69) (Go.Operand.const (Go.Value.int Go.IntKind.i64 0)) 3, type := 4, pos := "law.go:282", after := #[{ on := 1, ground := Go.Ground.data }], guard := none }) (v := ?_) rfl (by kernel_rfl) (by kernel_rfl) (by kernel_rfl) (fun _ _ _ h => h) (Or.inl ⟨by rfl, ?hy8⟩) (by assumption) ?rest8
  case hy8 =>
    intro w hSw
    try dsimp only at hSw
    go_simp
    try with_reducible rfl
  try simp only [Act.put, List.setIfInBounds_toArray, List.set_cons_zero, List.set_cons_succ]
  refine wpAnyH_take (i := 3) (oi := { dst := some 71, op := Go.Op.move (Go.Operand.tmp 70), type := 4, pos := "law.go:282", after := #[{ on := 2, ground := Go.Ground.data }, { on := 1, ground := Go.Ground.chain }], guard := none }) (v := ?_) rfl (by kernel_rfl) (by kernel_rfl) (by kernel_rfl) (fun _ _ _ h => h) (Or.inl ⟨by rfl, ?hy9⟩) (by assumption) ?rest9
  case hy9 =>
    intro w hSw
    try dsimp only at hSw
    go_simp
    try with_reducible rfl
  try simp only [Act.put, List.setIfInBounds_toArray, List.set_cons_zero, List.set_cons_succ]
  refine wpAnyH_take (i := 4) (oi := { dst := some 72, op := Go.Op.load 75 (Go.Operand.tmp 5), type := 75, pos := "law.go:282", after := #[{ on := 3, ground := Go.Ground.guard }], guard := some (3, false) }) (v := ?_) rfl (by kernel_rfl) (by kernel_rfl) (by kernel_rfl) (fun _ _ _ h => h) (Or.inl ⟨by rfl, ?hy10⟩) (by assumption) ?rest10
  case hy10 =>
    intro w hSw
    try dsimp only at hSw
    go_simp
    try with_reducible rfl
  try simp only [Act.put, List.setIfInBounds_toArray, List.set_cons_zero, List.set_cons_succ]
  refine wpAnyH_take (i := 5) (oi := { dst := some 73, op := Go.Op.load 34 (Go.Operand.tmp 3), type := 34, pos := "law.go:282", after := #[{ on := 3, ground := Go.Ground.guard }], guard := some (3, false) }) (v := ?_) rfl (by kernel_rfl) (by kernel_rfl) (by kernel_rfl) (fun _ _ _ h => h) (Or.inl ⟨by rfl, ?hy11⟩) (by assumption) ?rest11
  case hy11 =>
    intro w hSw
    try dsimp only at hSw
    go_simp
    try with_reducible rfl
  try simp only [Act.put, List.setIfInBounds_toArray, List.set_cons_zero, List.set_cons_succ]
  refine wpAnyH_ready (rs := [6]) (by kernel_rfl) (by simp) ?_
  refine AllReadyH.cons (o := { dst := some 74, op := Go.Op.call { callee := Go.Callee.value (Go.Operand.func 49), args := #[Go.Operand.tmp 73], argTypes := #[34] }, type := 75, pos := "law.go:282", after := #[{ on := 5, ground := Go.Ground.data }, { on := 3, ground := Go.Ground.chain }, { on := 3, ground := Go.Ground.guard }], guard := some (3, false) }) rfl (fun K hK => ?_) AllReadyH.nil
  go_simp
  go_at_call 49
  refine Calls.mono (WH _).out ?_
  rintro e wc6 ⟨rfl, hbx⟩
  try dsimp only
  refine hK.out _ _ ?_ (fun hHeld3 => ?_)
  · exact kept12 hbx hHeld2 QB.out QK.out
  clear hK K hHeld2 hbx
  try simp only [Act.put, List.setIfInBounds_toArray, List.set_cons_zero, List.set_cons_succ]
  refine wpAnyH_ready (rs := [7]) (by kernel_rfl) (by simp) ?_
  refine AllReadyH.cons (o := { dst := some 75, op := Go.Op.call { callee := Go.Callee.value (Go.Operand.func 48), args := #[Go.Operand.tmp 72, Go.Operand.tmp 74], argTypes := #[75, 75] }, type := 4, pos := "law.go:282", after := #[{ on := 4, ground := Go.Ground.data }, { on := 6, ground := Go.Ground.data }, { on := 6, ground := Go.Ground.chain }, { on := 3, ground := Go.Ground.guard }], guard := some (3, false) }) rfl (fun K hK => ?_) AllReadyH.nil
  go_simp
  go_at_call 48
  refine Calls.mono (IN _).out ?_
  rintro e wc7 ⟨rfl, hbx⟩
  try dsimp only
  refine hK.out _ _ ?_ (fun hHeld4 => ?_)
  · exact kept12 hbx hHeld3 QB.out QK.out
  clear hK K hHeld3 hbx
  try simp only [Act.put, List.setIfInBounds_toArray, List.set_cons_zero, List.set_cons_succ]
  refine wpAnyH_take (i := 8) (oi := { dst := some 76, op := Go.Op.unOp Go.UnOp.not 4 (Go.Operand.tmp 75), type := 4, pos := "law.go:282", after := #[{ on := 7, ground := Go.Ground.data }, { on := 3, ground := Go.Ground.guard }], guard := some (3, false) }) (v := ?_) rfl (by kernel_rfl) (by kernel_rfl) (by kernel_rfl) (fun _ _ _ h => h) (Or.inl ⟨by rfl, ?hy12⟩) (by assumption) ?rest12
  case hy12 =>
    intro w hSw
    try dsimp only at hSw
    go_simp
    try with_reducible rfl
  try simp only [Act.put, List.setIfInBounds_toArray, List.set_cons_zero, List.set_cons_succ]
  refine wpAnyH_take (i := 9) (oi := { dst := some 77, op := Go.Op.pick (Go.Operand.tmp 71) (Go.Operand.const (Go.Value.bool true)) (Go.Operand.tmp 76), type := 4, pos := "law.go:282", after := #[{ on := 3, ground := Go.Ground.data }, { on := 8, ground := Go.Ground.data }], guard := none }) (v := ?_) rfl (by kernel_rfl) (by kernel_rfl) (by kernel_rfl) (fun _ _ _ h => h) (Or.inl ⟨by rfl, ?hy13⟩) (by assumption) ?rest13
  case hy13 =>
    intro w hSw
    try dsimp only at hSw
    go_simp
    try with_reducible rfl
  try simp only [Act.put, List.setIfInBounds_toArray, List.set_cons_zero, List.set_cons_succ]
  refine wpAnyH_take (i := 10) (oi := { dst := some 78, op := Go.Op.move (Go.Operand.tmp 77), type := 4, pos := "law.go:282", after := #[{ on := 9, ground := Go.Ground.data }, { on := 7, ground := Go.Ground.chain }], guard := none }) (v := ?_) rfl (by kernel_rfl) (by kernel_rfl) (by kernel_rfl) (fun _ _ _ h => h) (Or.inl ⟨by rfl, ?hy14⟩) (by assumption) ?rest14
  case hy14 =>
    intro w hSw
    try dsimp only at hSw
    go_simp
    try with_reducible rfl
  try simp only [Act.put, List.setIfInBounds_toArray, List.set_cons_zero, List.set_cons_succ]
  refine wpAnyH_take (i := 11) (oi := { dst := some 79, op := Go.Op.fieldAddr 75 (Go.Operand.tmp 5) 2, type := 0, pos := "law.go:282", after := #[{ on := 10, ground := Go.Ground.guard }], guard := some (10, false) }) (v := undef) rfl (by kernel_rfl) (by kernel_rfl) (by kernel_rfl) (fun _ _ _ h => h) (Or.inr ⟨by kernel_rfl, rfl⟩) (by assumption) ?_
  try simp only [Act.put, List.setIfInBounds_toArray, List.set_cons_zero, List.set_cons_succ]
  refine wpAnyH_take (i := 12) (oi := { dst := some 80, op := Go.Op.load 3 (Go.Operand.tmp 79), type := 3, pos := "law.go:282", after := #[{ on := 11, ground := Go.Ground.data }, { on := 10, ground := Go.Ground.guard }], guard := some (10, false) }) (v := undef) rfl (by kernel_rfl) (by kernel_rfl) (by kernel_rfl) (fun _ _ _ h => h) (Or.inr ⟨by kernel_rfl, rfl⟩) (by assumption) ?_
  try simp only [Act.put, List.setIfInBounds_toArray, List.set_cons_zero, List.set_cons_succ]
  refine wpAnyH_take (i := 13) (oi := { dst := some 81, op := Go.Op.fieldAddr 75 (Go.Operand.tmp 5) 0, type := 0, pos := "law.go:282", after := #[{ on := 10, ground := Go.Ground.guard }], guard := some (10, false) }) (v := undef) rfl (by kernel_rfl) (by kernel_rfl) (by kernel_rfl) (fun _ _ _ h => h) (Or.inr ⟨by kernel_rfl, rfl⟩) (by assumption) ?_
  try simp only [Act.put, List.setIfInBounds_toArray, List.set_cons_zero, List.set_cons_succ]
  refine wpAnyH_take (i := 14) (oi := { dst := some 82, op := Go.Op.load 3 (Go.Operand.tmp 81), type := 3, pos := "law.go:282", after := #[{ on := 13, ground := Go.Ground.data }, { on := 10, ground := Go.Ground.guard }], guard := some (10, false) }) (v := undef) rfl (by kernel_rfl) (by kernel_rfl) (by kernel_rfl) (fun _ _ _ h => h) (Or.inr ⟨by kernel_rfl, rfl⟩) (by assumption) ?_
  try simp only [Act.put, List.setIfInBounds_toArray, List.set_cons_zero, List.set_cons_succ]
  refine wpAnyH_take (i := 15) (oi := { dst := some 83, op := Go.Op.binOp Go.BinOp.sub 3 (Go.Operand.tmp 80) (Go.Operand.tmp 82) 3, type := 3, pos := "law.go:282", after := #[{ on := 12, ground := Go.Ground.data }, { on := 14, ground := Go.Ground.data }, { on := 10, ground := Go.Ground.guard }], guard := some (10, false) }) (v := undef) rfl (by kernel_rfl) (by kernel_rfl) (by kernel_rfl) (fun _ _ _ h => h) (Or.inr ⟨by kernel_rfl, rfl⟩) (by assumption) ?_
  try simp only [Act.put, List.setIfInBounds_toArray, List.set_cons_zero, List.set_cons_succ]
  refine wpAnyH_take (i := 16) (oi := { dst := some 84, op := Go.Op.move (Go.Operand.tmp 1), type := 3, pos := "law.go:282", after := #[{ on := 10, ground := Go.Ground.guard }], guard := some (10, false) }) (v := undef) rfl (by kernel_rfl) (by kernel_rfl) (by kernel_rfl) (fun _ _ _ h => h) (Or.inr ⟨by kernel_rfl, rfl⟩) (by assumption) ?_
  try simp only [Act.put, List.setIfInBounds_toArray, List.set_cons_zero, List.set_cons_succ]
  refine wpAnyH_take (i := 17) (oi := { dst := some 85, op := Go.Op.binOp Go.BinOp.neq 3 (Go.Operand.tmp 83) (Go.Operand.tmp 84) 3, type := 4, pos := "law.go:282", after := #[{ on := 15, ground := Go.Ground.data }, { on := 16, ground := Go.Ground.data }, { on := 10, ground := Go.Ground.guard }], guard := some (10, false) }) (v := undef) rfl (by kernel_rfl) (by kernel_rfl) (by kernel_rfl) (fun _ _ _ h => h) (Or.inr ⟨by kernel_rfl, rfl⟩) (by assumption) ?_
  try simp only [Act.put, List.setIfInBounds_toArray, List.set_cons_zero, List.set_cons_succ]
  refine wpAnyH_take (i := 18) (oi := { dst := some 86, op := Go.Op.pick (Go.Operand.tmp 78) (Go.Operand.const (Go.Value.bool true)) (Go.Operand.tmp 85), type := 4, pos := "law.go:282", after := #[{ on := 10, ground := Go.Ground.data }, { on := 17, ground := Go.Ground.data }], guard := none }) (v := ?_) rfl (by kernel_rfl) (by kernel_rfl) (by kernel_rfl) (fun _ _ _ h => h) (Or.inl ⟨by rfl, ?hy15⟩) (by assumption) ?rest15
  case hy15 =>
    intro w hSw
    try dsimp only at hSw
    go_simp
    try with_reducible rfl
  try simp only [Act.put, List.setIfInBounds_toArray, List.set_cons_zero, List.set_cons_succ]
  refine wpAnyH_done (by kernel_rfl) ?_ _
  have HH := Lib.hid hHeld4.1
  clear hHeld4
  go_wp2
  go_ret
  exact ⟨rfl, hBL.trans ((HB6.out.trans (HH.out.mono (by omega))).mono (by omega))⟩
end Go.Proofs.Ytnjbhidncicfiaa
