/- Walks over the timber seat: the law TimberGrades. -/
import Derived.Test.YtnjbhidncicfiaaH5
import Derived.Test.YtnjbhidncicfiaaAwake
namespace Go.Proofs.Ytnjbhidncicfiaa
open Go.RowKit

set_option maxHeartbeats 1000000 in
set_option maxRecDepth 20000 in
theorem lgr_skip {nm sp : ByteArray} {ln wd th cu mo : Int} {D : Option Addr} {dn dc : Nat} {_ds : List Rc} {A : Option Addr} {n cp : Nat} {_l : List Gr} (hpl : plainB nm sp dn = false) (hn1 : nm.size ≤ maxLen) (hn2 : sp.size ≤ maxLen) (hdn : dn ≤ maxLen) (_hn : n ≤ maxLen) (w : World) :
    Calls Try.prog 13 #[.agg #[.string nm, .string sp, .int .i64 ln, .int .i64 wd, .int .i64 th, .int .i64 cu, .int .i64 mo, .slice D dn dc], .slice A n cp] w fun e w' => e = .returned (.bool true) ∧ Below w.heap.size w w' := by
  have hBL : Below w.heap.size w (w.alloc (.cells #[.string nm, .string sp, .int .i64 ln, .int .i64 wd, .int .i64 th, .int .i64 cu, .int .i64 mo, .slice D dn dc] 34)) := (Below.refl _ _).alloc (Nat.le_refl _) _
  have PL := fun wx => Lib.hid (plain_any (nm := nm) (sp := sp) (ln := ln) (wd := wd) (th := th) (cu := cu) (mo := mo) (D := D) (dn := dn) (dc := dc) (w := wx) hpl hn1 hn2 hdn)
  clear hpl
  go_enter Try.func13, Try.ntmps13
  go_wp2_with (first | (go_at_call 18; refine (awake_any _).mono ?_; rintro e w1 ⟨rfl, hb1⟩; have hB1 : Below (w.alloc (.cells #[.string nm, .string sp, .int .i64 ln, .int .i64 wd, .int .i64 th, .int .i64 cu, .int .i64 mo, .slice D dn dc] 34)).heap.size (w.alloc (.cells #[.string nm, .string sp, .int .i64 ln, .int .i64 wd, .int .i64 th, .int .i64 cu, .int .i64 mo, .slice D dn dc] 34)) w1 := hb1; have hs1 : w.heap.size < w1.heap.size := (by have := hB1.size; (try simp at this); omega); obtain ⟨hc1, hf1⟩ := bcell hb1) | (go_at_call 24; (refine Calls.mono (PL _).out ?_); rintro e w2 ⟨rfl, hb2⟩; have hB2 : Below (w.alloc (.cells #[.string nm, .string sp, .int .i64 ln, .int .i64 wd, .int .i64 th, .int .i64 cu, .int .i64 mo, .slice D dn dc] 34)).heap.size (w.alloc (.cells #[.string nm, .string sp, .int .i64 ln, .int .i64 wd, .int .i64 th, .int .i64 cu, .int .i64 mo, .slice D dn dc] 34)) w2 := hB1.trans (hb2.mono hB1.size); have hs2 : w.heap.size < w2.heap.size := (by have := hB2.size; (try simp at this); omega); obtain ⟨hc2, hf2⟩ := bcell hb2))
  go_ret
  exact ⟨rfl, hBL.trans (hB2.mono (by simp))⟩
set_option maxHeartbeats 1000000 in
set_option maxRecDepth 20000 in
theorem lgr_many {nm sp : ByteArray} {ln wd th cu mo : Int} {D : Option Addr} {dn dc : Nat} {_ds : List Rc} {A : Option Addr} {n cp : Nat} {_l : List Gr} (hpl : plainB nm sp dn = true) (h30 : 30 < n) (hn1 : nm.size ≤ maxLen) (hn2 : sp.size ≤ maxLen) (hdn : dn ≤ maxLen) (hn : n ≤ maxLen) (w : World) :
    Calls Try.prog 13 #[.agg #[.string nm, .string sp, .int .i64 ln, .int .i64 wd, .int .i64 th, .int .i64 cu, .int .i64 mo, .slice D dn dc], .slice A n cp] w fun e w' => e = .returned (.bool true) ∧ Below w.heap.size w w' := by
  have hn' : n ≤ 9223372036854775807 := hn
  have hBL : Below w.heap.size w (w.alloc (.cells #[.string nm, .string sp, .int .i64 ln, .int .i64 wd, .int .i64 th, .int .i64 cu, .int .i64 mo, .slice D dn dc] 34)) := (Below.refl _ _).alloc (Nat.le_refl _) _
  have PL := fun wx => Lib.hid (plain_any (nm := nm) (sp := sp) (ln := ln) (wd := wd) (th := th) (cu := cu) (mo := mo) (D := D) (dn := dn) (dc := dc) (w := wx) hpl hn1 hn2 hdn)
  clear hpl
  go_enter Try.func13, Try.ntmps13
  go_wp2_with (first | (go_at_call 18; refine (awake_any _).mono ?_; rintro e w1 ⟨rfl, hb1⟩; have hB1 : Below (w.alloc (.cells #[.string nm, .string sp, .int .i64 ln, .int .i64 wd, .int .i64 th, .int .i64 cu, .int .i64 mo, .slice D dn dc] 34)).heap.size (w.alloc (.cells #[.string nm, .string sp, .int .i64 ln, .int .i64 wd, .int .i64 th, .int .i64 cu, .int .i64 mo, .slice D dn dc] 34)) w1 := hb1; have hs1 : w.heap.size < w1.heap.size := (by have := hB1.size; (try simp at this); omega); obtain ⟨hc1, hf1⟩ := bcell hb1) | (go_at_call 24; (refine Calls.mono (PL _).out ?_); rintro e w2 ⟨rfl, hb2⟩; have hB2 : Below (w.alloc (.cells #[.string nm, .string sp, .int .i64 ln, .int .i64 wd, .int .i64 th, .int .i64 cu, .int .i64 mo, .slice D dn dc] 34)).heap.size (w.alloc (.cells #[.string nm, .string sp, .int .i64 ln, .int .i64 wd, .int .i64 th, .int .i64 cu, .int .i64 mo, .slice D dn dc] 34)) w2 := hB1.trans (hb2.mono hB1.size); have hs2 : w.heap.size < w2.heap.size := (by have := hB2.size; (try simp at this); omega); obtain ⟨hc2, hf2⟩ := bcell hb2))
  go_ret
  exact ⟨rfl, hBL.trans (hB2.mono (by simp))⟩
set_option maxHeartbeats 4000000 in
set_option maxRecDepth 20000 in
theorem lgr_err {nm sp : ByteArray} {ln wd th cu mo : Int} {D : Option Addr} {dn dc : Nat} {ds : List Rc} {A : Option Addr} {n cp : Nat} {l : List Gr} {c : Int} (hc : bdCode ⟨nm, sp, ln, wd, th, cu, mo, ds⟩ = c) (hz : c ≠ 0) (hpl : plainB nm sp dn = true) (h30 : ¬ 30 < n) (hn1 : nm.size ≤ maxLen) (hn2 : sp.size ≤ maxLen) (hdn : dn ≤ maxLen) (hn : n ≤ maxLen) (w : World) (hd : RcRow w D dn ds) (hl : GrRow w A n l) :
    Calls Try.prog 13 #[.agg #[.string nm, .string sp, .int .i64 ln, .int .i64 wd, .int .i64 th, .int .i64 cu, .int .i64 mo, .slice D dn dc], .slice A n cp] w fun e w' => e = .returned (.bool true) ∧ Below w.heap.size w w' := by
  have hll := hl.1
  have hn' : n ≤ 9223372036854775807 := hn
  have hBL : Below w.heap.size w (w.alloc (.cells #[.string nm, .string sp, .int .i64 ln, .int .i64 wd, .int .i64 th, .int .i64 cu, .int .i64 mo, .slice D dn dc] 34)) := (Below.refl _ _).alloc (Nat.le_refl _) _
  have hd1 := RcRow.below hd hBL
  have hl1 := GrRow.below hl hBL
  have PL := fun wx => Lib.hid (plain_any (nm := nm) (sp := sp) (ln := ln) (wd := wd) (th := th) (cu := cu) (mo := mo) (D := D) (dn := dn) (dc := dc) (w := wx) hpl hn1 hn2 hdn)
  have GO := fun wx hbx => Lib.hid (gradeOf_err (dc := dc) (A := A) (n := n) (cp := cp) (_l := l) hc hz hn1 hn2 hdn wx (RcRow.below hd1 hbx))
  have BE := fun wx hbx => Lib.hid (rboardErr_any (dc := dc) hc hn1 hn2 hdn wx (RcRow.below hd1 hbx))
  have hzb : (c == 0) = false := beq_eq_false_iff_ne.2 hz
  have HBL := Lib.hid hBL
  have HL1 := Lib.hid hl1
  clear hd hd1 hl hl1 hBL hpl hc
  go_enter Try.func13, Try.ntmps13
  go_wp2_with (first | (go_at_call 18; refine (awake_any _).mono ?_; rintro e w1 ⟨rfl, hb1⟩; have hB1 : Below (w.alloc (.cells #[.string nm, .string sp, .int .i64 ln, .int .i64 wd, .int .i64 th, .int .i64 cu, .int .i64 mo, .slice D dn dc] 34)).heap.size (w.alloc (.cells #[.string nm, .string sp, .int .i64 ln, .int .i64 wd, .int .i64 th, .int .i64 cu, .int .i64 mo, .slice D dn dc] 34)) w1 := hb1; have hs1 : w.heap.size < w1.heap.size := (by have := hB1.size; (try simp at this); omega); obtain ⟨hc1, hf1⟩ := bcell hb1) | (go_at_call 24; (refine Calls.mono (PL _).out ?_); rintro e w2 ⟨rfl, hb2⟩; have hB2 : Below (w.alloc (.cells #[.string nm, .string sp, .int .i64 ln, .int .i64 wd, .int .i64 th, .int .i64 cu, .int .i64 mo, .slice D dn dc] 34)).heap.size (w.alloc (.cells #[.string nm, .string sp, .int .i64 ln, .int .i64 wd, .int .i64 th, .int .i64 cu, .int .i64 mo, .slice D dn dc] 34)) w2 := hB1.trans (hb2.mono hB1.size); have hs2 : w.heap.size < w2.heap.size := (by have := hB2.size; (try simp at this); omega); obtain ⟨hc2, hf2⟩ := bcell hb2))
  have HB2 := Lib.hid hB2
  have K2 : ∀ o, w2.cell? ⟨w.heap.size, o, none⟩ = _ := fun o => hB2.cell (p := ⟨w.heap.size, o, none⟩) (by simp)
  have q0 := K2 0; have q1 := K2 1; have q2 := K2 2; have q3 := K2 3; have q4 := K2 4; have q5 := K2 5; have q6 := K2 6; have q7 := K2 7
  simp [go_sem] at q0 q1 q2 q3 q4 q5 q6 q7
  clear hb1 hB1 hs1 hc1 hf1 hb2 hc2 hf2 K2 PL
  go_loop [5] (fun i => ∃ k : Nat, k ≤ n ∧ i = .int .i64 k) (fun i => n - (intOf i).toNat)
  case atStart => exact ⟨0, Nat.zero_le _, rfl⟩
  case round =>
    obtain ⟨k, hk, rfl⟩ := hrel
    by_cases hlt : k < n
    · have hkl : k < l.length := by omega
      obtain ⟨blk, off, rfl, hblk, hx⟩ := HL1.out.2 (by omega)
      obtain ⟨c0, -, -, -, hsz⟩ := (hx k hkl).below HB2.out hblk
      obtain ⟨gn, hgn⟩ : ∃ g, l[k].nm = g := ⟨_, rfl⟩
      rw [hgn] at c0 hsz
      have hsz' : gn.size ≤ 9223372036854775807 := hsz
      clear hx hgn
      by_cases h30 : 30 < gn.size
      · go_wp2
        go_ret
        exact ⟨rfl, HBL.out.trans (HB2.out.mono (by simp))⟩
      · go_wp2
        go_round
        case rel => exact ⟨k + 1, by omega, by go_num⟩
        case measure => simp [intOf]; omega
    · have hk' : k = n := by omega
      have hB2 := HB2.out
      clear hk hlt
      go_wp2_with (first | (go_at_call 55; (refine Calls.mono (GO _ hB2).out ?_); rintro e w3 ⟨rfl, hb3⟩; have hB3 : Below (w.alloc (.cells #[.string nm, .string sp, .int .i64 ln, .int .i64 wd, .int .i64 th, .int .i64 cu, .int .i64 mo, .slice D dn dc] 34)).heap.size (w.alloc (.cells #[.string nm, .string sp, .int .i64 ln, .int .i64 wd, .int .i64 th, .int .i64 cu, .int .i64 mo, .slice D dn dc] 34)) w3 := hB2.trans (hb3.mono hB2.size); have hs3 : w.heap.size < w3.heap.size := (by have := hB3.size; (try simp at this); omega); obtain ⟨hc3, hf3⟩ := bcell hb3) | (go_at_call 45; (refine Calls.mono (BE _ hB3).out ?_); rintro e w4 ⟨rfl, hb4⟩; have hB4 : Below (w.alloc (.cells #[.string nm, .string sp, .int .i64 ln, .int .i64 wd, .int .i64 th, .int .i64 cu, .int .i64 mo, .slice D dn dc] 34)).heap.size (w.alloc (.cells #[.string nm, .string sp, .int .i64 ln, .int .i64 wd, .int .i64 th, .int .i64 cu, .int .i64 mo, .slice D dn dc] 34)) w4 := hB3.trans (hb4.mono hB3.size); have hs4 : w.heap.size < w4.heap.size := (by have := hB4.size; (try simp at this); omega); obtain ⟨hc4, hf4⟩ := bcell hb4))
      go_ret
      exact ⟨rfl, HBL.out.trans (hB4.mono (by simp))⟩
set_option maxHeartbeats 4000000 in
set_option maxRecDepth 20000 in
theorem lgr_list {nm sp : ByteArray} {ln wd th cu mo : Int} {D : Option Addr} {dn dc : Nat} {ds : List Rc} {A : Option Addr} {n cp : Nat} {l : List Gr} {c : Int} (hc : bdCode ⟨nm, sp, ln, wd, th, cu, mo, ds⟩ = 0) (hg : grsCode l = c) (hz : c ≠ 0) (hpl : plainB nm sp dn = true) (h30 : ¬ 30 < n) (hn1 : nm.size ≤ maxLen) (hn2 : sp.size ≤ maxLen) (hdn : dn ≤ maxLen) (hn : n ≤ maxLen) (w : World) (hd : RcRow w D dn ds) (hl : GrRow w A n l) :
    Calls Try.prog 13 #[.agg #[.string nm, .string sp, .int .i64 ln, .int .i64 wd, .int .i64 th, .int .i64 cu, .int .i64 mo, .slice D dn dc], .slice A n cp] w fun e w' => e = .returned (.bool true) ∧ Below w.heap.size w w' := by
  have hll := hl.1
  have hn' : n ≤ 9223372036854775807 := hn
  have hBL : Below w.heap.size w (w.alloc (.cells #[.string nm, .string sp, .int .i64 ln, .int .i64 wd, .int .i64 th, .int .i64 cu, .int .i64 mo, .slice D dn dc] 34)) := (Below.refl _ _).alloc (Nat.le_refl _) _
  have hd1 := RcRow.below hd hBL
  have hl1 := GrRow.below hl hBL
  have PL := fun wx => Lib.hid (plain_any (nm := nm) (sp := sp) (ln := ln) (wd := wd) (th := th) (cu := cu) (mo := mo) (D := D) (dn := dn) (dc := dc) (w := wx) hpl hn1 hn2 hdn)
  have GO := fun wx hbx => Lib.hid (gradeOf_list (dc := dc) (cp := cp) hc hg hz hn1 hn2 hdn hn wx (RcRow.below hd1 hbx) (GrRow.below hl1 hbx))
  have BE := fun wx hbx => Lib.hid (rboardErr_any (dc := dc) hc hn1 hn2 hdn wx (RcRow.below hd1 hbx))
  have GE := fun wx hbx => Lib.hid (rcheckGrades_any (cp := cp) hg wx (GrRow.below hl1 hbx) hn)
  have hzb : (c == 0) = false := beq_eq_false_iff_ne.2 hz
  have HBL := Lib.hid hBL
  have HL1 := Lib.hid hl1
  clear hd hd1 hl hl1 hBL hpl hc hg
  go_enter Try.func13, Try.ntmps13
  go_wp2_with (first | (go_at_call 18; refine (awake_any _).mono ?_; rintro e w1 ⟨rfl, hb1⟩; have hB1 : Below (w.alloc (.cells #[.string nm, .string sp, .int .i64 ln, .int .i64 wd, .int .i64 th, .int .i64 cu, .int .i64 mo, .slice D dn dc] 34)).heap.size (w.alloc (.cells #[.string nm, .string sp, .int .i64 ln, .int .i64 wd, .int .i64 th, .int .i64 cu, .int .i64 mo, .slice D dn dc] 34)) w1 := hb1; have hs1 : w.heap.size < w1.heap.size := (by have := hB1.size; (try simp at this); omega); obtain ⟨hc1, hf1⟩ := bcell hb1) | (go_at_call 24; (refine Calls.mono (PL _).out ?_); rintro e w2 ⟨rfl, hb2⟩; have hB2 : Below (w.alloc (.cells #[.string nm, .string sp, .int .i64 ln, .int .i64 wd, .int .i64 th, .int .i64 cu, .int .i64 mo, .slice D dn dc] 34)).heap.size (w.alloc (.cells #[.string nm, .string sp, .int .i64 ln, .int .i64 wd, .int .i64 th, .int .i64 cu, .int .i64 mo, .slice D dn dc] 34)) w2 := hB1.trans (hb2.mono hB1.size); have hs2 : w.heap.size < w2.heap.size := (by have := hB2.size; (try simp at this); omega); obtain ⟨hc2, hf2⟩ := bcell hb2))
  have HB2 := Lib.hid hB2
  have K2 : ∀ o, w2.cell? ⟨w.heap.size, o, none⟩ = _ := fun o => hB2.cell (p := ⟨w.heap.size, o, none⟩) (by simp)
  have q0 := K2 0; have q1 := K2 1; have q2 := K2 2; have q3 := K2 3; have q4 := K2 4; have q5 := K2 5; have q6 := K2 6; have q7 := K2 7
  simp [go_sem] at q0 q1 q2 q3 q4 q5 q6 q7
  clear hb1 hB1 hs1 hc1 hf1 hb2 hc2 hf2 K2 PL
  go_loop [5] (fun i => ∃ k : Nat, k ≤ n ∧ i = .int .i64 k) (fun i => n - (intOf i).toNat)
  case atStart => exact ⟨0, Nat.zero_le _, rfl⟩
  case round =>
    obtain ⟨k, hk, rfl⟩ := hrel
    by_cases hlt : k < n
    · have hkl : k < l.length := by omega
      obtain ⟨blk, off, rfl, hblk, hx⟩ := HL1.out.2 (by omega)
      obtain ⟨c0, -, -, -, hsz⟩ := (hx k hkl).below HB2.out hblk
      obtain ⟨gn, hgn⟩ : ∃ g, l[k].nm = g := ⟨_, rfl⟩
      rw [hgn] at c0 hsz
      have hsz' : gn.size ≤ 9223372036854775807 := hsz
      clear hx hgn
      by_cases h30 : 30 < gn.size
      · go_wp2
        go_ret
        exact ⟨rfl, HBL.out.trans (HB2.out.mono (by simp))⟩
      · go_wp2
        go_round
        case rel => exact ⟨k + 1, by omega, by go_num⟩
        case measure => simp [intOf]; omega
    · have hk' : k = n := by omega
      have hB2 := HB2.out
      clear hk hlt
      go_wp2_with (first | (go_at_call 55; (refine Calls.mono (GO _ hB2).out ?_); rintro e w3 ⟨rfl, hb3⟩; have hB3 : Below (w.alloc (.cells #[.string nm, .string sp, .int .i64 ln, .int .i64 wd, .int .i64 th, .int .i64 cu, .int .i64 mo, .slice D dn dc] 34)).heap.size (w.alloc (.cells #[.string nm, .string sp, .int .i64 ln, .int .i64 wd, .int .i64 th, .int .i64 cu, .int .i64 mo, .slice D dn dc] 34)) w3 := hB2.trans (hb3.mono hB2.size); have hs3 : w.heap.size < w3.heap.size := (by have := hB3.size; (try simp at this); omega); obtain ⟨hc3, hf3⟩ := bcell hb3) | (go_at_call 45; (refine Calls.mono (BE _ hB3).out ?_); rintro e w4 ⟨rfl, hb4⟩; have hB4 : Below (w.alloc (.cells #[.string nm, .string sp, .int .i64 ln, .int .i64 wd, .int .i64 th, .int .i64 cu, .int .i64 mo, .slice D dn dc] 34)).heap.size (w.alloc (.cells #[.string nm, .string sp, .int .i64 ln, .int .i64 wd, .int .i64 th, .int .i64 cu, .int .i64 mo, .slice D dn dc] 34)) w4 := hB3.trans (hb4.mono hB3.size); have hs4 : w.heap.size < w4.heap.size := (by have := hB4.size; (try simp at this); omega); obtain ⟨hc4, hf4⟩ := bcell hb4) | (go_at_call 56; (refine Calls.mono (GE _ hB4).out ?_); rintro e _ ⟨rfl, rfl⟩))
      go_ret
      exact ⟨rfl, HBL.out.trans (hB4.mono (by simp))⟩
set_option maxHeartbeats 4000000 in
set_option maxRecDepth 20000 in
theorem lgr_none {nm sp : ByteArray} {ln wd th cu mo : Int} {D : Option Addr} {dn dc : Nat} {ds : List Rc} {A : Option Addr} {n cp : Nat} {l : List Gr} {r : Int} (hc : bdCode ⟨nm, sp, ln, wd, th, cu, mo, ds⟩ = 0) (hg : grsCode l = 0) (hr : gradeB ⟨nm, sp, ln, wd, th, cu, mo, ds⟩ (clrTo ⟨nm, sp, ln, wd, th, cu, mo, ds⟩ (xLines ⟨nm, sp, ln, wd, th, cu, mo, ds⟩) ((xLines ⟨nm, sp, ln, wd, th, cu, mo, ds⟩).length - 1)) l = r) (hneg : r < 0) (hpl : plainB nm sp dn = true) (h30 : ¬ 30 < n) (hn1 : nm.size ≤ maxLen) (hn2 : sp.size ≤ maxLen) (hdn : dn ≤ maxLen) (hn : n ≤ maxLen) (w : World) (hd : RcRow w D dn ds) (hl : GrRow w A n l) :
    Calls Try.prog 13 #[.agg #[.string nm, .string sp, .int .i64 ln, .int .i64 wd, .int .i64 th, .int .i64 cu, .int .i64 mo, .slice D dn dc], .slice A n cp] w fun e w' => e = .returned (.bool true) ∧ Below w.heap.size w w' := by
  have hll := hl.1
  have hn' : n ≤ 9223372036854775807 := hn
  have hBL : Below w.heap.size w (w.alloc (.cells #[.string nm, .string sp, .int .i64 ln, .int .i64 wd, .int .i64 th, .int .i64 cu, .int .i64 mo, .slice D dn dc] 34)) := (Below.refl _ _).alloc (Nat.le_refl _) _
  have hd1 := RcRow.below hd hBL
  have hl1 := GrRow.below hl hBL
  have PL := fun wx => Lib.hid (plain_any (nm := nm) (sp := sp) (ln := ln) (wd := wd) (th := th) (cu := cu) (mo := mo) (D := D) (dn := dn) (dc := dc) (w := wx) hpl hn1 hn2 hdn)
  have hb := bdOk_of hc
  have GO := fun wx hbx => Lib.hid (gradeOf_ok (dc := dc) (cp := cp) hc hg (clear_ref hb) hr hn1 hn2 hdn hn wx (RcRow.below hd1 hbx) (GrRow.below hl1 hbx))
  have BE := fun wx hbx => Lib.hid (rboardErr_any (dc := dc) hc hn1 hn2 hdn wx (RcRow.below hd1 hbx))
  have GE := fun wx hbx => Lib.hid (rcheckGrades_any (cp := cp) hg wx (GrRow.below hl1 hbx) hn)
  have RO := fun wx hbx => Lib.hid (gradeRef_any (dc := dc) (cp := cp) hb (fun g hgm => (grs_each (grs_ok hg).2 g hgm).2.1) (clear_ref hb) hr hn wx (RcRow.below hd1 hbx) (GrRow.below hl1 hbx))
  have hgt : gradeT r = .tuple #[.int .i64 0, .int .i64 12] := by unfold gradeT; rw [decide_eq_true hneg]; rfl
  rw [hgt] at GO
  have HBL := Lib.hid hBL
  have HL1 := Lib.hid hl1
  clear hd hd1 hl hl1 hBL hpl hc hg hr hgt hb
  go_enter Try.func13, Try.ntmps13
  go_wp2_with (first | (go_at_call 18; refine (awake_any _).mono ?_; rintro e w1 ⟨rfl, hb1⟩; have hB1 : Below (w.alloc (.cells #[.string nm, .string sp, .int .i64 ln, .int .i64 wd, .int .i64 th, .int .i64 cu, .int .i64 mo, .slice D dn dc] 34)).heap.size (w.alloc (.cells #[.string nm, .string sp, .int .i64 ln, .int .i64 wd, .int .i64 th, .int .i64 cu, .int .i64 mo, .slice D dn dc] 34)) w1 := hb1; have hs1 : w.heap.size < w1.heap.size := (by have := hB1.size; (try simp at this); omega); obtain ⟨hc1, hf1⟩ := bcell hb1) | (go_at_call 24; (refine Calls.mono (PL _).out ?_); rintro e w2 ⟨rfl, hb2⟩; have hB2 : Below (w.alloc (.cells #[.string nm, .string sp, .int .i64 ln, .int .i64 wd, .int .i64 th, .int .i64 cu, .int .i64 mo, .slice D dn dc] 34)).heap.size (w.alloc (.cells #[.string nm, .string sp, .int .i64 ln, .int .i64 wd, .int .i64 th, .int .i64 cu, .int .i64 mo, .slice D dn dc] 34)) w2 := hB1.trans (hb2.mono hB1.size); have hs2 : w.heap.size < w2.heap.size := (by have := hB2.size; (try simp at this); omega); obtain ⟨hc2, hf2⟩ := bcell hb2))
  have HB2 := Lib.hid hB2
  have K2 : ∀ o, w2.cell? ⟨w.heap.size, o, none⟩ = _ := fun o => hB2.cell (p := ⟨w.heap.size, o, none⟩) (by simp)
  have q0 := K2 0; have q1 := K2 1; have q2 := K2 2; have q3 := K2 3; have q4 := K2 4; have q5 := K2 5; have q6 := K2 6; have q7 := K2 7
  simp [go_sem] at q0 q1 q2 q3 q4 q5 q6 q7
  clear hb1 hB1 hs1 hc1 hf1 hb2 hc2 hf2 K2 PL
  go_loop [5] (fun i => ∃ k : Nat, k ≤ n ∧ i = .int .i64 k) (fun i => n - (intOf i).toNat)
  case atStart => exact ⟨0, Nat.zero_le _, rfl⟩
  case round =>
    obtain ⟨k, hk, rfl⟩ := hrel
    by_cases hlt : k < n
    · have hkl : k < l.length := by omega
      obtain ⟨blk, off, rfl, hblk, hx⟩ := HL1.out.2 (by omega)
      obtain ⟨c0, -, -, -, hsz⟩ := (hx k hkl).below HB2.out hblk
      obtain ⟨gn, hgn⟩ : ∃ g, l[k].nm = g := ⟨_, rfl⟩
      rw [hgn] at c0 hsz
      have hsz' : gn.size ≤ 9223372036854775807 := hsz
      clear hx hgn
      by_cases h30 : 30 < gn.size
      · go_wp2
        go_ret
        exact ⟨rfl, HBL.out.trans (HB2.out.mono (by simp))⟩
      · go_wp2
        go_round
        case rel => exact ⟨k + 1, by omega, by go_num⟩
        case measure => simp [intOf]; omega
    · have hk' : k = n := by omega
      have hB2 := HB2.out
      clear hk hlt
      go_wp2_with (first | (go_at_call 55; (refine Calls.mono (GO _ hB2).out ?_); rintro e w3 ⟨rfl, hb3⟩; have hB3 : Below (w.alloc (.cells #[.string nm, .string sp, .int .i64 ln, .int .i64 wd, .int .i64 th, .int .i64 cu, .int .i64 mo, .slice D dn dc] 34)).heap.size (w.alloc (.cells #[.string nm, .string sp, .int .i64 ln, .int .i64 wd, .int .i64 th, .int .i64 cu, .int .i64 mo, .slice D dn dc] 34)) w3 := hB2.trans (hb3.mono hB2.size); have hs3 : w.heap.size < w3.heap.size := (by have := hB3.size; (try simp at this); omega); obtain ⟨hc3, hf3⟩ := bcell hb3) | (go_at_call 45; (refine Calls.mono (BE _ hB3).out ?_); rintro e w4 ⟨rfl, hb4⟩; have hB4 : Below (w.alloc (.cells #[.string nm, .string sp, .int .i64 ln, .int .i64 wd, .int .i64 th, .int .i64 cu, .int .i64 mo, .slice D dn dc] 34)).heap.size (w.alloc (.cells #[.string nm, .string sp, .int .i64 ln, .int .i64 wd, .int .i64 th, .int .i64 cu, .int .i64 mo, .slice D dn dc] 34)) w4 := hB3.trans (hb4.mono hB3.size); have hs4 : w.heap.size < w4.heap.size := (by have := hB4.size; (try simp at this); omega); obtain ⟨hc4, hf4⟩ := bcell hb4) | (go_at_call 56; (refine Calls.mono (GE _ hB4).out ?_); rintro e _ ⟨rfl, rfl⟩) | (go_at_call 57; (refine Calls.mono (RO _ hB4).out ?_); rintro e w5 ⟨rfl, hb5⟩; have hB5 : Below (w.alloc (.cells #[.string nm, .string sp, .int .i64 ln, .int .i64 wd, .int .i64 th, .int .i64 cu, .int .i64 mo, .slice D dn dc] 34)).heap.size (w.alloc (.cells #[.string nm, .string sp, .int .i64 ln, .int .i64 wd, .int .i64 th, .int .i64 cu, .int .i64 mo, .slice D dn dc] 34)) w5 := hB4.trans (hb5.mono hB4.size); have hs5 : w.heap.size < w5.heap.size := (by have := hB5.size; (try simp at this); omega); obtain ⟨hc5, hf5⟩ := bcell hb5) | (go_at_call 57; (refine Calls.mono (RO _ hB5).out ?_); rintro e w6 ⟨rfl, hb6⟩; have hB6 : Below (w.alloc (.cells #[.string nm, .string sp, .int .i64 ln, .int .i64 wd, .int .i64 th, .int .i64 cu, .int .i64 mo, .slice D dn dc] 34)).heap.size (w.alloc (.cells #[.string nm, .string sp, .int .i64 ln, .int .i64 wd, .int .i64 th, .int .i64 cu, .int .i64 mo, .slice D dn dc] 34)) w6 := hB5.trans (hb6.mono hB5.size); have hs6 : w.heap.size < w6.heap.size := (by have := hB6.size; (try simp at this); omega); obtain ⟨hc6, hf6⟩ := bcell hb6))
      go_ret
      exact ⟨rfl, HBL.out.trans (hB5.mono (by simp))⟩
set_option maxHeartbeats 4000000 in
set_option maxRecDepth 20000 in
theorem lgr_some {nm sp : ByteArray} {ln wd th cu mo : Int} {D : Option Addr} {dn dc : Nat} {ds : List Rc} {A : Option Addr} {n cp : Nat} {l : List Gr} {r : Int} (hc : bdCode ⟨nm, sp, ln, wd, th, cu, mo, ds⟩ = 0) (hg : grsCode l = 0) (hr : gradeB ⟨nm, sp, ln, wd, th, cu, mo, ds⟩ (clrTo ⟨nm, sp, ln, wd, th, cu, mo, ds⟩ (xLines ⟨nm, sp, ln, wd, th, cu, mo, ds⟩) ((xLines ⟨nm, sp, ln, wd, th, cu, mo, ds⟩).length - 1)) l = r) (hneg : ¬ r < 0) (hpl : plainB nm sp dn = true) (h30 : ¬ 30 < n) (hn1 : nm.size ≤ maxLen) (hn2 : sp.size ≤ maxLen) (hdn : dn ≤ maxLen) (hn : n ≤ maxLen) (w : World) (hd : RcRow w D dn ds) (hl : GrRow w A n l) :
    Calls Try.prog 13 #[.agg #[.string nm, .string sp, .int .i64 ln, .int .i64 wd, .int .i64 th, .int .i64 cu, .int .i64 mo, .slice D dn dc], .slice A n cp] w fun e w' => e = .returned (.bool true) ∧ Below w.heap.size w w' := by
  have hll := hl.1
  have hn' : n ≤ 9223372036854775807 := hn
  have hBL : Below w.heap.size w (w.alloc (.cells #[.string nm, .string sp, .int .i64 ln, .int .i64 wd, .int .i64 th, .int .i64 cu, .int .i64 mo, .slice D dn dc] 34)) := (Below.refl _ _).alloc (Nat.le_refl _) _
  have hd1 := RcRow.below hd hBL
  have hl1 := GrRow.below hl hBL
  have PL := fun wx => Lib.hid (plain_any (nm := nm) (sp := sp) (ln := ln) (wd := wd) (th := th) (cu := cu) (mo := mo) (D := D) (dn := dn) (dc := dc) (w := wx) hpl hn1 hn2 hdn)
  have hb := bdOk_of hc
  have GO := fun wx hbx => Lib.hid (gradeOf_ok (dc := dc) (cp := cp) hc hg (clear_ref hb) hr hn1 hn2 hdn hn wx (RcRow.below hd1 hbx) (GrRow.below hl1 hbx))
  have BE := fun wx hbx => Lib.hid (rboardErr_any (dc := dc) hc hn1 hn2 hdn wx (RcRow.below hd1 hbx))
  have GE := fun wx hbx => Lib.hid (rcheckGrades_any (cp := cp) hg wx (GrRow.below hl1 hbx) hn)
  have RO := fun wx hbx => Lib.hid (gradeRef_any (dc := dc) (cp := cp) hb (fun g hgm => (grs_each (grs_ok hg).2 g hgm).2.1) (clear_ref hb) hr hn wx (RcRow.below hd1 hbx) (GrRow.below hl1 hbx))
  have hgt : gradeT r = .tuple #[.int .i64 r, .int .i64 0] := by unfold gradeT; rw [decide_eq_false hneg]; rfl
  rw [hgt] at GO
  have HBL := Lib.hid hBL
  have HL1 := Lib.hid hl1
  clear hd hd1 hl hl1 hBL hpl hc hg hr hgt hb
  go_enter Try.func13, Try.ntmps13
  go_wp2_with (first | (go_at_call 18; refine (awake_any _).mono ?_; rintro e w1 ⟨rfl, hb1⟩; have hB1 : Below (w.alloc (.cells #[.string nm, .string sp, .int .i64 ln, .int .i64 wd, .int .i64 th, .int .i64 cu, .int .i64 mo, .slice D dn dc] 34)).heap.size (w.alloc (.cells #[.string nm, .string sp, .int .i64 ln, .int .i64 wd, .int .i64 th, .int .i64 cu, .int .i64 mo, .slice D dn dc] 34)) w1 := hb1; have hs1 : w.heap.size < w1.heap.size := (by have := hB1.size; (try simp at this); omega); obtain ⟨hc1, hf1⟩ := bcell hb1) | (go_at_call 24; (refine Calls.mono (PL _).out ?_); rintro e w2 ⟨rfl, hb2⟩; have hB2 : Below (w.alloc (.cells #[.string nm, .string sp, .int .i64 ln, .int .i64 wd, .int .i64 th, .int .i64 cu, .int .i64 mo, .slice D dn dc] 34)).heap.size (w.alloc (.cells #[.string nm, .string sp, .int .i64 ln, .int .i64 wd, .int .i64 th, .int .i64 cu, .int .i64 mo, .slice D dn dc] 34)) w2 := hB1.trans (hb2.mono hB1.size); have hs2 : w.heap.size < w2.heap.size := (by have := hB2.size; (try simp at this); omega); obtain ⟨hc2, hf2⟩ := bcell hb2))
  have HB2 := Lib.hid hB2
  have K2 : ∀ o, w2.cell? ⟨w.heap.size, o, none⟩ = _ := fun o => hB2.cell (p := ⟨w.heap.size, o, none⟩) (by simp)
  have q0 := K2 0; have q1 := K2 1; have q2 := K2 2; have q3 := K2 3; have q4 := K2 4; have q5 := K2 5; have q6 := K2 6; have q7 := K2 7
  simp [go_sem] at q0 q1 q2 q3 q4 q5 q6 q7
  clear hb1 hB1 hs1 hc1 hf1 hb2 hc2 hf2 K2 PL
  go_loop [5] (fun i => ∃ k : Nat, k ≤ n ∧ i = .int .i64 k) (fun i => n - (intOf i).toNat)
  case atStart => exact ⟨0, Nat.zero_le _, rfl⟩
  case round =>
    obtain ⟨k, hk, rfl⟩ := hrel
    by_cases hlt : k < n
    · have hkl : k < l.length := by omega
      obtain ⟨blk, off, rfl, hblk, hx⟩ := HL1.out.2 (by omega)
      obtain ⟨c0, -, -, -, hsz⟩ := (hx k hkl).below HB2.out hblk
      obtain ⟨gn, hgn⟩ : ∃ g, l[k].nm = g := ⟨_, rfl⟩
      rw [hgn] at c0 hsz
      have hsz' : gn.size ≤ 9223372036854775807 := hsz
      clear hx hgn
      by_cases h30 : 30 < gn.size
      · go_wp2
        go_ret
        exact ⟨rfl, HBL.out.trans (HB2.out.mono (by simp))⟩
      · go_wp2
        go_round
        case rel => exact ⟨k + 1, by omega, by go_num⟩
        case measure => simp [intOf]; omega
    · have hk' : k = n := by omega
      have hB2 := HB2.out
      clear hk hlt
      go_wp2_with (first | (go_at_call 55; (refine Calls.mono (GO _ hB2).out ?_); rintro e w3 ⟨rfl, hb3⟩; have hB3 : Below (w.alloc (.cells #[.string nm, .string sp, .int .i64 ln, .int .i64 wd, .int .i64 th, .int .i64 cu, .int .i64 mo, .slice D dn dc] 34)).heap.size (w.alloc (.cells #[.string nm, .string sp, .int .i64 ln, .int .i64 wd, .int .i64 th, .int .i64 cu, .int .i64 mo, .slice D dn dc] 34)) w3 := hB2.trans (hb3.mono hB2.size); have hs3 : w.heap.size < w3.heap.size := (by have := hB3.size; (try simp at this); omega); obtain ⟨hc3, hf3⟩ := bcell hb3) | (go_at_call 45; (refine Calls.mono (BE _ hB3).out ?_); rintro e w4 ⟨rfl, hb4⟩; have hB4 : Below (w.alloc (.cells #[.string nm, .string sp, .int .i64 ln, .int .i64 wd, .int .i64 th, .int .i64 cu, .int .i64 mo, .slice D dn dc] 34)).heap.size (w.alloc (.cells #[.string nm, .string sp, .int .i64 ln, .int .i64 wd, .int .i64 th, .int .i64 cu, .int .i64 mo, .slice D dn dc] 34)) w4 := hB3.trans (hb4.mono hB3.size); have hs4 : w.heap.size < w4.heap.size := (by have := hB4.size; (try simp at this); omega); obtain ⟨hc4, hf4⟩ := bcell hb4) | (go_at_call 56; (refine Calls.mono (GE _ hB4).out ?_); rintro e _ ⟨rfl, rfl⟩) | (go_at_call 57; (refine Calls.mono (RO _ hB4).out ?_); rintro e w5 ⟨rfl, hb5⟩; have hB5 : Below (w.alloc (.cells #[.string nm, .string sp, .int .i64 ln, .int .i64 wd, .int .i64 th, .int .i64 cu, .int .i64 mo, .slice D dn dc] 34)).heap.size (w.alloc (.cells #[.string nm, .string sp, .int .i64 ln, .int .i64 wd, .int .i64 th, .int .i64 cu, .int .i64 mo, .slice D dn dc] 34)) w5 := hB4.trans (hb5.mono hB4.size); have hs5 : w.heap.size < w5.heap.size := (by have := hB5.size; (try simp at this); omega); obtain ⟨hc5, hf5⟩ := bcell hb5) | (go_at_call 57; (refine Calls.mono (RO _ hB5).out ?_); rintro e w6 ⟨rfl, hb6⟩; have hB6 : Below (w.alloc (.cells #[.string nm, .string sp, .int .i64 ln, .int .i64 wd, .int .i64 th, .int .i64 cu, .int .i64 mo, .slice D dn dc] 34)).heap.size (w.alloc (.cells #[.string nm, .string sp, .int .i64 ln, .int .i64 wd, .int .i64 th, .int .i64 cu, .int .i64 mo, .slice D dn dc] 34)) w6 := hB5.trans (hb6.mono hB5.size); have hs6 : w.heap.size < w6.heap.size := (by have := hB6.size; (try simp at this); omega); obtain ⟨hc6, hf6⟩ := bcell hb6))
      go_ret
      exact ⟨rfl, HBL.out.trans (hB6.mono (by simp))⟩
theorem grades_law (bd : Bd) (D : Option Addr) (dn dc : Nat) (A : Option Addr) (n cp : Nat) (l : List Gr) (hb : bd.nm.size ≤ maxLen ∧ bd.sp.size ≤ maxLen ∧ dn ≤ maxLen ∧ dn ≤ dc) (hn : n ≤ maxLen ∧ n ≤ cp) (w : World) (hd : RcRow w D dn bd.df) (hl : GrRow w A n l) :
    Calls Try.prog 13 #[.agg #[.string bd.nm, .string bd.sp, .int .i64 bd.ln, .int .i64 bd.wd, .int .i64 bd.th, .int .i64 bd.cu, .int .i64 bd.mo, .slice D dn dc], .slice A n cp] w fun e w' => e = .returned (.bool true) ∧ Below w.heap.size w w' := by
  obtain ⟨nm, sp, ln, wd, th, cu, mo, ds⟩ := bd
  obtain ⟨h1, h2, h3, -⟩ := hb
  cases hpl : plainB nm sp dn
  · exact lgr_skip (_ds := ds) (_l := l) hpl h1 h2 h3 hn.1 w
  · by_cases h30 : 30 < n
    · exact lgr_many (_ds := ds) (_l := l) hpl h30 h1 h2 h3 hn.1 w
    · by_cases hc : bdCode ⟨nm, sp, ln, wd, th, cu, mo, ds⟩ = 0
      · by_cases hg : grsCode l = 0
        · by_cases hr : gradeB ⟨nm, sp, ln, wd, th, cu, mo, ds⟩ (clrTo ⟨nm, sp, ln, wd, th, cu, mo, ds⟩ (xLines ⟨nm, sp, ln, wd, th, cu, mo, ds⟩) ((xLines ⟨nm, sp, ln, wd, th, cu, mo, ds⟩).length - 1)) l < 0
          · exact lgr_none hc hg rfl hr hpl h30 h1 h2 h3 hn.1 w hd hl
          · exact lgr_some hc hg rfl hr hpl h30 h1 h2 h3 hn.1 w hd hl
        · exact lgr_list hc rfl hg hpl h30 h1 h2 h3 hn.1 w hd hl
      · exact lgr_err rfl hc hpl h30 h1 h2 h3 hn.1 w hd hl
end Go.Proofs.Ytnjbhidncicfiaa
