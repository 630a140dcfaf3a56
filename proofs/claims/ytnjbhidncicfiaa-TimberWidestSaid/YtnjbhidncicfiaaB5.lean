/- Walks over the timber seat: a board of some species, its mass. -/
import Derived.Test.YtnjbhidncicfiaaB4
namespace Go.Proofs.Ytnjbhidncicfiaa
open Go.RowKit Go.Maps

theorem bdOf_zero {l : List Sp} {b : Bd} (h : bdOf l b = 0) : bdCode b = 0 ∧ findFrom 0 b.sp l ≠ -1 := by
  unfold bdOf at h
  by_cases h0 : bdCode b = 0
  · rw [decide_eq_true h0] at h
    refine ⟨h0, fun e => ?_⟩
    rw [decide_eq_true e] at h
    cases h
  · rw [decide_eq_false h0] at h
    exact absurd h h0
theorem chk_list {l : List Sp} {b : Bd} (h : spsCode l ≠ 0) : chkBoard l b = spsCode l := by unfold chkBoard; rw [decide_eq_false h]; rfl
theorem chk_board {l : List Sp} {b : Bd} (h : spsCode l = 0) : chkBoard l b = bdOf l b := by unfold chkBoard; rw [decide_eq_true h]; rfl
/-- The species of an accepted board. -/
theorem chk_sp {l : List Sp} {b : Bd} (h : chkBoard l b = 0) : spsCode l = 0 ∧ bdOf l b = 0 ∧ ∃ (j : Nat) (s : Sp), j < l.length ∧ findFrom 0 b.sp l = j ∧ l[j]? = some s := by
  by_cases h0 : spsCode l = 0
  · rw [chk_board h0] at h
    obtain ⟨h1, h2⟩ := bdOf_zero h
    obtain ⟨j, hj, e⟩ := find_lt h2
    exact ⟨h0, h, j, l[j], hj, e, List.getElem?_eq_getElem hj⟩
  · rw [chk_list h0] at h; exact absurd h h0
set_option maxHeartbeats 4000000 in
theorem checkBoard_any {nm sp : ByteArray} {ln wd th cu mo : Int} {D : Option Addr} {dn dc : Nat} {ds : List Rc} {A : Option Addr} {n cp : Nat} {l : List Sp} {c : Int} (hc : chkBoard l ⟨nm, sp, ln, wd, th, cu, mo, ds⟩ = c) (hn1 : nm.size ≤ maxLen) (hn2 : sp.size ≤ maxLen) (hdn : dn ≤ maxLen) (w : World) (hr : RcRow w D dn ds) (hl : SpRow w A n l) (hn : n ≤ maxLen) :
    Calls Try.prog 26 #[.slice A n cp, .agg #[.string nm, .string sp, .int .i64 ln, .int .i64 wd, .int .i64 th, .int .i64 cu, .int .i64 mo, .slice D dn dc]] w fun e w' => e = .returned (.int .i64 c) ∧ Below w.heap.size w w' := by
  have hBL : Below w.heap.size w (w.alloc (.cells #[.string nm, .string sp, .int .i64 ln, .int .i64 wd, .int .i64 th, .int .i64 cu, .int .i64 mo, .slice D dn dc] 34)) := (Below.refl _ _).alloc (Nat.le_refl _) _
  have hr1 := RcRow.below hr hBL
  have hl1 := SpRow.below hl hBL
  by_cases hs0 : spsCode l = 0
  · rw [chk_board hs0] at hc
    by_cases hz : c = 0
    · subst hz
      obtain ⟨-, h2⟩ := bdOf_zero hc
      obtain ⟨j, hj, e⟩ := find_lt h2
      have S := Lib.hid (speciesOf_ok (cp := cp) (dc := dc) (s := l[j]) hs0 hc e (by have := hl.1; omega) (List.getElem?_eq_getElem hj) hn1 hn2 hdn _ hr1 hl1 hn)
      unfold spV at S
      clear hs0 hc hr hl hr1 hl1 hBL h2 e
      go_enter Try.func26, Try.ntmps26
      go_wp2_with (go_at_call 76; (refine Calls.mono S.out ?_); rintro e w1 ⟨rfl, hb1⟩)
      go_ret
      exact ⟨rfl, (((Below.refl _ _).alloc (Nat.le_refl _) _).trans (hb1.mono (by simp))).alloc (by have := hb1.size; (try simp at this); omega) _⟩
    · have S := Lib.hid (speciesOf_board (cp := cp) (dc := dc) hs0 hc hz hn1 hn2 hdn _ hr1 hl1 hn)
      clear hs0 hc hr hl hr1 hl1 hBL
      go_enter Try.func26, Try.ntmps26
      go_wp2_with (go_at_call 76; (refine Calls.mono S.out ?_); rintro e w1 ⟨rfl, hb1⟩)
      go_ret
      exact ⟨rfl, (((Below.refl _ _).alloc (Nat.le_refl _) _).trans (hb1.mono (by simp))).alloc (by have := hb1.size; (try simp at this); omega) _⟩
  · rw [chk_list hs0] at hc
    have hz : c ≠ 0 := by rw [← hc]; exact hs0
    have S := Lib.hid (speciesOf_list (nm := nm) (sp := sp) (ln := ln) (wd := wd) (th := th) (cu := cu) (mo := mo) (D := D) (dn := dn) (dc := dc) (_ds := ds) (cp := cp) hc hz _ hl1 hn)
    clear hs0 hc hr hl hr1 hl1 hBL
    go_enter Try.func26, Try.ntmps26
    go_wp2_with (go_at_call 76; (refine Calls.mono S.out ?_); rintro e w1 ⟨rfl, hb1⟩)
    go_ret
    exact ⟨rfl, (((Below.refl _ _).alloc (Nat.le_refl _) _).trans (hb1.mono (by simp))).alloc (by have := hb1.size; (try simp at this); omega) _⟩
set_option maxHeartbeats 4000000 in
theorem rcheckBoard_any {nm sp : ByteArray} {ln wd th cu mo : Int} {D : Option Addr} {dn dc : Nat} {ds : List Rc} {A : Option Addr} {n cp : Nat} {l : List Sp} {c : Int} (hc : chkBoard l ⟨nm, sp, ln, wd, th, cu, mo, ds⟩ = c) (hn1 : nm.size ≤ maxLen) (hn2 : sp.size ≤ maxLen) (hdn : dn ≤ maxLen) (w : World) (hr : RcRow w D dn ds) (hl : SpRow w A n l) (hn : n ≤ maxLen) (hcp : n ≤ cp) :
    Calls Try.prog 27 #[.slice A n cp, .agg #[.string nm, .string sp, .int .i64 ln, .int .i64 wd, .int .i64 th, .int .i64 cu, .int .i64 mo, .slice D dn dc]] w fun e w' => e = .returned (.int .i64 c) ∧ Below w.heap.size w w' := by
  have hBL : Below w.heap.size w (w.alloc (.cells #[.string nm, .string sp, .int .i64 ln, .int .i64 wd, .int .i64 th, .int .i64 cu, .int .i64 mo, .slice D dn dc] 34)) := (Below.refl _ _).alloc (Nat.le_refl _) _
  have hr1 := RcRow.below hr hBL
  have hl1 := SpRow.below hl hBL
  have S := fun wx hb => Lib.hid (rcheckSpecies_any (cp := cp) rfl wx (SpRow.below hl1 hb) hn hcp)
  have B := fun wx hb => Lib.hid (rboardErr_any (dc := dc) (ds := ds) (nm := nm) (sp := sp) (ln := ln) (wd := wd) (th := th) (cu := cu) (mo := mo) rfl hn1 hn2 hdn wx (RcRow.below hr1 hb))
  have F := fun wx hb => Lib.hid (rfind_any (cp := cp) (nm := sp) rfl wx (SpRow.below hl1 hb) hn)
  have hge := find_ge l 0 sp
  have HC := Lib.hid hc
  have hN : bdOf l ⟨nm, sp, ln, wd, th, cu, mo, ds⟩ = bif decide (bdCode ⟨nm, sp, ln, wd, th, cu, mo, ds⟩ = 0) then (bif decide (findFrom 0 sp l = -1) then 6 else 0) else bdCode ⟨nm, sp, ln, wd, th, cu, mo, ds⟩ := rfl
  obtain ⟨x, hx⟩ : ∃ x, spsCode l = x := ⟨_, rfl⟩
  obtain ⟨y, hy⟩ : ∃ y, bdCode ⟨nm, sp, ln, wd, th, cu, mo, ds⟩ = y := ⟨_, rfl⟩
  obtain ⟨r, hrr⟩ : ∃ r, findFrom 0 sp l = r := ⟨_, rfl⟩
  have HX := Lib.hid hx
  rw [hy, hrr] at hN
  rw [hrr] at hge
  have HN := Lib.hid hN
  simp only [hx] at S
  simp only [hy] at B
  simp only [hrr] at F
  clear hc hr hl hr1 hl1 hBL hN hx hy hrr
  by_cases hx0 : x = 0
  · subst hx0
    have HC2 : Hid (bdOf l ⟨nm, sp, ln, wd, th, cu, mo, ds⟩ = c) := Lib.hid ((chk_board HX.out).symm.trans HC.out)
    by_cases hy0 : y = 0
    · subst hy0
      by_cases h1 : r = -1
      · have HV : Hid (6 = c) := Lib.hid (by rw [← HC2.out, HN.out, decide_eq_true h1]; rfl)
        have hlin : r < 0 := by omega
        have hneg : decide (r < 0) = true := decide_eq_true hlin
        clear h1 hge
        go_enter Try.func27, Try.ntmps27
        go_wp2_with (first | (go_at_call 21; (refine Calls.mono (S _ (Below.refl _ _)).out ?_); rintro e w1 ⟨rfl, hb1⟩; have hs1 : w.heap.size < w1.heap.size := (by have := hb1.size; (try simp at this); omega); obtain ⟨hc1, hf1⟩ := bcell hb1) | (go_at_call 45; (refine Calls.mono (B _ hb1).out ?_); rintro e w2 ⟨rfl, hb2⟩; have hb12 := hb1.trans (hb2.mono hb1.size); have hs2 : w.heap.size < w2.heap.size := (by have := hb2.size; omega); obtain ⟨hc2, hf2⟩ := bcell hb2) | (go_at_call 23; (refine Calls.mono (F _ hb12).out ?_); rintro e w3 ⟨rfl, rfl⟩))
        go_ret
        exact ⟨ret_int HV.out, (((Below.refl _ _).alloc (Nat.le_refl _) _).trans (hb1.mono (by simp))).trans (hb2.mono (by omega))⟩
      · have HV : Hid (0 = c) := Lib.hid (by rw [← HC2.out, HN.out, decide_eq_false h1]; rfl)
        have hlin : 0 ≤ r := by omega
        have hneg : decide (r < 0) = false := decide_eq_false (by omega)
        clear h1 hge
        go_enter Try.func27, Try.ntmps27
        go_wp2_with (first | (go_at_call 21; (refine Calls.mono (S _ (Below.refl _ _)).out ?_); rintro e w1 ⟨rfl, hb1⟩; have hs1 : w.heap.size < w1.heap.size := (by have := hb1.size; (try simp at this); omega); obtain ⟨hc1, hf1⟩ := bcell hb1) | (go_at_call 45; (refine Calls.mono (B _ hb1).out ?_); rintro e w2 ⟨rfl, hb2⟩; have hb12 := hb1.trans (hb2.mono hb1.size); have hs2 : w.heap.size < w2.heap.size := (by have := hb2.size; omega); obtain ⟨hc2, hf2⟩ := bcell hb2) | (go_at_call 23; (refine Calls.mono (F _ hb12).out ?_); rintro e w3 ⟨rfl, rfl⟩))
        go_ret
        exact ⟨ret_int HV.out, (((Below.refl _ _).alloc (Nat.le_refl _) _).trans (hb1.mono (by simp))).trans (hb2.mono (by omega))⟩
    · have HV : Hid (y = c) := Lib.hid (by rw [← HC2.out, HN.out, decide_eq_false hy0]; rfl)
      have hyb : (y == 0) = false := beq_eq_false_iff_ne.2 hy0
      go_enter Try.func27, Try.ntmps27
      go_wp2_with (first | (go_at_call 21; (refine Calls.mono (S _ (Below.refl _ _)).out ?_); rintro e w1 ⟨rfl, hb1⟩; have hs1 : w.heap.size < w1.heap.size := (by have := hb1.size; (try simp at this); omega); obtain ⟨hc1, hf1⟩ := bcell hb1) | (go_at_call 45; (refine Calls.mono (B _ hb1).out ?_); rintro e w2 ⟨rfl, hb2⟩))
      go_ret
      exact ⟨ret_int HV.out, (((Below.refl _ _).alloc (Nat.le_refl _) _).trans (hb1.mono (by simp))).trans (hb2.mono (by omega))⟩
  · have HV : Hid (x = c) := Lib.hid (by rw [← HC.out, chk_list (by rw [HX.out]; exact hx0), HX.out])
    have hxb : (x == 0) = false := beq_eq_false_iff_ne.2 hx0
    go_enter Try.func27, Try.ntmps27
    go_wp2_with (go_at_call 21; (refine Calls.mono (S _ (Below.refl _ _)).out ?_); rintro e w1 ⟨rfl, hb1⟩)
    go_ret
    exact ⟨ret_int HV.out, ((Below.refl _ _).alloc (Nat.le_refl _) _).trans (hb1.mono (by simp))⟩
/-- The law's own bound on a board. -/
def plainB (nm sp : ByteArray) (dn : Nat) : Bool := decide (nm.size ≤ 30) && (decide (sp.size ≤ 30) && (decide (dn ≤ 8) || (decide (60 < dn) && decide (dn ≤ 70))))
set_option maxHeartbeats 1000000 in
theorem plain_any {nm sp : ByteArray} {ln wd th cu mo : Int} {D : Option Addr} {dn dc : Nat} {v : Bool} (hv : plainB nm sp dn = v) (hn1 : nm.size ≤ maxLen) (hn2 : sp.size ≤ maxLen) (hdn : dn ≤ maxLen) (w : World) :
    Calls Try.prog 24 #[.agg #[.string nm, .string sp, .int .i64 ln, .int .i64 wd, .int .i64 th, .int .i64 cu, .int .i64 mo, .slice D dn dc]] w fun e w' => e = .returned (.bool v) ∧ Below w.heap.size w w' := by
  have HV := Lib.hid hv
  have a1 : nm.size ≤ 9223372036854775807 := hn1
  have a2 : sp.size ≤ 9223372036854775807 := hn2
  have a3 : dn ≤ 9223372036854775807 := hdn
  clear hv hn1 hn2 hdn
  go_enter Try.func24, Try.ntmps24
  go_wp2
  all_goals
    go_ret
    refine ⟨ret_bool ?_, (Below.refl _ _).alloc (Nat.le_refl _) _⟩
    rw [← HV.out]
    unfold plainB
    rw [Bool.eq_iff_iff]
    simp
    omega
end Go.Proofs.Ytnjbhidncicfiaa
