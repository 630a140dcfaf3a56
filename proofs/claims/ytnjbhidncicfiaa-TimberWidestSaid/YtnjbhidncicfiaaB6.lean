/- Walks over the timber seat: TimberMasses. -/
import Derived.Test.YtnjbhidncicfiaaB5
import Derived.Deep.RegionHeld3
namespace Go.Proofs.Ytnjbhidncicfiaa
open Go.RowKit Go.Maps

def massV (ln wd th mo de : Int) : Int := wrap64 ((wrap64 (wrap64 ((wrap64 (wrap64 (wrap64 (ln * wd) * th) * de)).tdiv 1000000000000) * wrap64 (1000 + mo))).tdiv 1000)
set_option maxHeartbeats 1000000 in
theorem rmass_any {nm sp : ByteArray} {ln wd th cu mo : Int} {D : Option Addr} {dn dc : Nat} {snm : ByteArray} {al ac ra de st sr v : Int} (hv : massV ln wd th mo de = v) (w : World) :
    Calls Try.prog 59 #[.agg #[.string snm, .int .i64 al, .int .i64 ac, .int .i64 ra, .int .i64 de, .int .i64 st, .int .i64 sr], .agg #[.string nm, .string sp, .int .i64 ln, .int .i64 wd, .int .i64 th, .int .i64 cu, .int .i64 mo, .slice D dn dc]] w fun e w' => e = .returned (.int .i64 v) ∧ Below w.heap.size w w' := by
  have HV := Lib.hid hv
  clear hv
  go_enter Try.func59, Try.ntmps59
  go_wp2
  go_ret
  refine ⟨ret_int ?_, by go_grown⟩
  rw [← HV.out]
  rfl
set_option maxHeartbeats 4000000 in
theorem mass_err {nm sp : ByteArray} {ln wd th cu mo : Int} {D : Option Addr} {dn dc : Nat} {ds : List Rc} {A : Option Addr} {n cp : Nat} {l : List Sp} {c : Int} (hc : chkBoard l ⟨nm, sp, ln, wd, th, cu, mo, ds⟩ = c) (hz : c ≠ 0) (hn1 : nm.size ≤ maxLen) (hn2 : sp.size ≤ maxLen) (hdn : dn ≤ maxLen) (w : World) (hr : RcRow w D dn ds) (hl : SpRow w A n l) (hn : n ≤ maxLen) :
    Calls Try.prog 58 #[.slice A n cp, .agg #[.string nm, .string sp, .int .i64 ln, .int .i64 wd, .int .i64 th, .int .i64 cu, .int .i64 mo, .slice D dn dc]] w fun e w' => e = .returned (.tuple #[.int .i64 0, .int .i64 c]) ∧ Below w.heap.size w w' := by
  have hBL : Below w.heap.size w (w.alloc (.cells #[.string nm, .string sp, .int .i64 ln, .int .i64 wd, .int .i64 th, .int .i64 cu, .int .i64 mo, .slice D dn dc] 34)) := (Below.refl _ _).alloc (Nat.le_refl _) _
  have hr1 := RcRow.below hr hBL
  have hl1 := SpRow.below hl hBL
  have hzb : (c == 0) = false := beq_eq_false_iff_ne.2 hz
  by_cases hs0 : spsCode l = 0
  · rw [chk_board hs0] at hc
    have S := Lib.hid (speciesOf_board (cp := cp) (dc := dc) hs0 hc hz hn1 hn2 hdn _ hr1 hl1 hn)
    clear hs0 hc hr hl hr1 hl1 hBL
    go_enter Try.func58, Try.ntmps58
    go_wp2_with (go_at_call 76; (refine Calls.mono S.out ?_); rintro e w1 ⟨rfl, hb1⟩)
    go_ret2
    exact ⟨rfl, (((Below.refl _ _).alloc (Nat.le_refl _) _).trans (hb1.mono (by simp))).alloc (by have := hb1.size; (try simp at this); omega) _⟩
  · rw [chk_list hs0] at hc
    have S := Lib.hid (speciesOf_list (nm := nm) (sp := sp) (ln := ln) (wd := wd) (th := th) (cu := cu) (mo := mo) (D := D) (dn := dn) (dc := dc) (_ds := ds) (cp := cp) hc hz _ hl1 hn)
    clear hs0 hc hr hl hr1 hl1 hBL
    go_enter Try.func58, Try.ntmps58
    go_wp2_with (go_at_call 76; (refine Calls.mono S.out ?_); rintro e w1 ⟨rfl, hb1⟩)
    go_ret2
    exact ⟨rfl, (((Below.refl _ _).alloc (Nat.le_refl _) _).trans (hb1.mono (by simp))).alloc (by have := hb1.size; (try simp at this); omega) _⟩
set_option maxHeartbeats 4000000 in
theorem mass_ok {nm sp : ByteArray} {ln wd th cu mo : Int} {D : Option Addr} {dn dc : Nat} {ds : List Rc} {A : Option Addr} {n cp j : Nat} {l : List Sp} {s : Sp} {v : Int} (hc : chkBoard l ⟨nm, sp, ln, wd, th, cu, mo, ds⟩ = 0) (hj : findFrom 0 sp l = j) (hjn : j < n) (hsj : l[j]? = some s) (hv : massV ln wd th mo s.de = v) (hn1 : nm.size ≤ maxLen) (hn2 : sp.size ≤ maxLen) (hdn : dn ≤ maxLen) (w : World) (hr : RcRow w D dn ds) (hl : SpRow w A n l) (hn : n ≤ maxLen) :
    Calls Try.prog 58 #[.slice A n cp, .agg #[.string nm, .string sp, .int .i64 ln, .int .i64 wd, .int .i64 th, .int .i64 cu, .int .i64 mo, .slice D dn dc]] w fun e w' => e = .returned (.tuple #[.int .i64 v, .int .i64 0]) ∧ Below w.heap.size w w' := by
  have hBL : Below w.heap.size w (w.alloc (.cells #[.string nm, .string sp, .int .i64 ln, .int .i64 wd, .int .i64 th, .int .i64 cu, .int .i64 mo, .slice D dn dc] 34)) := (Below.refl _ _).alloc (Nat.le_refl _) _
  have hr1 := RcRow.below hr hBL
  have hl1 := SpRow.below hl hBL
  obtain ⟨hs0, hb0, -⟩ := chk_sp hc
  have S := Lib.hid (speciesOf_ok (cp := cp) (dc := dc) hs0 hb0 hj hjn hsj hn1 hn2 hdn _ hr1 hl1 hn)
  obtain ⟨snm, al, ac, ra, de, st, sr⟩ := s
  unfold spV at S
  simp only at S hv
  have HV := Lib.hid hv
  clear hs0 hb0 hc hr hl hr1 hl1 hBL hj hsj hv
  go_enter Try.func58, Try.ntmps58
  go_wp2_with (go_at_call 76; (refine Calls.mono S.out ?_); rintro e w1 ⟨rfl, hb1⟩; have hs1 : w.heap.size < w1.heap.size := (by have := hb1.size; (try simp at this); omega); obtain ⟨hc1, hf1⟩ := bcell hb1)
  go_ret2
  exact ⟨ret_pair (show massV ln wd th mo de = v from HV.out) rfl, (((Below.refl _ _).alloc (Nat.le_refl _) _).trans (hb1.mono (by simp))).alloc (by have := hb1.size; (try simp at this); omega) _⟩
theorem kept15 {W wx w' : World} {b blk off : Nat} {v0 v1 v2 v3 v4 v5 v6 v7 v8 v9 v10 v11 v12 v13 v14 : Value} (hb : Below wx.heap.size wx w') (h : Below W.heap.size W wx ∧ wx.cell? ⟨b, 0, none⟩ = some v0 ∧ wx.cell? ⟨b, 1, none⟩ = some v1 ∧ wx.cell? ⟨b, 2, none⟩ = some v2 ∧ wx.cell? ⟨b, 3, none⟩ = some v3 ∧ wx.cell? ⟨b, 4, none⟩ = some v4 ∧ wx.cell? ⟨b, 5, none⟩ = some v5 ∧ wx.cell? ⟨b, 6, none⟩ = some v6 ∧ wx.cell? ⟨b, 7, none⟩ = some v7 ∧ wx.cell? ⟨blk, off, none⟩ = some v8 ∧ wx.cell? ⟨blk, off + 1, none⟩ = some v9 ∧ wx.cell? ⟨blk, off + 2, none⟩ = some v10 ∧ wx.cell? ⟨blk, off + 3, none⟩ = some v11 ∧ wx.cell? ⟨blk, off + 4, none⟩ = some v12 ∧ wx.cell? ⟨blk, off + 5, none⟩ = some v13 ∧ wx.cell? ⟨blk, off + 6, none⟩ = some v14)
    (h0 : b < W.heap.size) (h1 : blk < W.heap.size) : Below W.heap.size W w' ∧ w'.cell? ⟨b, 0, none⟩ = some v0 ∧ w'.cell? ⟨b, 1, none⟩ = some v1 ∧ w'.cell? ⟨b, 2, none⟩ = some v2 ∧ w'.cell? ⟨b, 3, none⟩ = some v3 ∧ w'.cell? ⟨b, 4, none⟩ = some v4 ∧ w'.cell? ⟨b, 5, none⟩ = some v5 ∧ w'.cell? ⟨b, 6, none⟩ = some v6 ∧ w'.cell? ⟨b, 7, none⟩ = some v7 ∧ w'.cell? ⟨blk, off, none⟩ = some v8 ∧ w'.cell? ⟨blk, off + 1, none⟩ = some v9 ∧ w'.cell? ⟨blk, off + 2, none⟩ = some v10 ∧ w'.cell? ⟨blk, off + 3, none⟩ = some v11 ∧ w'.cell? ⟨blk, off + 4, none⟩ = some v12 ∧ w'.cell? ⟨blk, off + 5, none⟩ = some v13 ∧ w'.cell? ⟨blk, off + 6, none⟩ = some v14 := by
  obtain ⟨a, c0, c1, c2, c3, c4, c5, c6, c7, c8, c9, c10, c11, c12, c13, c14⟩ := h
  have hs := a.size
  have k : ∀ b o, b < W.heap.size → w'.cell? ⟨b, o, none⟩ = wx.cell? ⟨b, o, none⟩ := fun b o hlt => hb.cell (p := ⟨b, o, none⟩) (Nat.lt_of_lt_of_le hlt hs)
  exact ⟨a.trans (hb.mono hs), by rw [k _ _ h0, c0], by rw [k _ _ h0, c1], by rw [k _ _ h0, c2], by rw [k _ _ h0, c3], by rw [k _ _ h0, c4], by rw [k _ _ h0, c5], by rw [k _ _ h0, c6], by rw [k _ _ h0, c7], by rw [k _ _ h1, c8], by rw [k _ _ h1, c9], by rw [k _ _ h1, c10], by rw [k _ _ h1, c11], by rw [k _ _ h1, c12], by rw [k _ _ h1, c13], by rw [k _ _ h1, c14]⟩
theorem same15 {W wx w' : World} {b blk off : Nat} {v0 v1 v2 v3 v4 v5 v6 v7 v8 v9 v10 v11 v12 v13 v14 : Value} (hb : wx = w') (h : Below W.heap.size W wx ∧ wx.cell? ⟨b, 0, none⟩ = some v0 ∧ wx.cell? ⟨b, 1, none⟩ = some v1 ∧ wx.cell? ⟨b, 2, none⟩ = some v2 ∧ wx.cell? ⟨b, 3, none⟩ = some v3 ∧ wx.cell? ⟨b, 4, none⟩ = some v4 ∧ wx.cell? ⟨b, 5, none⟩ = some v5 ∧ wx.cell? ⟨b, 6, none⟩ = some v6 ∧ wx.cell? ⟨b, 7, none⟩ = some v7 ∧ wx.cell? ⟨blk, off, none⟩ = some v8 ∧ wx.cell? ⟨blk, off + 1, none⟩ = some v9 ∧ wx.cell? ⟨blk, off + 2, none⟩ = some v10 ∧ wx.cell? ⟨blk, off + 3, none⟩ = some v11 ∧ wx.cell? ⟨blk, off + 4, none⟩ = some v12 ∧ wx.cell? ⟨blk, off + 5, none⟩ = some v13 ∧ wx.cell? ⟨blk, off + 6, none⟩ = some v14) : Below W.heap.size W w' ∧ w'.cell? ⟨b, 0, none⟩ = some v0 ∧ w'.cell? ⟨b, 1, none⟩ = some v1 ∧ w'.cell? ⟨b, 2, none⟩ = some v2 ∧ w'.cell? ⟨b, 3, none⟩ = some v3 ∧ w'.cell? ⟨b, 4, none⟩ = some v4 ∧ w'.cell? ⟨b, 5, none⟩ = some v5 ∧ w'.cell? ⟨b, 6, none⟩ = some v6 ∧ w'.cell? ⟨b, 7, none⟩ = some v7 ∧ w'.cell? ⟨blk, off, none⟩ = some v8 ∧ w'.cell? ⟨blk, off + 1, none⟩ = some v9 ∧ w'.cell? ⟨blk, off + 2, none⟩ = some v10 ∧ w'.cell? ⟨blk, off + 3, none⟩ = some v11 ∧ w'.cell? ⟨blk, off + 4, none⟩ = some v12 ∧ w'.cell? ⟨blk, off + 5, none⟩ = some v13 ∧ w'.cell? ⟨blk, off + 6, none⟩ = some v14 := by subst hb; exact h
set_option maxHeartbeats 4000000 in
set_option maxRecDepth 20000 in
theorem masses_skip {nm sp : ByteArray} {ln wd th cu mo : Int} {D : Option Addr} {dn dc : Nat} {_ds : List Rc} {A : Option Addr} {n cp : Nat} {l : List Sp} (hsk : (shortB l && plainB nm sp dn) = false) (hn1 : nm.size ≤ maxLen) (hn2 : sp.size ≤ maxLen) (hdn : dn ≤ maxLen) (w : World) (hl : SpRow w A n l) (hn : n ≤ maxLen) :
    Calls Try.prog 14 #[.slice A n cp, .agg #[.string nm, .string sp, .int .i64 ln, .int .i64 wd, .int .i64 th, .int .i64 cu, .int .i64 mo, .slice D dn dc]] w fun e w' => e = .returned (.bool true) ∧ Below w.heap.size w w' := by
  have hBL : Below w.heap.size w (w.alloc (.cells #[.string nm, .string sp, .int .i64 ln, .int .i64 wd, .int .i64 th, .int .i64 cu, .int .i64 mo, .slice D dn dc] 34)) := (Below.refl _ _).alloc (Nat.le_refl _) _
  have hl1 := SpRow.below hl hBL
  cases hsh : shortB l
  · have SH := fun wx hb => Lib.hid (short_any (cp := cp) hsh wx (SpRow.below hl1 hb) hn)
    clear hsk hl hl1 hBL hsh
    go_enter Try.func14, Try.ntmps14
    go_wp2_with (first | (go_at_call 18; refine (awake_any _).mono ?_; rintro e w1 ⟨rfl, hb1⟩) | (go_at_call 19; (refine Calls.mono (SH _ hb1).out ?_); rintro e w2 ⟨rfl, rfl⟩))
    go_ret
    exact ⟨rfl, ((Below.refl _ _).alloc (Nat.le_refl _) _).trans (hb1.mono (by simp))⟩
  · have SH := fun wx hb => Lib.hid (short_any (cp := cp) hsh wx (SpRow.below hl1 hb) hn)
    have hpl : plainB nm sp dn = false := by rw [hsh] at hsk; exact hsk
    have PL := fun wx => Lib.hid (plain_any (nm := nm) (sp := sp) (ln := ln) (wd := wd) (th := th) (cu := cu) (mo := mo) (D := D) (dn := dn) (dc := dc) (w := wx) hpl hn1 hn2 hdn)
    clear hsk hl hl1 hBL hsh hpl
    go_enter Try.func14, Try.ntmps14
    go_wp2_with (first | (go_at_call 18; refine (awake_any _).mono ?_; rintro e w1 ⟨rfl, hb1⟩; have hs1 : w.heap.size < w1.heap.size := (by have := hb1.size; (try simp at this); omega); obtain ⟨hc1, hf1⟩ := bcell hb1) | (go_at_call 19; (refine Calls.mono (SH _ hb1).out ?_); rintro e w2 ⟨rfl, rfl⟩) | (go_at_call 24; (refine Calls.mono (PL _).out ?_); rintro e w3 ⟨rfl, hb3⟩))
    go_ret
    exact ⟨rfl, (((Below.refl _ _).alloc (Nat.le_refl _) _).trans (hb1.mono (by simp))).trans (hb3.mono (by omega))⟩
set_option maxHeartbeats 4000000 in
set_option maxRecDepth 20000 in
theorem masses_err {nm sp : ByteArray} {ln wd th cu mo : Int} {D : Option Addr} {dn dc : Nat} {ds : List Rc} {A : Option Addr} {n cp : Nat} {l : List Sp} {c : Int} (hgo : (shortB l && plainB nm sp dn) = true) (hc : chkBoard l ⟨nm, sp, ln, wd, th, cu, mo, ds⟩ = c) (hz : c ≠ 0) (hn1 : nm.size ≤ maxLen) (hn2 : sp.size ≤ maxLen) (hdn : dn ≤ maxLen) (w : World) (hr : RcRow w D dn ds) (hl : SpRow w A n l) (hn : n ≤ maxLen) (hcp : n ≤ cp) :
    Calls Try.prog 14 #[.slice A n cp, .agg #[.string nm, .string sp, .int .i64 ln, .int .i64 wd, .int .i64 th, .int .i64 cu, .int .i64 mo, .slice D dn dc]] w fun e w' => e = .returned (.bool true) ∧ Below w.heap.size w w' := by
  have hBL : Below w.heap.size w (w.alloc (.cells #[.string nm, .string sp, .int .i64 ln, .int .i64 wd, .int .i64 th, .int .i64 cu, .int .i64 mo, .slice D dn dc] 34)) := (Below.refl _ _).alloc (Nat.le_refl _) _
  have hl1 := SpRow.below hl hBL
  have hr1 := RcRow.below hr hBL
  rw [Bool.and_eq_true] at hgo
  have SH := fun wx hb => Lib.hid (short_any (cp := cp) hgo.1 wx (SpRow.below hl1 hb) hn)
  have PL := fun wx => Lib.hid (plain_any (nm := nm) (sp := sp) (ln := ln) (wd := wd) (th := th) (cu := cu) (mo := mo) (D := D) (dn := dn) (dc := dc) (w := wx) hgo.2 hn1 hn2 hdn)
  have MA := fun wx hb => Lib.hid (mass_err (cp := cp) (dc := dc) hc hz hn1 hn2 hdn wx (RcRow.below hr1 hb) (SpRow.below hl1 hb) hn)
  have RC := fun wx hb => Lib.hid (rcheckBoard_any (cp := cp) (dc := dc) hc hn1 hn2 hdn wx (RcRow.below hr1 hb) (SpRow.below hl1 hb) hn hcp)
  have hzb : (c == 0) = false := beq_eq_false_iff_ne.2 hz
  clear hgo hl hl1 hr hr1 hBL hc
  go_enter Try.func14, Try.ntmps14
  go_wp2_with (first | (go_at_call 18; refine (awake_any _).mono ?_; rintro e w1 ⟨rfl, hb1⟩; have hs1 : w.heap.size < w1.heap.size := (by have := hb1.size; (try simp at this); omega); obtain ⟨hc1, hf1⟩ := bcell hb1) | (go_at_call 19; (refine Calls.mono (SH _ hb1).out ?_); rintro e w2 ⟨rfl, rfl⟩) | (go_at_call 24; (refine Calls.mono (PL _).out ?_); rintro e w3 ⟨rfl, hb3⟩; have hb13 := hb1.trans (hb3.mono hb1.size); have hs3 : w.heap.size < w3.heap.size := (by have := hb3.size; omega); obtain ⟨hc3, hf3⟩ := bcell hb3) | (go_at_call 58; (refine Calls.mono (MA _ hb13).out ?_); rintro e w4 ⟨rfl, hb4⟩; have hb14 := hb13.trans (hb4.mono hb13.size); have hs4 : w.heap.size < w4.heap.size := (by have := hb4.size; omega); obtain ⟨hc4, hf4⟩ := bcell hb4) | (go_at_call 27; (refine Calls.mono (RC _ hb14).out ?_); rintro e w5 ⟨rfl, hb5⟩; have hb15 := hb14.trans (hb5.mono hb14.size); have hs5 : w.heap.size < w5.heap.size := (by have := hb5.size; omega); obtain ⟨hc5, hf5⟩ := bcell hb5))
  go_ret
  exact ⟨rfl, ((Below.refl _ _).alloc (Nat.le_refl _) _).trans (hb15.mono (by simp))⟩
set_option maxHeartbeats 4000000 in
set_option maxRecDepth 20000 in
theorem masses_ok {nm sp : ByteArray} {ln wd th cu mo : Int} {D : Option Addr} {dn dc : Nat} {ds : List Rc} {A : Option Addr} {n cp : Nat} {l : List Sp} (hgo : (shortB l && plainB nm sp dn) = true) (hc : chkBoard l ⟨nm, sp, ln, wd, th, cu, mo, ds⟩ = 0) (hn1 : nm.size ≤ maxLen) (hn2 : sp.size ≤ maxLen) (hdn : dn ≤ maxLen) (w : World) (hr : RcRow w D dn ds) (hl : SpRow w A n l) (hn : n ≤ maxLen) (hcp : n ≤ cp) :
    Calls Try.prog 14 #[.slice A n cp, .agg #[.string nm, .string sp, .int .i64 ln, .int .i64 wd, .int .i64 th, .int .i64 cu, .int .i64 mo, .slice D dn dc]] w fun e w' => e = .returned (.bool true) ∧ Below w.heap.size w w' := by
  have hll := hl.1
  obtain ⟨-, -, j, s, hjl, hj, hsj⟩ := chk_sp hc
  simp only at hj
  have hjn : j < n := by omega
  obtain ⟨v, hv⟩ : ∃ v, massV ln wd th mo s.de = v := ⟨_, rfl⟩
  have hBL : Below w.heap.size w (w.alloc (.cells #[.string nm, .string sp, .int .i64 ln, .int .i64 wd, .int .i64 th, .int .i64 cu, .int .i64 mo, .slice D dn dc] 34)) := (Below.refl _ _).alloc (Nat.le_refl _) _
  have hl1 := SpRow.below hl hBL
  have hr1 := RcRow.below hr hBL
  rw [Bool.and_eq_true] at hgo
  have SH := fun wx hb => Lib.hid (short_any (cp := cp) hgo.1 wx (SpRow.below hl1 hb) hn)
  have PL := fun wx => Lib.hid (plain_any (nm := nm) (sp := sp) (ln := ln) (wd := wd) (th := th) (cu := cu) (mo := mo) (D := D) (dn := dn) (dc := dc) (w := wx) hgo.2 hn1 hn2 hdn)
  have MA := fun wx hb => Lib.hid (mass_ok (cp := cp) (dc := dc) hc hj hjn hsj hv hn1 hn2 hdn wx (RcRow.below hr1 hb) (SpRow.below hl1 hb) hn)
  have RC := fun wx hb => Lib.hid (rcheckBoard_any (cp := cp) (dc := dc) hc hn1 hn2 hdn wx (RcRow.below hr1 hb) (SpRow.below hl1 hb) hn hcp)
  have FI := fun wx hb => Lib.hid (rfind_any (cp := cp) hj wx (SpRow.below hl1 hb) hn)
  have hn' : n ≤ 9223372036854775807 := hn
  have hjn' : (j : Int) < (n : Int) := by omega
  obtain ⟨bk, of, rfl, hbk, hx⟩ := hl.2 (by omega)
  have hsp := hx j hjl
  rw [List.getElem?_eq_getElem hjl] at hsj
  injection hsj with hsj
  rw [hsj] at hsp
  obtain ⟨snm, al, ac, ra, de, st, sr⟩ := s
  obtain ⟨g0, g1, g2, g3, g4, g5, g6, -⟩ := hsp
  simp only at g0 g1 g2 g3 g4 g5 g6 hv
  have RM := fun wx => Lib.hid (rmass_any (nm := nm) (sp := sp) (ln := ln) (wd := wd) (th := th) (cu := cu) (mo := mo) (D := D) (dn := dn) (dc := dc) (snm := snm) (al := al) (ac := ac) (ra := ra) (st := st) (sr := sr) (w := wx) hv)
  have HBL := Lib.hid hBL
  clear hgo hl hl1 hr hr1 hBL hc hj hx hsj hv
  go_enter Try.func14, Try.ntmps14
  go_wp2_with (first | (go_at_call 18; refine (awake_any _).mono ?_; rintro e w1 ⟨rfl, hb1⟩; have hs1 : w.heap.size < w1.heap.size := (by have := hb1.size; (try simp at this); omega); obtain ⟨hc1, hf1⟩ := bcell hb1) | (go_at_call 19; (refine Calls.mono (SH _ hb1).out ?_); rintro e w2 ⟨rfl, rfl⟩) | (go_at_call 24; (refine Calls.mono (PL _).out ?_); rintro e w3 ⟨rfl, hb3⟩; have hb13 := hb1.trans (hb3.mono hb1.size); have hs3 : w.heap.size < w3.heap.size := (by have := hb3.size; omega); obtain ⟨hc3, hf3⟩ := bcell hb3) | (go_at_call 58; (refine Calls.mono (MA _ hb13).out ?_); rintro e w4 ⟨rfl, hb4⟩; have hb14 := hb13.trans (hb4.mono hb13.size); have hs4 : w.heap.size < w4.heap.size := (by have := hb4.size; omega); obtain ⟨hc4, hf4⟩ := bcell hb4) | (go_at_call 27; (refine Calls.mono (RC _ hb14).out ?_); rintro e W4 ⟨rfl, hb5⟩; have hb15 := hb14.trans (hb5.mono hb14.size); have hs5 : w.heap.size < W4.heap.size := (by have := hb5.size; omega)))
  have HB15 := Lib.hid hb15
  have kb : ∀ o, W4.cell? ⟨w.heap.size, o, none⟩ = _ := fun o => hb15.cell (p := ⟨w.heap.size, o, none⟩) (by simp)
  have z0 := kb 0; have z1 := kb 1; have z2 := kb 2; have z3 := kb 3; have z4 := kb 4; have z5 := kb 5; have z6 := kb 6; have z7 := kb 7
  simp [go_sem] at z0 z1 z2 z3 z4 z5 z6 z7
  have hBA := HBL.out.trans (hb15.mono (by simp))
  have kk : ∀ o, W4.cell? ⟨bk, o, none⟩ = w.cell? ⟨bk, o, none⟩ := fun o => hBA.cell (p := ⟨bk, o, none⟩) hbk
  have y0 := (kk _).trans g0; have y1 := (kk _).trans g1; have y2 := (kk _).trans g2; have y3 := (kk _).trans g3; have y4 := (kk _).trans g4; have y5 := (kk _).trans g5; have y6 := (kk _).trans g6
  have QB := Lib.hid hs5
  have QK := Lib.hid (show bk < W4.heap.size by omega)
  have HBA := Lib.hid hBA
  clear kb kk hb1 hb3 hb13 hb4 hb14 hb5 hb15 hs1 hs3 hs4 hc1 hc3 hc4 hf1 hf3 hf4 g0 g1 g2 g3 g4 g5 g6 hBA MA RC SH PL
  go_region_held3 (fun wx => Below W4.heap.size W4 wx ∧ wx.cell? ⟨w.heap.size, 0, none⟩ = some (.string nm) ∧ wx.cell? ⟨w.heap.size, 1, none⟩ = some (.string sp) ∧ wx.cell? ⟨w.heap.size, 2, none⟩ = some (.int .i64 ln) ∧ wx.cell? ⟨w.heap.size, 3, none⟩ = some (.int .i64 wd) ∧ wx.cell? ⟨w.heap.size, 4, none⟩ = some (.int .i64 th) ∧ wx.cell? ⟨w.heap.size, 5, none⟩ = some (.int .i64 cu) ∧ wx.cell? ⟨w.heap.size, 6, none⟩ = some (.int .i64 mo) ∧ wx.cell? ⟨w.heap.size, 7, none⟩ = some (.slice D dn dc) ∧ wx.cell? ⟨bk, of + j * 7, none⟩ = some (.string snm) ∧ wx.cell? ⟨bk, of + j * 7 + 1, none⟩ = some (.int .i64 al) ∧ wx.cell? ⟨bk, of + j * 7 + 2, none⟩ = some (.int .i64 ac) ∧ wx.cell? ⟨bk, of + j * 7 + 3, none⟩ = some (.int .i64 ra) ∧ wx.cell? ⟨bk, of + j * 7 + 4, none⟩ = some (.int .i64 de) ∧ wx.cell? ⟨bk, of + j * 7 + 5, none⟩ = some (.int .i64 st) ∧ wx.cell? ⟨bk, of + j * 7 + 6, none⟩ = some (.int .i64 sr)) ((first | (refine ⟨(Below.refl _ _).drew, ?_, ?_, ?_, ?_, ?_, ?_, ?_, ?_, ?_, ?_, ?_, ?_, ?_, ?_, ?_⟩ <;> assumption) | (refine ⟨?_, ?_, ?_, ?_, ?_, ?_, ?_, ?_, ?_, ?_, ?_, ?_, ?_, ?_, ?_, ?_⟩ <;> assumption) | (apply kept15 <;> first | assumption | exact QB.out | exact QK.out))) (first | (go_at_call 23; refine Calls.mono (FI _ (HB15.out.trans (Below.mono (‹Below W4.heap.size W4 _ ∧ _›).1 HB15.out.size))).out ?_; rintro e w' ⟨rfl, rfl⟩) | (go_at_call 59; refine Calls.mono (RM _).out ?_; rintro e w' ⟨rfl, hbx⟩))
  obtain ⟨hWx, -⟩ := ‹Below W4.heap.size W4 w' ∧ _›
  go_wp2
  go_ret
  exact ⟨rfl, HBA.out.trans (hWx.mono HBA.out.size)⟩
theorem masses_law (A : Option Addr) (n cp : Nat) (l : List Sp) (bd : Bd) (D : Option Addr) (dn dc : Nat) (hn : n ≤ maxLen ∧ n ≤ cp) (hb : bd.nm.size ≤ maxLen ∧ bd.sp.size ≤ maxLen ∧ dn ≤ maxLen ∧ dn ≤ dc) (w : World) (hl : SpRow w A n l) (hr : RcRow w D dn bd.df) :
    Calls Try.prog 14 #[.slice A n cp, .agg #[.string bd.nm, .string bd.sp, .int .i64 bd.ln, .int .i64 bd.wd, .int .i64 bd.th, .int .i64 bd.cu, .int .i64 bd.mo, .slice D dn dc]] w fun e w' => e = .returned (.bool true) ∧ Below w.heap.size w w' := by
  obtain ⟨nm, sp, ln, wd, th, cu, mo, ds⟩ := bd
  simp only at hb hr ⊢
  cases hgo : shortB l && plainB nm sp dn
  · exact masses_skip (_ds := ds) hgo hb.1 hb.2.1 hb.2.2.1 w hl hn.1
  · by_cases hc : chkBoard l ⟨nm, sp, ln, wd, th, cu, mo, ds⟩ = 0
    · exact masses_ok hgo hc hb.1 hb.2.1 hb.2.2.1 w hr hl hn.1 hn.2
    · exact masses_err hgo rfl hc hb.1 hb.2.1 hb.2.2.1 w hr hl hn.1 hn.2
end Go.Proofs.Ytnjbhidncicfiaa
