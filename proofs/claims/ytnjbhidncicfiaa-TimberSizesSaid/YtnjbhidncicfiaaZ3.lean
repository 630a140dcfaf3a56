/- Walks over the timber seat: TimberSizes. -/
import Derived.Test.YtnjbhidncicfiaaZ2
import Derived.Deep.RegionHeld3
import Derived.KernelRfl
import Derived.Test.YtnjbhidncicfiaaW5
namespace Go.Proofs.Ytnjbhidncicfiaa
open Go.RowKit Go.Maps

theorem kept7 {W wx w' : World} {b y m o1 o2 : Nat} {v0 v1 v2 v3 v4 v5 v6 : Value} (hb : Below wx.heap.size wx w') (h : Below W.heap.size W wx ∧ wx.cell? ⟨b, 2, none⟩ = some v0 ∧ wx.cell? ⟨b, 3, none⟩ = some v1 ∧ wx.cell? ⟨b, 4, none⟩ = some v2 ∧ wx.cell? ⟨y, o1, none⟩ = some v3 ∧ wx.cell? ⟨y, o2, none⟩ = some v4 ∧ wx.cell? ⟨m, 0, none⟩ = some v5 ∧ wx.cell? ⟨m, 1, none⟩ = some v6)
    (h0 : b < W.heap.size) (h1 : y < W.heap.size) (h2 : m < W.heap.size) : Below W.heap.size W w' ∧ w'.cell? ⟨b, 2, none⟩ = some v0 ∧ w'.cell? ⟨b, 3, none⟩ = some v1 ∧ w'.cell? ⟨b, 4, none⟩ = some v2 ∧ w'.cell? ⟨y, o1, none⟩ = some v3 ∧ w'.cell? ⟨y, o2, none⟩ = some v4 ∧ w'.cell? ⟨m, 0, none⟩ = some v5 ∧ w'.cell? ⟨m, 1, none⟩ = some v6 := by
  obtain ⟨a, c0, c1, c2, c3, c4, c5, c6⟩ := h
  have hs := a.size
  have k : ∀ b o, b < W.heap.size → w'.cell? ⟨b, o, none⟩ = wx.cell? ⟨b, o, none⟩ := fun b o hlt => hb.cell (p := ⟨b, o, none⟩) (Nat.lt_of_lt_of_le hlt hs)
  exact ⟨a.trans (hb.mono hs), by rw [k _ _ h0, c0], by rw [k _ _ h0, c1], by rw [k _ _ h0, c2], by rw [k _ _ h1, c3], by rw [k _ _ h1, c4], by rw [k _ _ h2, c5], by rw [k _ _ h2, c6]⟩
theorem eq68 (w : World) : (Op.equalIn 10000 68 (.agg #[.int .i64 0, .int .i64 0, .int .i64 0, .int .i64 0, .int .i64 0, .int .i64 0]) (.agg #[.int .i64 0, .int .i64 0, .int .i64 0, .int .i64 0, .int .i64 0, .int .i64 0])).run Try.prog w = .ok true w := by kernel_rfl
set_option maxHeartbeats 4000000 in
set_option maxRecDepth 20000 in
theorem lsizes_skip {nm sp : ByteArray} {ln wd th cu mo : Int} {D : Option Addr} {dn dc : Nat} {ds : List Rc} {A : Option Addr} {n cp : Nat} {l : List Sp} {q : Int} (hsk : (shortB l && plainB nm sp dn) = false) (hn1 : nm.size ≤ maxLen) (hn2 : sp.size ≤ maxLen) (hdn : dn ≤ maxLen) (w : World) (hl : SpRow w A n l) (hn : n ≤ maxLen) :
    Calls Try.prog 9 #[.slice A n cp, .agg #[.string nm, .string sp, .int .i64 ln, .int .i64 wd, .int .i64 th, .int .i64 cu, .int .i64 mo, .slice D dn dc], .int .i64 q] w fun e w' => e = .returned (.bool true) ∧ Below w.heap.size w w' := by
  have hBL : Below w.heap.size w (w.alloc (.cells #[.string nm, .string sp, .int .i64 ln, .int .i64 wd, .int .i64 th, .int .i64 cu, .int .i64 mo, .slice D dn dc] 34)) := (Below.refl _ _).alloc (Nat.le_refl _) _
  have hl1 := SpRow.below hl hBL
  cases hsh : shortB l
  · have SH := fun wx hb => Lib.hid (short_any (cp := cp) hsh wx (SpRow.below hl1 hb) hn)
    clear hsk hl hl1 hBL hsh
    go_enter Try.func9, Try.ntmps9
    go_wp2_with (first | (go_at_call 18; refine (awake_any _).mono ?_; rintro e w1 ⟨rfl, hb1⟩) | (go_at_call 19; (refine Calls.mono (SH _ hb1).out ?_); rintro e w2 ⟨rfl, rfl⟩))
    go_ret
    exact ⟨rfl, ((Below.refl _ _).alloc (Nat.le_refl _) _).trans (hb1.mono (by simp))⟩
  · have SH := fun wx hb => Lib.hid (short_any (cp := cp) hsh wx (SpRow.below hl1 hb) hn)
    have hpl : plainB nm sp dn = false := by rw [hsh] at hsk; exact hsk
    have PL := fun wx => Lib.hid (plain_any (nm := nm) (sp := sp) (ln := ln) (wd := wd) (th := th) (cu := cu) (mo := mo) (D := D) (dn := dn) (dc := dc) (w := wx) hpl hn1 hn2 hdn)
    clear hsk hl hl1 hBL hsh hpl
    go_enter Try.func9, Try.ntmps9
    go_wp2_with (first | (go_at_call 18; refine (awake_any _).mono ?_; rintro e w1 ⟨rfl, hb1⟩; have hs1 : w.heap.size < w1.heap.size := (by have := hb1.size; (try simp at this); omega); obtain ⟨hc1, hf1⟩ := bcell hb1) | (go_at_call 19; (refine Calls.mono (SH _ hb1).out ?_); rintro e w2 ⟨rfl, rfl⟩) | (go_at_call 24; (refine Calls.mono (PL _).out ?_); rintro e w3 ⟨rfl, hb3⟩))
    go_ret
    exact ⟨rfl, (((Below.refl _ _).alloc (Nat.le_refl _) _).trans (hb1.mono (by simp))).trans (hb3.mono (by omega))⟩
set_option maxHeartbeats 1000000 in
set_option maxRecDepth 20000 in
theorem lsizes_err {nm sp : ByteArray} {ln wd th cu mo : Int} {D : Option Addr} {dn dc : Nat} {ds : List Rc} {A : Option Addr} {n cp : Nat} {l : List Sp} {c q : Int} (hgo : (shortB l && plainB nm sp dn) = true) (hc : chkBoard l ⟨nm, sp, ln, wd, th, cu, mo, ds⟩ = c) (hz : c ≠ 0) (hn1 : nm.size ≤ maxLen) (hn2 : sp.size ≤ maxLen) (hdn : dn ≤ maxLen) (w : World) (hr : RcRow w D dn ds) (hl : SpRow w A n l) (hn : n ≤ maxLen) (hcp : n ≤ cp) :
    Calls Try.prog 9 #[.slice A n cp, .agg #[.string nm, .string sp, .int .i64 ln, .int .i64 wd, .int .i64 th, .int .i64 cu, .int .i64 mo, .slice D dn dc], .int .i64 q] w fun e w' => e = .returned (.bool true) ∧ Below w.heap.size w w' := by
  have hBL : Below w.heap.size w (w.alloc (.cells #[.string nm, .string sp, .int .i64 ln, .int .i64 wd, .int .i64 th, .int .i64 cu, .int .i64 mo, .slice D dn dc] 34)) := (Below.refl _ _).alloc (Nat.le_refl _) _
  have hl1 := SpRow.below hl hBL
  have hr1 := RcRow.below hr hBL
  rw [Bool.and_eq_true] at hgo
  have SH := fun wx hb => Lib.hid (short_any (cp := cp) hgo.1 wx (SpRow.below hl1 hb) hn)
  have PL := fun wx => Lib.hid (plain_any (nm := nm) (sp := sp) (ln := ln) (wd := wd) (th := th) (cu := cu) (mo := mo) (D := D) (dn := dn) (dc := dc) (w := wx) hgo.2 hn1 hn2 hdn)
  have MA := fun wx hb => Lib.hid (sizes_err (cp := cp) (dc := dc) (q := q) hc hz hn1 hn2 hdn wx (RcRow.below hr1 hb) (SpRow.below hl1 hb) hn)
  have RC := fun wx hb => Lib.hid (rcheckBoard_any (cp := cp) (dc := dc) hc hn1 hn2 hdn wx (RcRow.below hr1 hb) (SpRow.below hl1 hb) hn hcp)
  have hzb : (c == 0) = false := beq_eq_false_iff_ne.2 hz
  have HBL := Lib.hid hBL
  have heq := eq68
  clear hgo hl hl1 hr hr1 hBL hc
  go_enter Try.func9, Try.ntmps9
  go_wp2_with (first | (go_at_call 18; refine (awake_any _).mono ?_; rintro e w1 ⟨rfl, hb1⟩; have hs1 : w.heap.size < w1.heap.size := (by have := hb1.size; (try simp at this); omega); obtain ⟨hc1, hf1⟩ := bcell hb1) | (go_at_call 19; (refine Calls.mono (SH _ hb1).out ?_); rintro e w2 ⟨rfl, rfl⟩) | (go_at_call 24; (refine Calls.mono (PL _).out ?_); rintro e w3 ⟨rfl, hb3⟩; have hb13 := hb1.trans (hb3.mono hb1.size); have hs3 : w.heap.size < w3.heap.size := (by have := hb3.size; omega); obtain ⟨hc3, hf3⟩ := bcell hb3) | (go_at_call 40; (refine Calls.mono (MA _ hb13).out ?_); rintro e w4 ⟨rfl, hb4⟩; have hb14 := hb13.trans (hb4.mono hb13.size); have hs4 : w.heap.size < w4.heap.size := (by have := hb4.size; omega); obtain ⟨hc4, hf4⟩ := bcell hb4; have hb14a := hb14.alloc (Nat.le_trans (by simp) hb14.size) (.cells #[.int .i64 0, .int .i64 0, .int .i64 0, .int .i64 0, .int .i64 0, .int .i64 0] 68)) | (go_at_call 27; (refine Calls.mono (RC _ hb14a).out ?_); rintro e w5 ⟨rfl, hb5⟩; have hb15 := hb14a.trans (hb5.mono hb14a.size); have hs5 : w.heap.size < w5.heap.size := (by have := hb15.size; (try simp at this); omega); have hs45 : w4.heap.size < w5.heap.size := (by have := hb5.size; (try simp at this); omega); have kx : ∀ o, w5.cell? ⟨w4.heap.size, o, none⟩ = _ := (fun o => hb5.cell (p := ⟨w4.heap.size, o, none⟩) (by simp)); have x0 := kx 0; have x1 := kx 1; have x2 := kx 2; have x3 := kx 3; have x4 := kx 4; have x5 := kx 5; simp [go_sem] at x0 x1 x2 x3 x4 x5))
  go_ret
  exact ⟨rfl, HBL.out.trans (hb15.mono (by simp))⟩
set_option maxHeartbeats 1000000 in
set_option maxRecDepth 20000 in
theorem lsizes_range {nm sp : ByteArray} {ln wd th cu mo : Int} {D : Option Addr} {dn dc : Nat} {ds : List Rc} {A : Option Addr} {n cp : Nat} {l : List Sp} {q : Int} (hgo : (shortB l && plainB nm sp dn) = true) (hc : chkBoard l ⟨nm, sp, ln, wd, th, cu, mo, ds⟩ = 0) (hq : inB 0 400 q = false) (hn1 : nm.size ≤ maxLen) (hn2 : sp.size ≤ maxLen) (hdn : dn ≤ maxLen) (w : World) (hr : RcRow w D dn ds) (hl : SpRow w A n l) (hn : n ≤ maxLen) (hcp : n ≤ cp) :
    Calls Try.prog 9 #[.slice A n cp, .agg #[.string nm, .string sp, .int .i64 ln, .int .i64 wd, .int .i64 th, .int .i64 cu, .int .i64 mo, .slice D dn dc], .int .i64 q] w fun e w' => e = .returned (.bool true) ∧ Below w.heap.size w w' := by
  have hBL : Below w.heap.size w (w.alloc (.cells #[.string nm, .string sp, .int .i64 ln, .int .i64 wd, .int .i64 th, .int .i64 cu, .int .i64 mo, .slice D dn dc] 34)) := (Below.refl _ _).alloc (Nat.le_refl _) _
  have hl1 := SpRow.below hl hBL
  have hr1 := RcRow.below hr hBL
  rw [Bool.and_eq_true] at hgo
  have SH := fun wx hb => Lib.hid (short_any (cp := cp) hgo.1 wx (SpRow.below hl1 hb) hn)
  have PL := fun wx => Lib.hid (plain_any (nm := nm) (sp := sp) (ln := ln) (wd := wd) (th := th) (cu := cu) (mo := mo) (D := D) (dn := dn) (dc := dc) (w := wx) hgo.2 hn1 hn2 hdn)
  have MA := fun wx hb => Lib.hid (sizes_range (cp := cp) (dc := dc) hc hq hn1 hn2 hdn wx (RcRow.below hr1 hb) (SpRow.below hl1 hb) hn)
  have RC := fun wx hb => Lib.hid (rcheckBoard_any (cp := cp) (dc := dc) hc hn1 hn2 hdn wx (RcRow.below hr1 hb) (SpRow.below hl1 hb) hn hcp)
  have MQ := fun wx => Lib.hid (moisture_any hq wx)
  have HBL := Lib.hid hBL
  have heq := eq68
  clear hgo hl hl1 hr hr1 hBL hc hq
  go_enter Try.func9, Try.ntmps9
  go_wp2_with (first | (go_at_call 18; refine (awake_any _).mono ?_; rintro e w1 ⟨rfl, hb1⟩; have hs1 : w.heap.size < w1.heap.size := (by have := hb1.size; (try simp at this); omega); obtain ⟨hc1, hf1⟩ := bcell hb1) | (go_at_call 19; (refine Calls.mono (SH _ hb1).out ?_); rintro e w2 ⟨rfl, rfl⟩) | (go_at_call 24; (refine Calls.mono (PL _).out ?_); rintro e w3 ⟨rfl, hb3⟩; have hb13 := hb1.trans (hb3.mono hb1.size); have hs3 : w.heap.size < w3.heap.size := (by have := hb3.size; omega); obtain ⟨hc3, hf3⟩ := bcell hb3) | (go_at_call 40; (refine Calls.mono (MA _ hb13).out ?_); rintro e w4 ⟨rfl, hb4⟩; have hb14 := hb13.trans (hb4.mono hb13.size); have hs4 : w.heap.size < w4.heap.size := (by have := hb4.size; omega); obtain ⟨hc4, hf4⟩ := bcell hb4; have hb14a := hb14.alloc (Nat.le_trans (by simp) hb14.size) (.cells #[.int .i64 0, .int .i64 0, .int .i64 0, .int .i64 0, .int .i64 0, .int .i64 0] 68)) | (go_at_call 27; (refine Calls.mono (RC _ hb14a).out ?_); rintro e w5 ⟨rfl, hb5⟩; have hb15 := hb14a.trans (hb5.mono hb14a.size); have hs5 : w.heap.size < w5.heap.size := (by have := hb15.size; (try simp at this); omega); have hs45 : w4.heap.size < w5.heap.size := (by have := hb5.size; (try simp at this); omega); have kx : ∀ o, w5.cell? ⟨w4.heap.size, o, none⟩ = _ := (fun o => hb5.cell (p := ⟨w4.heap.size, o, none⟩) (by simp)); have x0 := kx 0; have x1 := kx 1; have x2 := kx 2; have x3 := kx 3; have x4 := kx 4; have x5 := kx 5; simp [go_sem] at x0 x1 x2 x3 x4 x5) | (go_at_call 41; (refine Calls.mono (MQ _).out ?_); rintro e w6 ⟨rfl, rfl⟩))
  go_ret
  exact ⟨rfl, HBL.out.trans (hb15.mono (by simp))⟩
set_option maxHeartbeats 4000000 in
set_option maxRecDepth 20000 in
theorem lsizes_ok {nm sp : ByteArray} {ln wd th cu mo : Int} {D : Option Addr} {dn dc : Nat} {ds : List Rc} {A : Option Addr} {n cp j : Nat} {l : List Sp} {s : Sp} {q r0 r1 r2 : Int} (hgo : (shortB l && plainB nm sp dn) = true) (hc : chkBoard l ⟨nm, sp, ln, wd, th, cu, mo, ds⟩ = 0) (hq : inB 0 400 q = true) (hj : findFrom 0 sp l = j) (hjn : j < n) (hsj : l[j]? = some s) (hs0 : spCode s = 0)
    (hrate : rateVals s.al s.ac s.ra cu = .agg #[.int .i64 r0, .int .i64 r1, .int .i64 r2]) (hr0 : rateN s.al s.ac s.ra cu 0 = r0) (hr1 : rateN s.al s.ac s.ra cu 1 = r1) (hr2 : rateN s.al s.ac s.ra cu 2 = r2) (hcu : inB 0 1 cu = true)
    (m0 : Mov ln r0 mo q) (m1 : Mov wd r1 mo q) (m2 : Mov th r2 mo q) (hn1 : nm.size ≤ maxLen) (hn2 : sp.size ≤ maxLen) (hdn : dn ≤ maxLen) (w : World) (hr : RcRow w D dn ds) (hl : SpRow w A n l) (hn : n ≤ maxLen) (hcp : n ≤ cp) :
    Calls Try.prog 9 #[.slice A n cp, .agg #[.string nm, .string sp, .int .i64 ln, .int .i64 wd, .int .i64 th, .int .i64 cu, .int .i64 mo, .slice D dn dc], .int .i64 q] w fun e w' => e = .returned (.bool true) ∧ Below w.heap.size w w' := by
  have hBL : Below w.heap.size w (w.alloc (.cells #[.string nm, .string sp, .int .i64 ln, .int .i64 wd, .int .i64 th, .int .i64 cu, .int .i64 mo, .slice D dn dc] 34)) := (Below.refl _ _).alloc (Nat.le_refl _) _
  have hl1 := SpRow.below hl hBL
  have hrr1 := RcRow.below hr hBL
  rw [Bool.and_eq_true] at hgo
  have SH := fun wx hb => Lib.hid (short_any (cp := cp) hgo.1 wx (SpRow.below hl1 hb) hn)
  have PL := fun wx => Lib.hid (plain_any (nm := nm) (sp := sp) (ln := ln) (wd := wd) (th := th) (cu := cu) (mo := mo) (D := D) (dn := dn) (dc := dc) (w := wx) hgo.2 hn1 hn2 hdn)
  have MA := fun wx hb => Lib.hid (sizes_ok (cp := cp) (dc := dc) hc hq hj hjn hsj hrate m0 m1 m2 hn1 hn2 hdn wx (RcRow.below hrr1 hb) (SpRow.below hl1 hb) hn)
  have RC := fun wx hb => Lib.hid (rcheckBoard_any (cp := cp) (dc := dc) hc hn1 hn2 hdn wx (RcRow.below hrr1 hb) (SpRow.below hl1 hb) hn hcp)
  have MQ := fun wx => Lib.hid (moisture_any hq wx)
  have FI := fun wx hb => Lib.hid (rfind_any (cp := cp) hj wx (SpRow.below hl1 hb) hn)
  have A0 := fun wx => Lib.hid (rat_any m0 wx)
  have A1 := fun wx => Lib.hid (rat_any m1 wx)
  have A2 := fun wx => Lib.hid (rat_any m2 wx)
  have hll := hl.1
  have hn' : n ≤ 9223372036854775807 := hn
  have hjn' : (j : Int) < (n : Int) := by omega
  obtain ⟨bk, of, rfl, hbk, hx⟩ := hl.2 (by omega)
  have hjl : j < l.length := by omega
  have hsp := hx j hjl
  rw [List.getElem?_eq_getElem hjl] at hsj
  injection hsj with hsj
  rw [hsj] at hsp
  obtain ⟨snm, al, ac, ra, de, st, sr⟩ := s
  obtain ⟨g0, g1, g2, g3, g4, g5, g6, hsn⟩ := hsp
  simp only at g0 g1 g2 g3 g4 g5 g6 hsn hr0 hr1 hr2
  have RT := fun (axis : Int) (h : inB 0 2 axis = true) wx => rrate_any (nm := snm) (al := al) (ac := ac) (ra := ra) (de := de) (st := st) (sr := sr) cu axis hsn wx
  simp only [hs0] at RT
  have RT0 := fun wx => Lib.hid ((rateT_ok (al := al) (ac := ac) (ra := ra) (cut := cu) (axis := 0) rfl (by rw [hcu]; rfl)).trans (by rw [hr0]) ▸ RT 0 rfl wx)
  have RT1 := fun wx => Lib.hid ((rateT_ok (al := al) (ac := ac) (ra := ra) (cut := cu) (axis := 1) rfl (by rw [hcu]; rfl)).trans (by rw [hr1]) ▸ RT 1 rfl wx)
  have RT2 := fun wx => Lib.hid ((rateT_ok (al := al) (ac := ac) (ra := ra) (cut := cu) (axis := 2) rfl (by rw [hcu]; rfl)).trans (by rw [hr2]) ▸ RT 2 rfl wx)
  have HBL := Lib.hid hBL
  clear hgo hl hl1 hr hrr1 hBL hc hq hj hx hsj hrate m0 m1 m2 hs0 RT hr0 hr1 hr2 hcu
  go_enter Try.func9, Try.ntmps9
  go_wp2_with (first | (go_at_call 18; refine (awake_any _).mono ?_; rintro e w1 ⟨rfl, hb1⟩; have hs1 : w.heap.size < w1.heap.size := (by have := hb1.size; (try simp at this); omega); obtain ⟨hc1, hf1⟩ := bcell hb1) | (go_at_call 19; (refine Calls.mono (SH _ hb1).out ?_); rintro e w2 ⟨rfl, rfl⟩) | (go_at_call 24; (refine Calls.mono (PL _).out ?_); rintro e w3 ⟨rfl, hb3⟩; have hb13 := hb1.trans (hb3.mono hb1.size); have hs3 : w.heap.size < w3.heap.size := (by have := hb3.size; omega); obtain ⟨hc3, hf3⟩ := bcell hb3) | (go_at_call 40; (refine Calls.mono (MA _ hb13).out ?_); rintro e w4 ⟨rfl, hb4⟩; have hb14 := hb13.trans (hb4.mono hb13.size); have hs4 : w.heap.size < w4.heap.size := (by have := hb4.size; omega); obtain ⟨hc4, hf4⟩ := bcell hb4; have hb14a := hb14.alloc (Nat.le_trans (by simp) hb14.size) (.cells #[.int .i64 (movedLo ln r0 mo q), .int .i64 (movedHi ln r0 mo q), .int .i64 (movedLo wd r1 mo q), .int .i64 (movedHi wd r1 mo q), .int .i64 (movedLo th r2 mo q), .int .i64 (movedHi th r2 mo q)] 68)) | (go_at_call 27; (refine Calls.mono (RC _ hb14a).out ?_); rintro e w5 ⟨rfl, hb5⟩; have hb15 := hb14a.trans (hb5.mono hb14a.size); have hs5 : w.heap.size < w5.heap.size := (by have := hb15.size; (try simp at this); omega); have hs45 : w4.heap.size < w5.heap.size := (by have := hb5.size; (try simp at this); omega); have kx : ∀ o, w5.cell? ⟨w4.heap.size, o, none⟩ = _ := (fun o => hb5.cell (p := ⟨w4.heap.size, o, none⟩) (by simp)); have x0 := kx 0; have x1 := kx 1; have x2 := kx 2; have x3 := kx 3; have x4 := kx 4; have x5 := kx 5; simp [go_sem] at x0 x1 x2 x3 x4 x5; have hBA := HBL.out.trans (hb15.mono (by simp)); have kk : ∀ o, w5.cell? ⟨bk, o, none⟩ = w.cell? ⟨bk, o, none⟩ := (fun o => hBA.cell (p := ⟨bk, o, none⟩) hbk); have y0 := (kk _).trans g0; have y1 := (kk _).trans g1; have y2 := (kk _).trans g2; have y3 := (kk _).trans g3; have y4 := (kk _).trans g4; have y5 := (kk _).trans g5; have y6 := (kk _).trans g6; clear kk; have kb : ∀ o, w5.cell? ⟨w.heap.size, o, none⟩ = _ := (fun o => hb15.cell (p := ⟨w.heap.size, o, none⟩) (by simp)); have z0 := kb 0; have z1 := kb 1; have z2 := kb 2; have z3 := kb 3; have z4 := kb 4; have z5 := kb 5; have z6 := kb 6; have z7 := kb 7; simp [go_sem] at z0 z1 z2 z3 z4 z5 z6 z7; clear kb) | (go_at_call 41; (refine Calls.mono (MQ _).out ?_); rintro e w6 ⟨rfl, rfl⟩) | (go_at_call 23; (refine Calls.mono (FI _ hb15).out ?_); rintro e w7 ⟨rfl, rfl⟩))
  have hX : w4.heap.size + 0 < w5.heap.size := by omega
  obtain ⟨B, hBd⟩ : ∃ B, w.heap.size = B := ⟨_, rfl⟩
  obtain ⟨Y, hYd⟩ : ∃ Y, w4.heap.size = Y := ⟨_, rfl⟩
  obtain ⟨T, hTd⟩ : ∃ T, w5.heap.size = T := ⟨_, rfl⟩
  have hB6 : Below w.heap.size w ((w5.alloc (.cells #[.string snm, .int .i64 al, .int .i64 ac, .int .i64 ra, .int .i64 de, .int .i64 st, .int .i64 sr] 44)).alloc (.cells #[.int .i64 mo, .int .i64 q] 50)) := ((HBL.out.trans (hb15.mono (by simp))).alloc (by omega) _).alloc (by simp; omega) _
  have hS6 : T + 1 < ((w5.alloc (.cells #[.string snm, .int .i64 al, .int .i64 ac, .int .i64 ra, .int .i64 de, .int .i64 st, .int .i64 sr] 44)).alloc (.cells #[.int .i64 mo, .int .i64 q] 50)).heap.size := by rw [← hTd]; simp
  have hk5 : ∀ b o, b < w5.heap.size → ((w5.alloc (.cells #[.string snm, .int .i64 al, .int .i64 ac, .int .i64 ra, .int .i64 de, .int .i64 st, .int .i64 sr] 44)).alloc (.cells #[.int .i64 mo, .int .i64 q] 50)).cell? ⟨b, o, none⟩ = w5.cell? ⟨b, o, none⟩ := fun b o h => later2 h
  have hkS : ∀ o, ((w5.alloc (.cells #[.string snm, .int .i64 al, .int .i64 ac, .int .i64 ra, .int .i64 de, .int .i64 st, .int .i64 sr] 44)).alloc (.cells #[.int .i64 mo, .int .i64 q] 50)).cell? ⟨T, o, none⟩ = (#[.string snm, .int .i64 al, .int .i64 ac, .int .i64 ra, .int .i64 de, .int .i64 st, .int .i64 sr] : Array Value)[o]? := fun o => by rw [← hTd]; simp [go_sem]
  have hkM : ∀ o, ((w5.alloc (.cells #[.string snm, .int .i64 al, .int .i64 ac, .int .i64 ra, .int .i64 de, .int .i64 st, .int .i64 sr] 44)).alloc (.cells #[.int .i64 mo, .int .i64 q] 50)).cell? ⟨T + 1, o, none⟩ = (#[Value.int .i64 mo, .int .i64 q] : Array Value)[o]? := fun o => by rw [← hTd]; simp [go_sem]
  have e0 := (hk5 _ _ hs5).trans z0; have e1 := (hk5 _ _ hs5).trans z1; have e2 := (hk5 _ _ hs5).trans z2; have e3 := (hk5 _ _ hs5).trans z3; have e4 := (hk5 _ _ hs5).trans z4; have e5 := (hk5 _ _ hs5).trans z5; have e6 := (hk5 _ _ hs5).trans z6; have e7 := (hk5 _ _ hs5).trans z7
  have h0 := (hk5 _ _ hs45).trans x0; have h1 := (hk5 _ _ hs45).trans x1; have h2 := (hk5 _ _ hs45).trans x2; have h3 := (hk5 _ _ hs45).trans x3; have h4 := (hk5 _ _ hs45).trans x4; have h5 := (hk5 _ _ hs45).trans x5
  have hBT : B < T := by omega
  have hYT : Y < T := by omega
  rw [hBd] at e0 e1 e2 e3 e4 e5 e6 e7
  rw [hYd] at h0 h1 h2 h3 h4 h5
  rw [hBd, hYd, hTd]
  generalize hW : (w5.alloc _).alloc _ = W6
  rw [hW] at e0 e1 e2 e3 e4 e5 e6 e7 h0 h1 h2 h3 h4 h5 hB6 hS6 hkS hkM
  have HB6 := Lib.hid hB6
  have KS := Lib.hid hkS
  have KM := Lib.hid hkM
  have E := Lib.hid (And.intro e0 (And.intro e1 (And.intro e2 (And.intro e3 (And.intro e4 (And.intro e5 (And.intro e6 e7)))))))
  have H := Lib.hid (And.intro h0 (And.intro h1 (And.intro h2 (And.intro h3 (And.intro h4 h5)))))
  clear hW hk5 hkS hkM e0 e1 e2 e3 e4 e5 e6 e7 h0 h1 h2 h3 h4 h5 hB6 hX hb1 hb3 hb13 hb4 hb14 hb14a hb5 hb15 hs1 hs3 hs4 hs5 hs45 hc1 hc3 hc4 hf1 hf3 hf4 hBA kx x0 x1 x2 x3 x4 x5 y0 y1 y2 y3 y4 y5 y6 z0 z1 z2 z3 z4 z5 z6 z7 g0 g1 g2 g3 g4 g5 g6 MA RC SH PL FI MQ hBd hYd hTd
  go_loopw [12] (fun i wr => ∃ k : Nat, k ≤ 3 ∧ i = .int .i64 k ∧ Below W6.heap.size W6 wr) (fun i _ => 3 - (intOf i).toNat)
  case atStart => exact ⟨0, by omega, rfl, Below.refl _ _⟩
  case round =>
    obtain ⟨k, hk, rfl, hbw⟩ := hrel
    have HB := Lib.hid hbw
    have kB : ∀ o, wr.cell? ⟨B, o, none⟩ = W6.cell? ⟨B, o, none⟩ := fun o => hbw.cell (p := ⟨B, o, none⟩) (by simp; omega)
    have kY : ∀ o, wr.cell? ⟨Y, o, none⟩ = W6.cell? ⟨Y, o, none⟩ := fun o => hbw.cell (p := ⟨Y, o, none⟩) (by simp; omega)
    have kT : ∀ o, wr.cell? ⟨T, o, none⟩ = W6.cell? ⟨T, o, none⟩ := fun o => hbw.cell (p := ⟨T, o, none⟩) (by simp; omega)
    have kM : ∀ o, wr.cell? ⟨T + 1, o, none⟩ = W6.cell? ⟨T + 1, o, none⟩ := fun o => hbw.cell (p := ⟨T + 1, o, none⟩) (by simp; omega)
    have e2 := (kB 2).trans E.out.2.2.1; have e3 := (kB 3).trans E.out.2.2.2.1; have e4 := (kB 4).trans E.out.2.2.2.2.1; have e5 := (kB 5).trans E.out.2.2.2.2.2.1
    have h0 := (kY 0).trans H.out.1; have h1 := (kY 1).trans H.out.2.1; have h2 := (kY 2).trans H.out.2.2.1; have h3 := (kY 3).trans H.out.2.2.2.1; have h4 := (kY 4).trans H.out.2.2.2.2.1; have h5 := (kY 5).trans H.out.2.2.2.2.2
    have s0 := (kT 0).trans (KS.out 0); have s1 := (kT 1).trans (KS.out 1); have s2 := (kT 2).trans (KS.out 2); have s3 := (kT 3).trans (KS.out 3); have s4 := (kT 4).trans (KS.out 4); have s5 := (kT 5).trans (KS.out 5); have s6 := (kT 6).trans (KS.out 6)
    have m0 := (kM 0).trans (KM.out 0); have m1 := (kM 1).trans (KM.out 1)
    simp at s0 s1 s2 s3 s4 s5 s6 m0 m1
    have hszr := hbw.size
    clear kB kY kT kM hbw
    have i0 := run_index72 ln wd th _ _ (.inl ⟨rfl, rfl⟩)
    have i1 := run_index72 ln wd th _ _ (.inr (.inl ⟨rfl, rfl⟩))
    have i2 := run_index72 ln wd th _ _ (.inr (.inr ⟨rfl, rfl⟩))
    obtain rfl | rfl | rfl | rfl : k = 0 ∨ k = 1 ∨ k = 2 ∨ k = 3 := by omega
    · go_wp2_with (go_at_call 31; (refine Calls.mono (RT0 _).out ?_); rintro e W7 ⟨rfl, hb7⟩)
      have kB : ∀ o, W7.cell? ⟨B, o, none⟩ = wr.cell? ⟨B, o, none⟩ := fun o => hb7.cell (p := ⟨B, o, none⟩) (by simp; omega)
      have kY : ∀ o, W7.cell? ⟨Y, o, none⟩ = wr.cell? ⟨Y, o, none⟩ := fun o => hb7.cell (p := ⟨Y, o, none⟩) (by simp; omega)
      have kM : ∀ o, W7.cell? ⟨T + 1, o, none⟩ = wr.cell? ⟨T + 1, o, none⟩ := fun o => hb7.cell (p := ⟨T + 1, o, none⟩) (by simp; omega)
      have f2 := (kB 2).trans e2; have f3 := (kB 3).trans e3; have f4 := (kB 4).trans e4
      have j0 := (kY 0).trans h0; have j1 := (kY 1).trans h1
      have l0 := (kM 0).trans m0; have l1 := (kM 1).trans m1
      have hs7 := hb7.size
      have QB := Lib.hid (show B < W7.heap.size by omega)
      have QY := Lib.hid (show Y < W7.heap.size by omega)
      have QM := Lib.hid (show T + 1 < W7.heap.size by omega)
      have HB7 := Lib.hid (HB.out.trans (hb7.mono (by omega)))
      clear kB kY kM hb7 e2 e3 e4 e5 h0 h1 h2 h3 h4 h5 s0 s1 s2 s3 s4 s5 s6 m0 m1
      go_region_held3 (fun wx => Below W7.heap.size W7 wx ∧ wx.cell? ⟨B, 2, none⟩ = some (.int .i64 ln) ∧ wx.cell? ⟨B, 3, none⟩ = some (.int .i64 wd) ∧ wx.cell? ⟨B, 4, none⟩ = some (.int .i64 th) ∧ wx.cell? ⟨Y, 0, none⟩ = some (.int .i64 (movedLo ln r0 mo q)) ∧ wx.cell? ⟨Y, 1, none⟩ = some (.int .i64 (movedHi ln r0 mo q)) ∧ wx.cell? ⟨T + 1, 0, none⟩ = some (.int .i64 mo) ∧ wx.cell? ⟨T + 1, 1, none⟩ = some (.int .i64 q)) ((first | (refine ⟨(Below.refl _ _).drew, ?_, ?_, ?_, ?_, ?_, ?_, ?_⟩ <;> assumption) | (refine ⟨?_, ?_, ?_, ?_, ?_, ?_, ?_, ?_⟩ <;> assumption) | (apply kept7 <;> first | assumption | exact QB.out | exact QY.out | exact QM.out))) (first | (go_at_call 36; refine Calls.mono (A0 _).out ?_; rintro e w' ⟨rfl, hbx⟩))
      obtain ⟨hWx, -⟩ := ‹Below W7.heap.size W7 w' ∧ _›
      go_wp2
      go_roundw
      case rel => exact ⟨1, by omega, by go_num, HB7.out.trans (hWx.mono (by omega))⟩
      case measure => simp [intOf]
    · go_wp2_with (go_at_call 31; (refine Calls.mono (RT1 _).out ?_); rintro e W7 ⟨rfl, hb7⟩)
      have kB : ∀ o, W7.cell? ⟨B, o, none⟩ = wr.cell? ⟨B, o, none⟩ := fun o => hb7.cell (p := ⟨B, o, none⟩) (by simp; omega)
      have kY : ∀ o, W7.cell? ⟨Y, o, none⟩ = wr.cell? ⟨Y, o, none⟩ := fun o => hb7.cell (p := ⟨Y, o, none⟩) (by simp; omega)
      have kM : ∀ o, W7.cell? ⟨T + 1, o, none⟩ = wr.cell? ⟨T + 1, o, none⟩ := fun o => hb7.cell (p := ⟨T + 1, o, none⟩) (by simp; omega)
      have f2 := (kB 2).trans e2; have f3 := (kB 3).trans e3; have f4 := (kB 4).trans e4
      have j0 := (kY 2).trans h2; have j1 := (kY 3).trans h3
      have l0 := (kM 0).trans m0; have l1 := (kM 1).trans m1
      have hs7 := hb7.size
      have QB := Lib.hid (show B < W7.heap.size by omega)
      have QY := Lib.hid (show Y < W7.heap.size by omega)
      have QM := Lib.hid (show T + 1 < W7.heap.size by omega)
      have HB7 := Lib.hid (HB.out.trans (hb7.mono (by omega)))
      clear kB kY kM hb7 e2 e3 e4 e5 h0 h1 h2 h3 h4 h5 s0 s1 s2 s3 s4 s5 s6 m0 m1
      go_region_held3 (fun wx => Below W7.heap.size W7 wx ∧ wx.cell? ⟨B, 2, none⟩ = some (.int .i64 ln) ∧ wx.cell? ⟨B, 3, none⟩ = some (.int .i64 wd) ∧ wx.cell? ⟨B, 4, none⟩ = some (.int .i64 th) ∧ wx.cell? ⟨Y, 2, none⟩ = some (.int .i64 (movedLo wd r1 mo q)) ∧ wx.cell? ⟨Y, 3, none⟩ = some (.int .i64 (movedHi wd r1 mo q)) ∧ wx.cell? ⟨T + 1, 0, none⟩ = some (.int .i64 mo) ∧ wx.cell? ⟨T + 1, 1, none⟩ = some (.int .i64 q)) ((first | (refine ⟨(Below.refl _ _).drew, ?_, ?_, ?_, ?_, ?_, ?_, ?_⟩ <;> assumption) | (refine ⟨?_, ?_, ?_, ?_, ?_, ?_, ?_, ?_⟩ <;> assumption) | (apply kept7 <;> first | assumption | exact QB.out | exact QY.out | exact QM.out))) (first | (go_at_call 36; refine Calls.mono (A1 _).out ?_; rintro e w' ⟨rfl, hbx⟩))
      obtain ⟨hWx, -⟩ := ‹Below W7.heap.size W7 w' ∧ _›
      go_wp2
      go_roundw
      case rel => exact ⟨2, by omega, by go_num, HB7.out.trans (hWx.mono (by omega))⟩
      case measure => simp [intOf]
    · go_wp2_with (go_at_call 31; (refine Calls.mono (RT2 _).out ?_); rintro e W7 ⟨rfl, hb7⟩)
      have kB : ∀ o, W7.cell? ⟨B, o, none⟩ = wr.cell? ⟨B, o, none⟩ := fun o => hb7.cell (p := ⟨B, o, none⟩) (by simp; omega)
      have kY : ∀ o, W7.cell? ⟨Y, o, none⟩ = wr.cell? ⟨Y, o, none⟩ := fun o => hb7.cell (p := ⟨Y, o, none⟩) (by simp; omega)
      have kM : ∀ o, W7.cell? ⟨T + 1, o, none⟩ = wr.cell? ⟨T + 1, o, none⟩ := fun o => hb7.cell (p := ⟨T + 1, o, none⟩) (by simp; omega)
      have f2 := (kB 2).trans e2; have f3 := (kB 3).trans e3; have f4 := (kB 4).trans e4
      have j0 := (kY 4).trans h4; have j1 := (kY 5).trans h5
      have l0 := (kM 0).trans m0; have l1 := (kM 1).trans m1
      have hs7 := hb7.size
      have QB := Lib.hid (show B < W7.heap.size by omega)
      have QY := Lib.hid (show Y < W7.heap.size by omega)
      have QM := Lib.hid (show T + 1 < W7.heap.size by omega)
      have HB7 := Lib.hid (HB.out.trans (hb7.mono (by omega)))
      clear kB kY kM hb7 e2 e3 e4 e5 h0 h1 h2 h3 h4 h5 s0 s1 s2 s3 s4 s5 s6 m0 m1
      go_region_held3 (fun wx => Below W7.heap.size W7 wx ∧ wx.cell? ⟨B, 2, none⟩ = some (.int .i64 ln) ∧ wx.cell? ⟨B, 3, none⟩ = some (.int .i64 wd) ∧ wx.cell? ⟨B, 4, none⟩ = some (.int .i64 th) ∧ wx.cell? ⟨Y, 4, none⟩ = some (.int .i64 (movedLo th r2 mo q)) ∧ wx.cell? ⟨Y, 5, none⟩ = some (.int .i64 (movedHi th r2 mo q)) ∧ wx.cell? ⟨T + 1, 0, none⟩ = some (.int .i64 mo) ∧ wx.cell? ⟨T + 1, 1, none⟩ = some (.int .i64 q)) ((first | (refine ⟨(Below.refl _ _).drew, ?_, ?_, ?_, ?_, ?_, ?_, ?_⟩ <;> assumption) | (refine ⟨?_, ?_, ?_, ?_, ?_, ?_, ?_, ?_⟩ <;> assumption) | (apply kept7 <;> first | assumption | exact QB.out | exact QY.out | exact QM.out))) (first | (go_at_call 36; refine Calls.mono (A2 _).out ?_; rintro e w' ⟨rfl, hbx⟩))
      obtain ⟨hWx, -⟩ := ‹Below W7.heap.size W7 w' ∧ _›
      go_wp2
      go_roundw
      case rel => exact ⟨3, by omega, by go_num, HB7.out.trans (hWx.mono (by omega))⟩
      case measure => simp [intOf]
    · go_wp2
      go_ret
      exact ⟨rfl, HB6.out.trans (HB.out.mono HB6.out.size)⟩
theorem lsizes_law (A : Option Addr) (n cp : Nat) (l : List Sp) (bd : Bd) (D : Option Addr) (dn dc : Nat) (q : Int) (hn : n ≤ maxLen ∧ n ≤ cp) (hb : bd.nm.size ≤ maxLen ∧ bd.sp.size ≤ maxLen ∧ dn ≤ maxLen ∧ dn ≤ dc) (w : World) (hl : SpRow w A n l) (hr : RcRow w D dn bd.df) :
    Calls Try.prog 9 #[.slice A n cp, .agg #[.string bd.nm, .string bd.sp, .int .i64 bd.ln, .int .i64 bd.wd, .int .i64 bd.th, .int .i64 bd.cu, .int .i64 bd.mo, .slice D dn dc], .int .i64 q] w fun e w' => e = .returned (.bool true) ∧ Below w.heap.size w w' := by
  obtain ⟨nm, sp, ln, wd, th, cu, mo, ds⟩ := bd
  simp only at hb hr ⊢
  cases hgo : shortB l && plainB nm sp dn
  · exact lsizes_skip (ds := ds) hgo hb.1 hb.2.1 hb.2.2.1 w hl hn.1
  · by_cases hc : chkBoard l ⟨nm, sp, ln, wd, th, cu, mo, ds⟩ = 0
    · cases hq : inB 0 400 q
      · exact lsizes_range hgo hc hq hb.1 hb.2.1 hb.2.2.1 w hr hl hn.1 hn.2
      · obtain ⟨hs0, hb0, j, s, hjl, hj, hsj⟩ := chk_sp hc
        have hok := bdOk_of (bdOf_zero hb0).1
        have hsc := ((sps_each hs0).2 j hjl).1
        have hss : l[j] = s := by rw [List.getElem?_eq_getElem hjl] at hsj; injection hsj
        rw [hss] at hsc
        have hqq := inB_iff.1 hq
        have rr : (0 ≤ s.al ∧ s.al ≤ 2000) ∧ (0 ≤ s.ac ∧ s.ac ≤ 2000) ∧ (0 ≤ s.ra ∧ s.ra ≤ 2000) := by
          unfold spCode at hsc
          cases h1 : nameB s.nm
          · rw [h1] at hsc; cases hsc
          · cases h2 : spRange s
            · rw [h1, h2] at hsc; cases hsc
            · unfold spRange at h2
              rw [Bool.and_eq_true, allIn_iff] at h2
              exact ⟨h2.1 _ (by simp), h2.1 _ (by simp), h2.1 _ (by simp)⟩
        have b0 := hok.l0; have b1 := hok.l1; have b2 := hok.w0; have b3 := hok.w1; have b4 := hok.t0; have b5 := hok.t1; have b6 := hok.c0; have b7 := hok.c1; have b8 := hok.m0; have b9 := hok.m1
        simp only at b0 b1 b2 b3 b4 b5 b6 b7 b8 b9 hj
        have hcu : inB 0 1 cu = true := inB_iff.2 ⟨b6, b7⟩
        have hlen := hl.1
        by_cases h0 : cu = 0
        · exact lsizes_ok hgo hc hq hj (by omega) hsj hsc (if_pos h0) rfl (by unfold rateN; rw [if_neg (by decide), if_pos rfl, if_pos h0]) (by unfold rateN; rw [if_neg (by decide), if_neg (by decide), if_pos h0]) hcu ⟨by omega, by omega, by omega, by omega, by omega, by omega, by omega, by omega⟩ ⟨by omega, by omega, by omega, by omega, by omega, by omega, by omega, by omega⟩ ⟨by omega, by omega, by omega, by omega, by omega, by omega, by omega, by omega⟩ hb.1 hb.2.1 hb.2.2.1 w hr hl hn.1 hn.2
        · exact lsizes_ok hgo hc hq hj (by omega) hsj hsc (if_neg h0) rfl (by unfold rateN; rw [if_neg (by decide), if_pos rfl, if_neg h0]) (by unfold rateN; rw [if_neg (by decide), if_neg (by decide), if_neg h0]) hcu ⟨by omega, by omega, by omega, by omega, by omega, by omega, by omega, by omega⟩ ⟨by omega, by omega, by omega, by omega, by omega, by omega, by omega, by omega⟩ ⟨by omega, by omega, by omega, by omega, by omega, by omega, by omega, by omega⟩ hb.1 hb.2.1 hb.2.2.1 w hr hl hn.1 hn.2
    · exact lsizes_err hgo rfl hc hb.1 hb.2.1 hb.2.2.1 w hr hl hn.1 hn.2
end Go.Proofs.Ytnjbhidncicfiaa
