/- Clear lengths: what the law asks of each of them. The law TimberClear: what isn't plain, and boards with an error. The law TimberClear: a good board. -/
import Derived.Test.YtnjbhidncicfiaaE9
import Derived.Test.YtnjbhidncicfiaaB6
import Derived.Deep.RegionHeld3
import Derived.BigQuiet
namespace Go.Proofs.Ytnjbhidncicfiaa

theorem norm_each : ∀ {l : List Iv} {b : Int}, NormL b l → ∀ p ∈ l, b < p.1 ∧ p.1 < p.2
  | [], _, _, p, h => by cases h
  | q :: r, b, hn, p, h => by
    obtain ⟨h1, h2, h3⟩ := hn
    rcases List.mem_cons.1 h with rfl | h
    · exact ⟨h1, h2⟩
    · have := norm_each h3 p h
      exact ⟨by omega, this.2⟩
theorem clear_each {b : Bd} (hb : BdOk b) {l : List Iv} (h : IsClear b l) {p : Iv} (hp : p ∈ l) : 0 ≤ p.1 ∧ p.1 < p.2 ∧ p.2 ≤ b.ln ∧ soundB b ⟨p.1, 0, p.2, b.wd⟩ = true := by
  obtain ⟨h1, h2⟩ := norm_each h.1 p hp
  have hm : ∀ x, p.1 ≤ x → x < p.2 → 0 ≤ x ∧ x < b.ln ∧ freeX b x := fun x a c => (h.2 x).1 ⟨p, hp, a, c⟩
  have h3 := hm (p.2 - 1) (by omega) (by omega)
  refine ⟨by omega, h2, by omega, (seg_sound hb).2 fun d hd hc => ?_⟩
  have ho := hb.each d hd
  by_cases hx : d.x1 ≤ p.1
  · exact (hm p.1 (by omega) h2).2.2 d hd ⟨hx, hc.2⟩
  · exact (hm d.x1 (by omega) hc.1).2.2 d hd ⟨by omega, ho.x12⟩
theorem clear_at {b : Bd} (hb : BdOk b) {l : List Iv} (h : IsClear b l) {a : Int} (h0 : 0 ≤ a) (h1 : a < b.ln) : soundB b ⟨a, 0, a + 1, b.wd⟩ = l.any fun p => decide (p.1 ≤ a) && decide (a < p.2) := by
  rw [Bool.eq_iff_iff, seg_sound hb, List.any_eq_true]
  have hm := h.2 a
  constructor
  · intro hs
    obtain ⟨p, hp, h2, h3⟩ := hm.2 ⟨h0, h1, fun d hd hc => hs d hd ⟨by omega, hc.2⟩⟩
    exact ⟨p, hp, by simp [h2, h3]⟩
  · rintro ⟨p, hp, hc⟩ d hd hcc
    simp at hc
    exact (hm.1 ⟨p, hp, hc.1, hc.2⟩).2.2 d hd ⟨by omega, hcc.2⟩
end Go.Proofs.Ytnjbhidncicfiaa
namespace Go.Proofs.Ytnjbhidncicfiaa
open Go.RowKit

set_option maxHeartbeats 1000000 in
set_option maxRecDepth 20000 in
theorem lclear_skip {nm sp : ByteArray} {ln wd th cu mo : Int} {D : Option Addr} {dn dc : Nat} {q : Int} (hpl : plainB nm sp dn = false) (hn1 : nm.size ≤ maxLen) (hn2 : sp.size ≤ maxLen) (hdn : dn ≤ maxLen) (w : World) :
    Calls Try.prog 11 #[.agg #[.string nm, .string sp, .int .i64 ln, .int .i64 wd, .int .i64 th, .int .i64 cu, .int .i64 mo, .slice D dn dc], .int .i64 q] w fun e w' => e = .returned (.bool true) ∧ Below w.heap.size w w' := by
  have PL := fun wx => Lib.hid (plain_any (nm := nm) (sp := sp) (ln := ln) (wd := wd) (th := th) (cu := cu) (mo := mo) (D := D) (dn := dn) (dc := dc) (w := wx) hpl hn1 hn2 hdn)
  clear hpl
  go_enter Try.func11, Try.ntmps11
  go_wp2_with (first | (go_at_call 18; refine (awake_any _).mono ?_; rintro e w1 ⟨rfl, hb1⟩; have hs1 : w.heap.size < w1.heap.size := (by have := hb1.size; (try simp at this); omega); obtain ⟨hc1, hf1⟩ := bcell hb1) | (go_at_call 24; (refine Calls.mono (PL _).out ?_); rintro e w3 ⟨rfl, hb3⟩))
  go_ret
  exact ⟨rfl, (((Below.refl _ _).alloc (Nat.le_refl _) _).trans (hb1.mono (by simp))).trans (hb3.mono (by omega))⟩
set_option maxHeartbeats 1000000 in
set_option maxRecDepth 20000 in
theorem lclear_err {nm sp : ByteArray} {ln wd th cu mo : Int} {D : Option Addr} {dn dc : Nat} {ds : List Rc} {c q : Int} (hpl : plainB nm sp dn = true) (hc : bdCode ⟨nm, sp, ln, wd, th, cu, mo, ds⟩ = c) (hz : c ≠ 0) (hn1 : nm.size ≤ maxLen) (hn2 : sp.size ≤ maxLen) (hdn : dn ≤ maxLen) (w : World) (hr : RcRow w D dn ds) (_hcp : dn ≤ dc) :
    Calls Try.prog 11 #[.agg #[.string nm, .string sp, .int .i64 ln, .int .i64 wd, .int .i64 th, .int .i64 cu, .int .i64 mo, .slice D dn dc], .int .i64 q] w fun e w' => e = .returned (.bool true) ∧ Below w.heap.size w w' := by
  have hBL : Below w.heap.size w (w.alloc (.cells #[.string nm, .string sp, .int .i64 ln, .int .i64 wd, .int .i64 th, .int .i64 cu, .int .i64 mo, .slice D dn dc] 34)) := (Below.refl _ _).alloc (Nat.le_refl _) _
  have hr1 := RcRow.below hr hBL
  have PL := fun wx => Lib.hid (plain_any (nm := nm) (sp := sp) (ln := ln) (wd := wd) (th := th) (cu := cu) (mo := mo) (D := D) (dn := dn) (dc := dc) (w := wx) hpl hn1 hn2 hdn)
  have CE := fun wx hb => Lib.hid (clear_err (dc := dc) hc hz hn1 hn2 hdn wx (RcRow.below hr1 hb))
  have BE := fun wx hb => Lib.hid (rboardErr_any (dc := dc) hc hn1 hn2 hdn wx (RcRow.below hr1 hb))
  have hzb : (c == 0) = false := beq_eq_false_iff_ne.2 hz
  have HBL := Lib.hid hBL
  clear hr hr1 hBL hc hpl
  go_enter Try.func11, Try.ntmps11
  go_wp2_with (first | (go_at_call 18; refine (awake_any _).mono ?_; rintro e w1 ⟨rfl, hb1⟩; have hs1 : w.heap.size < w1.heap.size := (by have := hb1.size; (try simp at this); omega); obtain ⟨hc1, hf1⟩ := bcell hb1) | (go_at_call 24; (refine Calls.mono (PL _).out ?_); rintro e w3 ⟨rfl, hb3⟩; have hb13 := hb1.trans (hb3.mono hb1.size); have hs3 : w.heap.size < w3.heap.size := (by have := hb3.size; omega); obtain ⟨hc3, hf3⟩ := bcell hb13) | (go_at_call 51; (refine Calls.mono (CE _ hb13).out ?_); rintro e w4 ⟨rfl, hb4⟩; have hb14 := hb13.trans (hb4.mono hb13.size); have hs4 : w.heap.size < w4.heap.size := (by have := hb4.size; omega); obtain ⟨hc4, hf4⟩ := bcell hb14) | (go_at_call 45; (refine Calls.mono (BE _ hb14).out ?_); rintro e w5 ⟨rfl, hb5⟩; have hb15 := hb14.trans (hb5.mono hb14.size)))
  go_ret
  exact ⟨rfl, HBL.out.trans (hb15.mono (by simp))⟩
end Go.Proofs.Ytnjbhidncicfiaa
namespace Go.Proofs.Ytnjbhidncicfiaa
open Go.RowKit Go.Shelf Go.Lib Go.Sort

theorem own_sl {w : World} {base n : Nat} {v : Value} {xs : List Iv} (h : w.ownsRow base 50 2 v n (ivCells xs)) : ∃ p cap, v = .slice p n cap ∧ n ≤ maxLen := by
  obtain ⟨-, ⟨rfl, h0⟩ | ⟨g, cap, cur, rfl, -, -, hnc, hcm, -, -⟩⟩ := h
  · subst h0; exact ⟨none, 0, rfl, by unfold maxLen; omega⟩
  · exact ⟨_, cap, rfl, Nat.le_trans hnc hcm⟩
theorem any_take {cl : List Iv} {k : Nat} {q : Int} (h : k < cl.length) : ((cl.take (k + 1)).any fun p => decide (p.1 ≤ q) && decide (q < p.2)) = (((cl.take k).any fun p => decide (p.1 ≤ q) && decide (q < p.2)) || (decide (cl[k].1 ≤ q) && decide (q < cl[k].2))) := by
  rw [List.take_succ_eq_append_getElem h, List.any_append]; simp
set_option maxHeartbeats 4000000 in
set_option maxRecDepth 20000 in
theorem lclear_ok {nm sp : ByteArray} {ln wd th cu mo : Int} {D : Option Addr} {dn dc : Nat} {ds : List Rc} {q : Int} (hpl : plainB nm sp dn = true) (hc : bdCode ⟨nm, sp, ln, wd, th, cu, mo, ds⟩ = 0) (hn1 : nm.size ≤ maxLen) (hn2 : sp.size ≤ maxLen) (hdn : dn ≤ maxLen) (w : World) (hr : RcRow w D dn ds) (_hcp : dn ≤ dc) :
    Calls Try.prog 11 #[.agg #[.string nm, .string sp, .int .i64 ln, .int .i64 wd, .int .i64 th, .int .i64 cu, .int .i64 mo, .slice D dn dc], .int .i64 q] w fun e w' => e = .returned (.bool true) ∧ Below w.heap.size w w' := by
  have hb := bdOk_of hc
  have hBL : Below w.heap.size w (w.alloc (.cells #[.string nm, .string sp, .int .i64 ln, .int .i64 wd, .int .i64 th, .int .i64 cu, .int .i64 mo, .slice D dn dc] 34)) := (Below.refl _ _).alloc (Nat.le_refl _) _
  have hr1 := RcRow.below hr hBL
  have PL := fun wx => Lib.hid (plain_any (nm := nm) (sp := sp) (ln := ln) (wd := wd) (th := th) (cu := cu) (mo := mo) (D := D) (dn := dn) (dc := dc) (w := wx) hpl hn1 hn2 hdn)
  have CO := fun wx hb => Lib.hid (clear_ok (dc := dc) hc hn1 hn2 hdn wx (RcRow.below hr1 hb))
  have BE := fun wx hb => Lib.hid (rboardErr_any (dc := dc) hc hn1 hn2 hdn wx (RcRow.below hr1 hb))
  have CR := fun wx hbx => Lib.hid (clearRef_any (dc := dc) hb wx (RcRow.below hr1 hbx))
  have SO := fun (x1 y1 x2 y2 : Int) (v : Bool) he hv wx hbx => Lib.hid (sound_any (dc := dc) (x1 := x1) (y1 := y1) (x2 := x2) (y2 := y2) (c := 0) (e0 := 0) (v := v) hc he hv hn1 hn2 hdn wx (RcRow.below hr1 hbx))
  have HBL := Lib.hid hBL
  have HBO := Lib.hid hb
  have hl0 := hb.l0; have hl1 := hb.l1; have hw0 := hb.w0; have hw1 := hb.w1
  simp only at hl0 hl1 hw0 hw1
  clear hr hr1 hBL hpl hc hb
  go_enter Try.func11, Try.ntmps11
  go_wp2_with (first | (go_at_call 18; refine (awake_any _).mono ?_; rintro e w1 ⟨rfl, hb1⟩; have hs1 : w.heap.size < w1.heap.size := (by have := hb1.size; (try simp at this); omega); obtain ⟨hc1, hf1⟩ := bcell hb1) | (go_at_call 24; (refine Calls.mono (PL _).out ?_); rintro e w3 ⟨rfl, hb3⟩; have hb13 := hb1.trans (hb3.mono hb1.size); have hs3 : w.heap.size < w3.heap.size := (by have := hb3.size; omega); obtain ⟨hc3, hf3⟩ := bcell hb13) | (go_at_call 51; (refine Calls.mono (CO _ hb13).out ?_); rintro e w4 ⟨r, cl, rfl, hcl, hown1, hb4⟩; obtain ⟨p1, cp1, rfl, hnm⟩ := own_sl hown1; have hb14 := hb13.trans (hb4.mono hb13.size); have hs4 : w.heap.size < w4.heap.size := (by have := hb4.size; omega); obtain ⟨hc4, hf4⟩ := bcell hb14) | (go_at_call 45; (refine Calls.mono (BE _ hb14).out ?_); rintro e w5 ⟨rfl, hb5⟩; have hb15 := hb14.trans (hb5.mono hb14.size); have hs5 : w.heap.size < w5.heap.size := (by have := hb5.size; omega); obtain ⟨hc5, hf5⟩ := bcell hb15) | (go_at_call 52; (refine Calls.mono (CR _ hb15).out ?_); rintro e w6 ⟨r2, rfl, hown2, hb6⟩; rw [clear_unique (clear_ref HBO.out) hcl] at hown2; obtain ⟨p2, cp2, rfl, -⟩ := own_sl hown2; have hown3 := own_kept hown1 (hb5.trans (hb6.mono hb5.size)); have hb16 := hb15.trans (hb6.mono hb15.size); have hs6 : w.heap.size < w6.heap.size := (by have := hb6.size; omega)))
  have HCL := Lib.hid hcl
  have HE := fun p hp => Lib.hid (clear_each HBO.out hcl (p := p) hp)
  have HO1 := Lib.hid hown3
  have HO2 := Lib.hid hown2
  have HW6 := Lib.hid hb16
  have K6 : ∀ o, w6.cell? ⟨w.heap.size, o, none⟩ = _ := fun o => hb16.cell (p := ⟨w.heap.size, o, none⟩) (by simp)
  have q0 := K6 0; have q1 := K6 1; have q2 := K6 2; have q3 := K6 3; have q4 := K6 4; have q5 := K6 5; have q6 := K6 6; have q7 := K6 7
  simp [go_sem] at q0 q1 q2 q3 q4 q5 q6 q7
  have HQ := Lib.hid (And.intro q0 (And.intro q1 (And.intro q2 (And.intro q3 (And.intro q4 (And.intro q5 (And.intro q6 q7)))))))
  clear q0 q1 q2 q3 q4 q5 q6 q7
  obtain ⟨n, hn⟩ : ∃ n, cl.length = n := ⟨_, rfl⟩
  rw [hn] at HO1 HO2 hnm ⊢
  have hn1 : n ≤ cl.length := by omega
  have hn2 : cl.length ≤ n := by omega
  have HNN := Lib.hid hn
  have hnn : n ≤ 9223372036854775807 := hnm
  clear hn hb1 hb3 hb13 hb4 hb14 hb5 hb15 hb6 hb16 hown1 hown2 hown3 hcl hc1 hc3 hc4 hc5 hf1 hf3 hf4 hf5 hs1 hs3 hs4 hs5 K6 PL CO BE CR
  go_loopw [9, 10] (fun bv i wr => ∃ k : Nat, k ≤ n ∧ i = .int .i64 k ∧ bv = .bool ((cl.take k).any fun p => decide (p.1 ≤ q) && decide (q < p.2)) ∧ Below w6.heap.size w6 wr) (fun _ i _ => n - (intOf i).toNat)
  case atStart => exact ⟨0, Nat.zero_le _, rfl, rfl, Below.refl _ _⟩
  case round =>
    obtain ⟨k, hk, rfl, rfl, hbw⟩ := hrel
    have HB := Lib.hid hbw
    have HBW := Lib.hid (HW6.out.trans (hbw.mono HW6.out.size))
    have kB : ∀ o, wr.cell? ⟨w.heap.size, o, none⟩ = w6.cell? ⟨w.heap.size, o, none⟩ := fun o => hbw.cell (p := ⟨w.heap.size, o, none⟩) hs6
    have q0 := (kB 0).trans HQ.out.1; have q1 := (kB 1).trans HQ.out.2.1; have q2 := (kB 2).trans HQ.out.2.2.1; have q3 := (kB 3).trans HQ.out.2.2.2.1; have q4 := (kB 4).trans HQ.out.2.2.2.2.1; have q5 := (kB 5).trans HQ.out.2.2.2.2.2.1; have q6 := (kB 6).trans HQ.out.2.2.2.2.2.2.1; have q7 := (kB 7).trans HQ.out.2.2.2.2.2.2.2
    have hsz := hbw.size
    have QB := Lib.hid (show w.heap.size < wr.heap.size by omega)
    clear kB
    by_cases hlt : k < n
    · have hkl : k < cl.length := by omega
      have hkj : (k : Int) < n := by omega
      have HA := Lib.hid (any_take (q := q) hkl)
      obtain ⟨hp0, hp1, hp2, hps⟩ := (HE _ (List.getElem_mem hkl)).out
      obtain ⟨g1, cap1, e1, -, hg1, -, -, c0, c1, -⟩ := own_cell HO1.out HNN.out.symm hkl
      obtain ⟨g2, cap2, e2, -, hg2, -, -, d0, d1, -⟩ := own_cell HO2.out HNN.out.symm hkl
      injection e1 with e11 _ e13
      injection e2 with e21 _ e23
      subst e11 e13 e21 e23
      rw [Nat.zero_add] at c0 c1 d0 d1
      obtain ⟨x, hx⟩ : ∃ x, cl[k].1 = x := ⟨_, rfl⟩
      obtain ⟨y, hy⟩ : ∃ y, cl[k].2 = y := ⟨_, rfl⟩
      rw [hx] at c0 d0 HA hp0 hp1 hps
      rw [hy] at c1 d1 HA hp1 hp2 hps
      simp only at hp2 hps
      have m0 := (hbw.cell (p := ⟨g1, k * 2, none⟩) hg1).trans c0
      have m1 := (hbw.cell (p := ⟨g1, k * 2 + 1, none⟩) hg1).trans c1
      have r0 := (hbw.cell (p := ⟨g2, k * 2, none⟩) hg2).trans d0
      have r1 := (hbw.cell (p := ⟨g2, k * 2 + 1, none⟩) hg2).trans d1
      have QK := Lib.hid (show g1 < wr.heap.size by omega)
      have hrc : rcK ln wd x 0 y wd = 0 := by
        unfold rcK
        rw [decide_eq_true hp1, decide_eq_true (show (0 : Int) < wd by omega)]
        have h1 : allIn 0 ln [x, y] = true := by rw [allIn_iff]; intro z hz; simp at hz; omega
        have h2 : allIn 0 wd [0, wd] = true := by rw [allIn_iff]; intro z hz; simp at hz; omega
        simp [h1, h2]
      have SS := fun wx hbx => (SO x 0 y wd true hrc hps wx (HBW.out.trans hbx))
      have hST : soundT 0 0 true = .tuple #[.bool true, .int .i64 0] := rfl
      rw [hST] at SS
      clear c0 c1 d0 d1 hx hy hps hbw
      obtain ⟨bv, hbv⟩ : ∃ bv, ((cl.take k).any fun p => decide (p.1 ≤ q) && decide (q < p.2)) = bv := ⟨_, rfl⟩
      rw [hbv] at HA ⊢
      clear hbv
      cases bv
      · by_cases h1 : x ≤ q
        · have h1b : decide (q < x) = false := decide_eq_false (by omega)
          go_wp2
          go_quiet (fail)
          go_wp2
          go_region_held3 (fun wx => Below wr.heap.size wr wx ∧ wx.cell? ⟨w.heap.size, 0, none⟩ = some (.string nm) ∧ wx.cell? ⟨w.heap.size, 1, none⟩ = some (.string sp) ∧ wx.cell? ⟨w.heap.size, 2, none⟩ = some (.int .i64 ln) ∧ wx.cell? ⟨w.heap.size, 3, none⟩ = some (.int .i64 wd) ∧ wx.cell? ⟨w.heap.size, 4, none⟩ = some (.int .i64 th) ∧ wx.cell? ⟨w.heap.size, 5, none⟩ = some (.int .i64 cu) ∧ wx.cell? ⟨w.heap.size, 6, none⟩ = some (.int .i64 mo) ∧ wx.cell? ⟨w.heap.size, 7, none⟩ = some (.slice D dn dc) ∧ wx.cell? ⟨g1, k * 2, none⟩ = some (.int .i64 x) ∧ wx.cell? ⟨g1, k * 2 + 1, none⟩ = some (.int .i64 y)) ((first | (refine ⟨(below_drewN (Below.refl _ _) _).drew, ?_, ?_, ?_, ?_, ?_, ?_, ?_, ?_, ?_, ?_⟩ <;> assumption) | (refine ⟨?_, ?_, ?_, ?_, ?_, ?_, ?_, ?_, ?_, ?_, ?_⟩ <;> assumption) | (apply kept10 <;> first | assumption | exact QB.out | exact QK.out))) (first | (go_at_call 44; refine Calls.mono (SS _ (by first | assumption | exact (below_drewN (Below.refl _ _) _).drew | exact And.left (by assumption))).out ?_; rintro e w' ⟨rfl, hbx⟩))
          obtain ⟨hWx, -⟩ := ‹Below wr.heap.size wr w' ∧ _›
          go_wp2
          go_roundw
          case rel => exact ⟨k + 1, by omega, by go_num, by rw [HA.out]; simp [h1], HB.out.trans (hWx.mono (by omega))⟩
          case measure => first | (simp [intOf]; done) | (simp [intOf]; omega)
        · have h1b : decide (q < x) = true := decide_eq_true (by omega)
          go_wp2
          go_quiet (fail)
          go_wp2
          go_region_held3 (fun wx => Below wr.heap.size wr wx ∧ wx.cell? ⟨w.heap.size, 0, none⟩ = some (.string nm) ∧ wx.cell? ⟨w.heap.size, 1, none⟩ = some (.string sp) ∧ wx.cell? ⟨w.heap.size, 2, none⟩ = some (.int .i64 ln) ∧ wx.cell? ⟨w.heap.size, 3, none⟩ = some (.int .i64 wd) ∧ wx.cell? ⟨w.heap.size, 4, none⟩ = some (.int .i64 th) ∧ wx.cell? ⟨w.heap.size, 5, none⟩ = some (.int .i64 cu) ∧ wx.cell? ⟨w.heap.size, 6, none⟩ = some (.int .i64 mo) ∧ wx.cell? ⟨w.heap.size, 7, none⟩ = some (.slice D dn dc) ∧ wx.cell? ⟨g1, k * 2, none⟩ = some (.int .i64 x) ∧ wx.cell? ⟨g1, k * 2 + 1, none⟩ = some (.int .i64 y)) ((first | (refine ⟨(below_drewN (Below.refl _ _) _).drew, ?_, ?_, ?_, ?_, ?_, ?_, ?_, ?_, ?_, ?_⟩ <;> assumption) | (refine ⟨?_, ?_, ?_, ?_, ?_, ?_, ?_, ?_, ?_, ?_, ?_⟩ <;> assumption) | (apply kept10 <;> first | assumption | exact QB.out | exact QK.out))) (first | (go_at_call 44; refine Calls.mono (SS _ (by first | assumption | exact (below_drewN (Below.refl _ _) _).drew | exact And.left (by assumption))).out ?_; rintro e w' ⟨rfl, hbx⟩))
          obtain ⟨hWx, -⟩ := ‹Below wr.heap.size wr w' ∧ _›
          go_wp2
          go_roundw
          case rel => exact ⟨k + 1, by omega, by go_num, by rw [HA.out]; simp; omega, HB.out.trans (hWx.mono (by omega))⟩
          case measure => first | (simp [intOf]; done) | (simp [intOf]; omega)
      · go_wp2
        go_quiet (fail)
        go_wp2
        go_region_held3 (fun wx => Below wr.heap.size wr wx ∧ wx.cell? ⟨w.heap.size, 0, none⟩ = some (.string nm) ∧ wx.cell? ⟨w.heap.size, 1, none⟩ = some (.string sp) ∧ wx.cell? ⟨w.heap.size, 2, none⟩ = some (.int .i64 ln) ∧ wx.cell? ⟨w.heap.size, 3, none⟩ = some (.int .i64 wd) ∧ wx.cell? ⟨w.heap.size, 4, none⟩ = some (.int .i64 th) ∧ wx.cell? ⟨w.heap.size, 5, none⟩ = some (.int .i64 cu) ∧ wx.cell? ⟨w.heap.size, 6, none⟩ = some (.int .i64 mo) ∧ wx.cell? ⟨w.heap.size, 7, none⟩ = some (.slice D dn dc) ∧ wx.cell? ⟨g1, k * 2, none⟩ = some (.int .i64 x) ∧ wx.cell? ⟨g1, k * 2 + 1, none⟩ = some (.int .i64 y)) ((first | (refine ⟨(below_drewN (Below.refl _ _) _).drew, ?_, ?_, ?_, ?_, ?_, ?_, ?_, ?_, ?_, ?_⟩ <;> assumption) | (refine ⟨?_, ?_, ?_, ?_, ?_, ?_, ?_, ?_, ?_, ?_, ?_⟩ <;> assumption) | (apply kept10 <;> first | assumption | exact QB.out | exact QK.out))) (first | (go_at_call 44; refine Calls.mono (SS _ (by first | assumption | exact (below_drewN (Below.refl _ _) _).drew | exact And.left (by assumption))).out ?_; rintro e w' ⟨rfl, hbx⟩))
        obtain ⟨hWx, -⟩ := ‹Below wr.heap.size wr w' ∧ _›
        go_wp2
        go_roundw
        case rel => exact ⟨k + 1, by omega, by go_num, by rw [HA.out]; simp, HB.out.trans (hWx.mono (by omega))⟩
        case measure => first | (simp [intOf]; done) | (simp [intOf]; omega)
    · have hk' : k = n := by omega
      have hall : cl.take k = cl := List.take_of_length_le (by omega)
      rw [hall]
      obtain ⟨bv, hbv⟩ : ∃ bv, (cl.any fun p => decide (p.1 ≤ q) && decide (q < p.2)) = bv := ⟨_, rfl⟩
      rw [hbv]
      subst hk'
      clear hbw
      cases hin : inB 0 (ln - 1) q
      · go_wp2_with (go_at_call 39; refine Calls.mono (rwithin_any hin _) ?_; rintro e w7 ⟨rfl, rfl⟩)
        go_ret
        exact ⟨rfl, HBL.out.trans (HBW.out.mono (by simp))⟩
      · have hq := inB_iff.1 hin
        have hv := (clear_at HBO.out HCL.out (a := q) hq.1 (by simp only; omega)).trans hbv
        have hrc : rcK ln wd q 0 (q + 1) wd = 0 := by
          unfold rcK
          rw [decide_eq_true (show q < q + 1 by omega), decide_eq_true (show (0 : Int) < wd by omega)]
          have h1 : allIn 0 ln [q, q + 1] = true := by rw [allIn_iff]; intro z hz; simp at hz; omega
          have h2 : allIn 0 wd [0, wd] = true := by rw [allIn_iff]; intro z hz; simp at hz; omega
          simp [h1, h2]
        have SS := fun wx hbx => (SO q 0 (q + 1) wd bv hrc hv wx (HBW.out.trans hbx))
        have hST : soundT 0 0 bv = .tuple #[.bool bv, .int .i64 0] := rfl
        rw [hST] at SS
        go_wp2_with (first | (go_at_call 39; refine Calls.mono (rwithin_any hin _) ?_; rintro e w7 ⟨rfl, rfl⟩) | (go_at_call 44; refine Calls.mono (SS _ (Below.refl _ _)).out ?_; rintro e w8 ⟨rfl, hb8⟩))
        go_ret
        exact ⟨by simp, HBL.out.trans ((HBW.out.mono (by simp)).trans (hb8.mono (by have := HBW.out.size; simp at this; omega)))⟩
theorem lclear_law (bd : Bd) (D : Option Addr) (dn dc : Nat) (q : Int) (hb : bd.nm.size ≤ maxLen ∧ bd.sp.size ≤ maxLen ∧ dn ≤ maxLen ∧ dn ≤ dc) (w : World) (hr : RcRow w D dn bd.df) :
    Calls Try.prog 11 #[.agg #[.string bd.nm, .string bd.sp, .int .i64 bd.ln, .int .i64 bd.wd, .int .i64 bd.th, .int .i64 bd.cu, .int .i64 bd.mo, .slice D dn dc], .int .i64 q] w fun e w' => e = .returned (.bool true) ∧ Below w.heap.size w w' := by
  obtain ⟨nm, sp, ln, wd, th, cu, mo, ds⟩ := bd
  simp only at hb hr ⊢
  cases hp : plainB nm sp dn
  · exact lclear_skip hp hb.1 hb.2.1 hb.2.2.1 w
  · by_cases hc : bdCode ⟨nm, sp, ln, wd, th, cu, mo, ds⟩ = 0
    · exact lclear_ok hp hc hb.1 hb.2.1 hb.2.2.1 w hr hb.2.2.2
    · exact lclear_err hp rfl hc hb.1 hb.2.1 hb.2.2.1 w hr hb.2.2.2
end Go.Proofs.Ytnjbhidncicfiaa
