/- Walks over the timber seat: the reference's boards. -/
import Derived.Test.YtnjbhidncicfiaaB2
import Derived.Deep.RegionHeld3
namespace Go.Proofs.Ytnjbhidncicfiaa
open Go.RowKit

theorem kept12 {W wx w' : World} {b blk off : Nat} {v0 v1 v2 v3 v4 v5 v6 v7 v8 v9 v10 v11 : Value} (hb : Below wx.heap.size wx w') (h : Below W.heap.size W wx ∧ wx.cell? ⟨b, 0, none⟩ = some v0 ∧ wx.cell? ⟨b, 1, none⟩ = some v1 ∧ wx.cell? ⟨b, 2, none⟩ = some v2 ∧ wx.cell? ⟨b, 3, none⟩ = some v3 ∧ wx.cell? ⟨b, 4, none⟩ = some v4 ∧ wx.cell? ⟨b, 5, none⟩ = some v5 ∧ wx.cell? ⟨b, 6, none⟩ = some v6 ∧ wx.cell? ⟨b, 7, none⟩ = some v7 ∧ wx.cell? ⟨blk, off, none⟩ = some v8 ∧ wx.cell? ⟨blk, off + 1, none⟩ = some v9 ∧ wx.cell? ⟨blk, off + 2, none⟩ = some v10 ∧ wx.cell? ⟨blk, off + 3, none⟩ = some v11)
    (h0 : b < W.heap.size) (h1 : blk < W.heap.size) : Below W.heap.size W w' ∧ w'.cell? ⟨b, 0, none⟩ = some v0 ∧ w'.cell? ⟨b, 1, none⟩ = some v1 ∧ w'.cell? ⟨b, 2, none⟩ = some v2 ∧ w'.cell? ⟨b, 3, none⟩ = some v3 ∧ w'.cell? ⟨b, 4, none⟩ = some v4 ∧ w'.cell? ⟨b, 5, none⟩ = some v5 ∧ w'.cell? ⟨b, 6, none⟩ = some v6 ∧ w'.cell? ⟨b, 7, none⟩ = some v7 ∧ w'.cell? ⟨blk, off, none⟩ = some v8 ∧ w'.cell? ⟨blk, off + 1, none⟩ = some v9 ∧ w'.cell? ⟨blk, off + 2, none⟩ = some v10 ∧ w'.cell? ⟨blk, off + 3, none⟩ = some v11 := by
  obtain ⟨a, c0, c1, c2, c3, c4, c5, c6, c7, c8, c9, c10, c11⟩ := h
  have hs := a.size
  have k : ∀ b o, b < W.heap.size → w'.cell? ⟨b, o, none⟩ = wx.cell? ⟨b, o, none⟩ := fun b o hlt => hb.cell (p := ⟨b, o, none⟩) (Nat.lt_of_lt_of_le hlt hs)
  exact ⟨a.trans (hb.mono hs), by rw [k _ _ h0, c0], by rw [k _ _ h0, c1], by rw [k _ _ h0, c2], by rw [k _ _ h0, c3], by rw [k _ _ h0, c4], by rw [k _ _ h0, c5], by rw [k _ _ h0, c6], by rw [k _ _ h0, c7], by rw [k _ _ h1, c8], by rw [k _ _ h1, c9], by rw [k _ _ h1, c10], by rw [k _ _ h1, c11]⟩
set_option maxHeartbeats 1000000 in
theorem whole_any {nm sp : ByteArray} {ln wd th cu mo : Int} {D : Option Addr} {dn dc : Nat} (w : World) :
    Calls Try.prog 49 #[.agg #[.string nm, .string sp, .int .i64 ln, .int .i64 wd, .int .i64 th, .int .i64 cu, .int .i64 mo, .slice D dn dc]] w fun e w' => e = .returned (.agg #[.int .i64 0, .int .i64 0, .int .i64 ln, .int .i64 wd]) ∧ Below w.heap.size w w' := by
  go_enter Try.func49, Try.ntmps49
  go_wp2
  refine bodyPost_ret (v := .agg #[.int .i64 0, .int .i64 0, .int .i64 ln, .int .i64 wd]) (by simp [results, Try.results49, go_sem]) rfl ⟨rfl, ?_⟩
  go_grown
def insideB (a b c d x y u v : Int) : Bool := decide (x ≤ a) && (decide (c ≤ u) && (decide (y ≤ b) && decide (d ≤ v)))
set_option maxHeartbeats 1000000 in
theorem inside_any {a b c d x y u v : Int} {r : Bool} (hr : insideB a b c d x y u v = r) (w : World) :
    Calls Try.prog 48 #[.agg #[.int .i64 a, .int .i64 b, .int .i64 c, .int .i64 d], .agg #[.int .i64 x, .int .i64 y, .int .i64 u, .int .i64 v]] w fun e w' => e = .returned (.bool r) ∧ Below w.heap.size w w' := by
  have R := Lib.hid hr
  clear hr
  go_enter Try.func48, Try.ntmps48
  go_wp2
  all_goals
    go_ret
    refine ⟨ret_bool ?_, by go_grown⟩
    rw [← R.out]
    unfold insideB
    rw [Bool.eq_iff_iff]
    simp
    omega
def formE (x1 y1 x2 y2 : Int) : Int := bif decide (x1 < x2) && decide (y1 < y2) then 0 else 3
set_option maxHeartbeats 1000000 in
theorem rectErr_any {x1 y1 x2 y2 c : Int} (hc : formE x1 y1 x2 y2 = c) (w : World) :
    Calls Try.prog 47 #[.agg #[.int .i64 x1, .int .i64 y1, .int .i64 x2, .int .i64 y2]] w fun e w' => e = .returned (.int .i64 c) ∧ Below w.heap.size w w' := by
  have HC := Lib.hid hc
  clear hc
  by_cases hx : x1 < x2
  · by_cases hy : y1 < y2
    · have HV : Hid (0 = c) := Lib.hid (by rw [← HC.out]; unfold formE; rw [decide_eq_true hx, decide_eq_true hy]; rfl)
      go_enter Try.func47, Try.ntmps47
      go_wp2
      go_ret
      exact ⟨ret_int HV.out, by go_grown⟩
    · have HV : Hid (3 = c) := Lib.hid (by rw [← HC.out]; unfold formE; rw [decide_eq_false hy, Bool.and_false]; rfl)
      go_enter Try.func47, Try.ntmps47
      go_wp2
      go_ret
      exact ⟨ret_int HV.out, by go_grown⟩
  · have HV : Hid (3 = c) := Lib.hid (by rw [← HC.out]; unfold formE; rw [decide_eq_false hx, Bool.false_and]; rfl)
    go_enter Try.func47, Try.ntmps47
    go_wp2
    go_ret
    exact ⟨ret_int HV.out, by go_grown⟩
theorem rcK_form {ln wd x1 y1 x2 y2 : Int} (h : formE x1 y1 x2 y2 ≠ 0) : rcK ln wd x1 y1 x2 y2 = formE x1 y1 x2 y2 := by
  unfold rcK formE at *
  cases hf : decide (x1 < x2) && decide (y1 < y2)
  · rfl
  · rw [hf] at h; exact absurd rfl h
theorem rcK_ok {ln wd x1 y1 x2 y2 : Int} (h : formE x1 y1 x2 y2 = 0) : rcK ln wd x1 y1 x2 y2 = bif insideB x1 y1 x2 y2 0 0 ln wd then 0 else 2 := by
  unfold rcK
  unfold formE at h
  cases hf : decide (x1 < x2) && decide (y1 < y2)
  · rw [hf] at h; cases h
  · rw [Bool.and_eq_true] at hf
    have h1 := of_decide_eq_true hf.1
    have h2 := of_decide_eq_true hf.2
    have e : (allIn 0 ln [x1, x2] && allIn 0 wd [y1, y2]) = insideB x1 y1 x2 y2 0 0 ln wd := by
      rw [Bool.eq_iff_iff, Bool.and_eq_true, allIn_iff, allIn_iff]
      unfold insideB
      simp
      omega
    rw [e]; rfl
theorem bdCode_req (nm sp : ByteArray) (ln wd th cu mo : Int) (ds : List Rc) : bdCode ⟨nm, sp, ln, wd, th, cu, mo, ds⟩ = bif nameB nm then (bif nameB sp then (bif inB 1 600000 ln then (bif inB 1 100000 wd then (bif inB 1 20000 th then (bif inB 0 1 cu then (bif inB 0 400 mo then (bif decide (60 < ds.length) then 8 else rcsFrom ⟨nm, sp, ln, wd, th, cu, mo, ds⟩ ds) else 2) else 2) else 2) else 2) else 2) else 4) else 4 := by
  rw [bdCode_eq, allIn_one, allIn_one, allIn_one, allIn_one, allIn_one]
set_option maxHeartbeats 4000000 in
theorem rboardErr_any {nm sp : ByteArray} {ln wd th cu mo : Int} {D : Option Addr} {dn dc : Nat} {ds : List Rc} {c : Int} (hc : bdCode ⟨nm, sp, ln, wd, th, cu, mo, ds⟩ = c) (hn1 : nm.size ≤ maxLen) (hn2 : sp.size ≤ maxLen) (hdn : dn ≤ maxLen) (w : World) (hr : RcRow w D dn ds) :
    Calls Try.prog 45 #[.agg #[.string nm, .string sp, .int .i64 ln, .int .i64 wd, .int .i64 th, .int .i64 cu, .int .i64 mo, .slice D dn dc]] w fun e w' => e = .returned (.int .i64 c) ∧ Below w.heap.size w w' := by
  have HR := Lib.hid hr
  have hdl := hr.1
  have hdn' : dn ≤ 9223372036854775807 := hdn
  have HC := Lib.hid ((bdCode_req nm sp ln wd th cu mo ds).symm.trans hc)
  clear hc hr
  cases g1 : nameB nm
  · have NM1 := fun wx => Lib.hid (rname_any (w := wx) g1 hn1)
    have G1 := Lib.hid g1; clear g1
    go_enter Try.func45, Try.ntmps45
    go_wp2_with (first | (go_at_call 93; (first | (with_reducible refine Calls.mono (NM1 _).out ?_)); rintro e w' ⟨rfl, rfl⟩))
    go_ret
    exact ⟨ret_int (by rw [← HC.out, G1.out]; rfl), (Below.refl _ _).alloc (Nat.le_refl _) _⟩
  · have NM1 := fun wx => Lib.hid (rname_any (w := wx) g1 hn1)
    have G1 := Lib.hid g1; clear g1
    cases g2 : nameB sp
    · have NM2 := fun wx => Lib.hid (rname_any (w := wx) g2 hn2)
      have G2 := Lib.hid g2; clear g2
      go_enter Try.func45, Try.ntmps45
      go_wp2_with (first | (go_at_call 93; (first | (with_reducible refine Calls.mono (NM1 _).out ?_) | (with_reducible refine Calls.mono (NM2 _).out ?_)); rintro e w' ⟨rfl, rfl⟩))
      go_ret
      exact ⟨ret_int (by rw [← HC.out, G1.out, G2.out]; rfl), (Below.refl _ _).alloc (Nat.le_refl _) _⟩
    · have NM2 := fun wx => Lib.hid (rname_any (w := wx) g2 hn2)
      have G2 := Lib.hid g2; clear g2
      cases h1 : inB 1 600000 ln
      · have X1 := Lib.hid h1; clear h1
        go_enter Try.func45, Try.ntmps45
        go_wp2_with (first | (go_at_call 93; (first | (with_reducible refine Calls.mono (NM1 _).out ?_) | (with_reducible refine Calls.mono (NM2 _).out ?_)); rintro e w' ⟨rfl, rfl⟩) | (go_at_call 39; (first | (with_reducible refine (rwithin_any X1.out _).mono ?_)); rintro e w' ⟨rfl, rfl⟩))
        go_ret
        exact ⟨ret_int (by rw [← HC.out, G1.out, G2.out, X1.out]; rfl), (Below.refl _ _).alloc (Nat.le_refl _) _⟩
      · have X1 := Lib.hid h1; clear h1
        cases h2 : inB 1 100000 wd
        · have X2 := Lib.hid h2; clear h2
          go_enter Try.func45, Try.ntmps45
          go_wp2_with (first | (go_at_call 93; (first | (with_reducible refine Calls.mono (NM1 _).out ?_) | (with_reducible refine Calls.mono (NM2 _).out ?_)); rintro e w' ⟨rfl, rfl⟩) | (go_at_call 39; (first | (with_reducible refine (rwithin_any X1.out _).mono ?_) | (with_reducible refine (rwithin_any X2.out _).mono ?_)); rintro e w' ⟨rfl, rfl⟩))
          go_ret
          exact ⟨ret_int (by rw [← HC.out, G1.out, G2.out, X1.out, X2.out]; rfl), (Below.refl _ _).alloc (Nat.le_refl _) _⟩
        · have X2 := Lib.hid h2; clear h2
          cases h3 : inB 1 20000 th
          · have X3 := Lib.hid h3; clear h3
            go_enter Try.func45, Try.ntmps45
            go_wp2_with (first | (go_at_call 93; (first | (with_reducible refine Calls.mono (NM1 _).out ?_) | (with_reducible refine Calls.mono (NM2 _).out ?_)); rintro e w' ⟨rfl, rfl⟩) | (go_at_call 39; (first | (with_reducible refine (rwithin_any X1.out _).mono ?_) | (with_reducible refine (rwithin_any X2.out _).mono ?_) | (with_reducible refine (rwithin_any X3.out _).mono ?_)); rintro e w' ⟨rfl, rfl⟩))
            go_ret
            exact ⟨ret_int (by rw [← HC.out, G1.out, G2.out, X1.out, X2.out, X3.out]; rfl), (Below.refl _ _).alloc (Nat.le_refl _) _⟩
          · have X3 := Lib.hid h3; clear h3
            cases h4 : inB 0 1 cu
            · have X4 := Lib.hid h4; clear h4
              go_enter Try.func45, Try.ntmps45
              go_wp2_with (first | (go_at_call 93; (first | (with_reducible refine Calls.mono (NM1 _).out ?_) | (with_reducible refine Calls.mono (NM2 _).out ?_)); rintro e w' ⟨rfl, rfl⟩) | (go_at_call 39; (first | (with_reducible refine (rwithin_any X1.out _).mono ?_) | (with_reducible refine (rwithin_any X2.out _).mono ?_) | (with_reducible refine (rwithin_any X3.out _).mono ?_) | (with_reducible refine (rwithin_any X4.out _).mono ?_)); rintro e w' ⟨rfl, rfl⟩))
              go_ret
              exact ⟨ret_int (by rw [← HC.out, G1.out, G2.out, X1.out, X2.out, X3.out, X4.out]; rfl), (Below.refl _ _).alloc (Nat.le_refl _) _⟩
            · have X4 := Lib.hid h4; clear h4
              cases h5 : inB 0 400 mo
              · have X5 := Lib.hid h5; clear h5
                go_enter Try.func45, Try.ntmps45
                go_wp2_with (first | (go_at_call 93; (first | (with_reducible refine Calls.mono (NM1 _).out ?_) | (with_reducible refine Calls.mono (NM2 _).out ?_)); rintro e w' ⟨rfl, rfl⟩) | (go_at_call 39; (first | (with_reducible refine (rwithin_any X1.out _).mono ?_) | (with_reducible refine (rwithin_any X2.out _).mono ?_) | (with_reducible refine (rwithin_any X3.out _).mono ?_) | (with_reducible refine (rwithin_any X4.out _).mono ?_) | (with_reducible refine (rwithin_any X5.out _).mono ?_)); rintro e w' ⟨rfl, rfl⟩))
                go_ret
                exact ⟨ret_int (by rw [← HC.out, G1.out, G2.out, X1.out, X2.out, X3.out, X4.out, X5.out]; rfl), (Below.refl _ _).alloc (Nat.le_refl _) _⟩
              · have X5 := Lib.hid h5; clear h5
                by_cases h60 : 60 < dn
                · have hd : decide (60 < (dn : Int)) = true := decide_eq_true (by omega)
                  have HV : Hid (8 = c) := Lib.hid (by rw [← HC.out, G1.out, G2.out, X1.out, X2.out, X3.out, X4.out, X5.out, decide_eq_true (show 60 < ds.length by omega)]; rfl)
                  go_enter Try.func45, Try.ntmps45
                  go_wp2_with (first | (go_at_call 93; (first | (with_reducible refine Calls.mono (NM1 _).out ?_) | (with_reducible refine Calls.mono (NM2 _).out ?_)); rintro e w' ⟨rfl, rfl⟩) | (go_at_call 39; (first | (with_reducible refine (rwithin_any X1.out _).mono ?_) | (with_reducible refine (rwithin_any X2.out _).mono ?_) | (with_reducible refine (rwithin_any X3.out _).mono ?_) | (with_reducible refine (rwithin_any X4.out _).mono ?_) | (with_reducible refine (rwithin_any X5.out _).mono ?_)); rintro e w' ⟨rfl, rfl⟩))
                  go_ret
                  exact ⟨ret_int HV.out, (Below.refl _ _).alloc (Nat.le_refl _) _⟩
                · have hd : decide (60 < (dn : Int)) = false := decide_eq_false (by omega)
                  have HV : Hid (rcsFrom ⟨nm, sp, ln, wd, th, cu, mo, ds⟩ (ds.drop 0) = c) := Lib.hid (by rw [← HC.out, G1.out, G2.out, X1.out, X2.out, X3.out, X4.out, X5.out, decide_eq_false (show ¬ 60 < ds.length by omega)]; rfl)
                  go_enter Try.func45, Try.ntmps45
                  go_wp2_with (first | (go_at_call 93; (first | (with_reducible refine Calls.mono (NM1 _).out ?_) | (with_reducible refine Calls.mono (NM2 _).out ?_)); rintro e w' ⟨rfl, rfl⟩) | (go_at_call 39; (first | (with_reducible refine (rwithin_any X1.out _).mono ?_) | (with_reducible refine (rwithin_any X2.out _).mono ?_) | (with_reducible refine (rwithin_any X3.out _).mono ?_) | (with_reducible refine (rwithin_any X4.out _).mono ?_) | (with_reducible refine (rwithin_any X5.out _).mono ?_)); rintro e w' ⟨rfl, rfl⟩))
                  go_loopw [3] (fun i wr => ∃ k : Nat, k ≤ dn ∧ rcsFrom ⟨nm, sp, ln, wd, th, cu, mo, ds⟩ (ds.drop k) = c ∧ i = .int .i64 k ∧ Below w.heap.size w wr ∧ Below (w.heap.size + 1) (w.alloc (.cells #[.string nm, .string sp, .int .i64 ln, .int .i64 wd, .int .i64 th, .int .i64 cu, .int .i64 mo, .slice D dn dc] 34)) wr) (fun i _ => dn - (intOf i).toNat)
                  case atStart => exact ⟨0, Nat.zero_le _, HV.out, rfl, (Below.refl _ _).alloc (Nat.le_refl _) _, Below.refl _ _⟩
                  case round =>
                    obtain ⟨k, hk, ht, rfl, hbw, hiw⟩ := hrel
                    have HT := Lib.hid ht
                    have HB := Lib.hid hbw
                    have HI := Lib.hid hiw
                    clear ht
                    have q : ∀ o, wr.cell? ⟨w.heap.size, o, none⟩ = _ := fun o => hiw.cell (p := ⟨w.heap.size, o, none⟩) (by simp)
                    have q0 := q 0; have q1 := q 1; have q2 := q 2; have q3 := q 3; have q4 := q 4; have q5 := q 5; have q6 := q 6; have q7 := q 7
                    simp [go_sem] at q0 q1 q2 q3 q4 q5 q6 q7
                    have hwr : w.heap.size < wr.heap.size := by have := hiw.size; (try simp at this); omega
                    by_cases hlt : k < dn
                    · have hkl : k < ds.length := by omega
                      obtain ⟨bk, of, rfl, hblk, hx⟩ := HR.out.2 (by omega)
                      have hxx := (hx k hkl).below hbw hblk
                      have HS := Lib.hid (rcs_step (b := ⟨nm, sp, ln, wd, th, cu, mo, ds⟩) hkl)
                      clear hx
                      obtain ⟨r, hr⟩ : ∃ r, ds[k] = r := ⟨_, rfl⟩
                      rw [hr] at hxx HS
                      clear hr
                      obtain ⟨x1, y1, x2, y2⟩ := r
                      obtain ⟨c0, c1, c2, c3⟩ := hxx
                      simp only at c0 c1 c2 c3
                      have hbr : bk < wr.heap.size := Nat.lt_of_lt_of_le hblk hbw.size
                      have HS2 : Hid (c = bif decide (rcK ln wd x1 y1 x2 y2 = 0) then rcsFrom ⟨nm, sp, ln, wd, th, cu, mo, ds⟩ (ds.drop (k + 1)) else rcK ln wd x1 y1 x2 y2) := Lib.hid (by rw [← HT.out, HS.out, rcK_eq])
                      by_cases hz : formE x1 y1 x2 y2 = 0
                      · have RE := fun wx => Lib.hid (rectErr_any (w := wx) hz)
                        have WH := fun wx => Lib.hid (whole_any (nm := nm) (sp := sp) (ln := ln) (wd := wd) (th := th) (cu := cu) (mo := mo) (D := some ⟨bk, of, none⟩) (dn := dn) (dc := dc) wx)
                        have HS3 : Hid (c = bif insideB x1 y1 x2 y2 0 0 ln wd then rcsFrom ⟨nm, sp, ln, wd, th, cu, mo, ds⟩ (ds.drop (k + 1)) else 2) := Lib.hid (by rw [HS2.out, rcK_ok hz]; cases insideB x1 y1 x2 y2 0 0 ln wd <;> rfl)
                        clear q hbw hiw hz
                        cases hin : insideB x1 y1 x2 y2 0 0 ln wd
                        · have IN := fun wx => Lib.hid (inside_any (w := wx) hin)
                          have HI2 := Lib.hid hin
                          clear hin
                          go_wp2_with (go_at_call 47; (refine Calls.mono (RE _).out ?_); rintro e w1 ⟨rfl, hb1⟩)
                          have QB := Lib.hid (show w.heap.size < w1.heap.size from Nat.lt_of_lt_of_le hwr hb1.size)
                          have QK := Lib.hid (show bk < w1.heap.size from Nat.lt_of_lt_of_le hbr hb1.size)
                          have kb : ∀ o, w1.cell? ⟨w.heap.size, o, none⟩ = wr.cell? ⟨w.heap.size, o, none⟩ := fun o => hb1.cell (p := ⟨w.heap.size, o, none⟩) hwr
                          have kk : ∀ o, w1.cell? ⟨bk, o, none⟩ = wr.cell? ⟨bk, o, none⟩ := fun o => hb1.cell (p := ⟨bk, o, none⟩) hbr
                          have z0 := (kb 0).trans q0; have z1 := (kb 1).trans q1; have z2 := (kb 2).trans q2; have z3 := (kb 3).trans q3; have z4 := (kb 4).trans q4; have z5 := (kb 5).trans q5; have z6 := (kb 6).trans q6; have z7 := (kb 7).trans q7
                          have y0' := (kk _).trans c0; have y1' := (kk _).trans c1; have y2' := (kk _).trans c2; have y3' := (kk _).trans c3
                          have HB1 := Lib.hid (HB.out.trans (hb1.mono HB.out.size))
                          have HI1 := Lib.hid (HI.out.trans (hb1.mono (by omega)))
                          clear q0 q1 q2 q3 q4 q5 q6 q7 c0 c1 c2 c3 kb kk hb1
                          go_region_held3 (fun wx => Below w1.heap.size w1 wx ∧ wx.cell? ⟨w.heap.size, 0, none⟩ = some (.string nm) ∧ wx.cell? ⟨w.heap.size, 1, none⟩ = some (.string sp) ∧ wx.cell? ⟨w.heap.size, 2, none⟩ = some (.int .i64 ln) ∧ wx.cell? ⟨w.heap.size, 3, none⟩ = some (.int .i64 wd) ∧ wx.cell? ⟨w.heap.size, 4, none⟩ = some (.int .i64 th) ∧ wx.cell? ⟨w.heap.size, 5, none⟩ = some (.int .i64 cu) ∧ wx.cell? ⟨w.heap.size, 6, none⟩ = some (.int .i64 mo) ∧ wx.cell? ⟨w.heap.size, 7, none⟩ = some (.slice (some ⟨bk, of, none⟩) dn dc) ∧ wx.cell? ⟨bk, of + k * 4, none⟩ = some (.int .i64 x1) ∧ wx.cell? ⟨bk, of + k * 4 + 1, none⟩ = some (.int .i64 y1) ∧ wx.cell? ⟨bk, of + k * 4 + 2, none⟩ = some (.int .i64 x2) ∧ wx.cell? ⟨bk, of + k * 4 + 3, none⟩ = some (.int .i64 y2)) ((first | (refine ⟨(Below.refl _ _).drew, ?_, ?_, ?_, ?_, ?_, ?_, ?_, ?_, ?_, ?_, ?_, ?_⟩ <;> assumption) | (refine ⟨?_, ?_, ?_, ?_, ?_, ?_, ?_, ?_, ?_, ?_, ?_, ?_, ?_⟩ <;> assumption) | (apply kept12 <;> first | assumption | exact QB.out | exact QK.out))) (first | (go_at_call 49; refine Calls.mono (WH _).out ?_; rintro e w' ⟨rfl, hbx⟩) | (go_at_call 48; refine Calls.mono (IN _).out ?_; rintro e w' ⟨rfl, hbx⟩))
                          obtain ⟨hWx, -⟩ := ‹Below w1.heap.size w1 w' ∧ _›
                          have HV2 : Hid (2 = c) := Lib.hid (by rw [HS3.out, HI2.out]; rfl)
                          go_wp2
                          go_ret
                          exact ⟨ret_int HV2.out, HB1.out.trans (hWx.mono HB1.out.size)⟩
                        · have IN := fun wx => Lib.hid (inside_any (w := wx) hin)
                          have HI2 := Lib.hid hin
                          clear hin
                          go_wp2_with (go_at_call 47; (refine Calls.mono (RE _).out ?_); rintro e w1 ⟨rfl, hb1⟩)
                          have QB := Lib.hid (show w.heap.size < w1.heap.size from Nat.lt_of_lt_of_le hwr hb1.size)
                          have QK := Lib.hid (show bk < w1.heap.size from Nat.lt_of_lt_of_le hbr hb1.size)
                          have kb : ∀ o, w1.cell? ⟨w.heap.size, o, none⟩ = wr.cell? ⟨w.heap.size, o, none⟩ := fun o => hb1.cell (p := ⟨w.heap.size, o, none⟩) hwr
                          have kk : ∀ o, w1.cell? ⟨bk, o, none⟩ = wr.cell? ⟨bk, o, none⟩ := fun o => hb1.cell (p := ⟨bk, o, none⟩) hbr
                          have z0 := (kb 0).trans q0; have z1 := (kb 1).trans q1; have z2 := (kb 2).trans q2; have z3 := (kb 3).trans q3; have z4 := (kb 4).trans q4; have z5 := (kb 5).trans q5; have z6 := (kb 6).trans q6; have z7 := (kb 7).trans q7
                          have y0' := (kk _).trans c0; have y1' := (kk _).trans c1; have y2' := (kk _).trans c2; have y3' := (kk _).trans c3
                          have HB1 := Lib.hid (HB.out.trans (hb1.mono HB.out.size))
                          have HI1 := Lib.hid (HI.out.trans (hb1.mono (by omega)))
                          clear q0 q1 q2 q3 q4 q5 q6 q7 c0 c1 c2 c3 kb kk hb1
                          go_region_held3 (fun wx => Below w1.heap.size w1 wx ∧ wx.cell? ⟨w.heap.size, 0, none⟩ = some (.string nm) ∧ wx.cell? ⟨w.heap.size, 1, none⟩ = some (.string sp) ∧ wx.cell? ⟨w.heap.size, 2, none⟩ = some (.int .i64 ln) ∧ wx.cell? ⟨w.heap.size, 3, none⟩ = some (.int .i64 wd) ∧ wx.cell? ⟨w.heap.size, 4, none⟩ = some (.int .i64 th) ∧ wx.cell? ⟨w.heap.size, 5, none⟩ = some (.int .i64 cu) ∧ wx.cell? ⟨w.heap.size, 6, none⟩ = some (.int .i64 mo) ∧ wx.cell? ⟨w.heap.size, 7, none⟩ = some (.slice (some ⟨bk, of, none⟩) dn dc) ∧ wx.cell? ⟨bk, of + k * 4, none⟩ = some (.int .i64 x1) ∧ wx.cell? ⟨bk, of + k * 4 + 1, none⟩ = some (.int .i64 y1) ∧ wx.cell? ⟨bk, of + k * 4 + 2, none⟩ = some (.int .i64 x2) ∧ wx.cell? ⟨bk, of + k * 4 + 3, none⟩ = some (.int .i64 y2)) ((first | (refine ⟨(Below.refl _ _).drew, ?_, ?_, ?_, ?_, ?_, ?_, ?_, ?_, ?_, ?_, ?_, ?_⟩ <;> assumption) | (refine ⟨?_, ?_, ?_, ?_, ?_, ?_, ?_, ?_, ?_, ?_, ?_, ?_, ?_⟩ <;> assumption) | (apply kept12 <;> first | assumption | exact QB.out | exact QK.out))) (first | (go_at_call 49; refine Calls.mono (WH _).out ?_; rintro e w' ⟨rfl, hbx⟩) | (go_at_call 48; refine Calls.mono (IN _).out ?_; rintro e w' ⟨rfl, hbx⟩))
                          obtain ⟨hWx, -⟩ := ‹Below w1.heap.size w1 w' ∧ _›
                          have HV2 : Hid (rcsFrom ⟨nm, sp, ln, wd, th, cu, mo, ds⟩ (ds.drop (k + 1)) = c) := Lib.hid (by rw [HS3.out, HI2.out]; rfl)
                          have hsz1 := QB.out
                          go_wp2
                          go_roundw
                          case rel => exact ⟨k + 1, by omega, HV2.out, by go_num, HB1.out.trans (hWx.mono HB1.out.size), HI1.out.trans (hWx.mono (by have := QB.out; omega))⟩
                          case measure => simp [intOf]; omega
                      · have RE := fun wx => Lib.hid (rectErr_any (x1 := x1) (y1 := y1) (x2 := x2) (y2 := y2) (w := wx) rfl)
                        have HS3 : Hid (c = formE x1 y1 x2 y2) := Lib.hid (by rw [HS2.out, rcK_form hz, decide_eq_false hz]; rfl)
                        obtain ⟨y, hy⟩ : ∃ y, formE x1 y1 x2 y2 = y := ⟨_, rfl⟩
                        rw [hy] at hz HS3
                        simp only [hy] at RE
                        have hyb : (y == 0) = false := beq_eq_false_iff_ne.2 hz
                        clear q hbw hiw hy hz
                        go_wp2_with (go_at_call 47; (refine Calls.mono (RE _).out ?_); rintro e w1 ⟨rfl, hb1⟩)
                        go_ret
                        exact ⟨ret_int HS3.out.symm, HB.out.trans (hb1.mono HB.out.size)⟩
                    · have HV2 : Hid (0 = c) := Lib.hid (by rw [← HT.out, rcs_end (by omega)])
                      have hk' : k = dn := by omega
                      subst hk'
                      clear q hbw hiw
                      go_wp2
                      go_ret
                      exact ⟨ret_int HV2.out, HB.out⟩
end Go.Proofs.Ytnjbhidncicfiaa
