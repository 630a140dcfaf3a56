/- Walks over the timber seat: TimberRates. -/
import Derived.Test.YtnjbhidncicfiaaS2
import Derived.Test.YtnjbhidncicfiaaW9
import Derived.Test.YtnjbhidncicfiaaMT
namespace Go.Proofs.Ytnjbhidncicfiaa
open Go.RowKit

def rateN (al ac ra cut axis : Int) : Int := if axis = 0 then al else if axis = 1 then (if cut = 0 then ac else ra) else (if cut = 0 then ra else ac)
def rateE (code cut axis : Int) : Int := if code = 0 then (bif inB 0 1 cut && inB 0 2 axis then 0 else 2) else code
def rateV (code al ac ra cut axis : Int) : Int := if code = 0 then (bif inB 0 1 cut && inB 0 2 axis then rateN al ac ra cut axis else 0) else 0
def rateT (code al ac ra cut axis : Int) : Value := .tuple #[.int .i64 (rateV code al ac ra cut axis), .int .i64 (rateE code cut axis)]
theorem rateT_err {code al ac ra cut axis : Int} (h : code ≠ 0) : rateT code al ac ra cut axis = .tuple #[.int .i64 0, .int .i64 code] := by unfold rateT rateV rateE; rw [if_neg h, if_neg h]
theorem rateT_range {code al ac ra cut axis : Int} (h : code = 0) (h2 : (inB 0 1 cut && inB 0 2 axis) = false) : rateT code al ac ra cut axis = .tuple #[.int .i64 0, .int .i64 2] := by unfold rateT rateV rateE; rw [if_pos h, if_pos h, h2]; rfl
theorem rateT_ok {code al ac ra cut axis : Int} (h : code = 0) (h2 : (inB 0 1 cut && inB 0 2 axis) = true) : rateT code al ac ra cut axis = .tuple #[.int .i64 (rateN al ac ra cut axis), .int .i64 0] := by unfold rateT rateV rateE; rw [if_pos h, if_pos h, h2]; rfl
theorem ret_v {a b : Value} (h : a = b) : Ending.returned a = .returned b := by rw [h]
theorem rateOf_zero {nm : ByteArray} {al ac ra de st sr : Int} (w : World) :
    Calls Try.prog 80 #[.agg #[.string nm, .int .i64 al, .int .i64 ac, .int .i64 ra, .int .i64 de, .int .i64 st, .int .i64 sr], .int .i64 0] w fun e w' => e = .returned (.agg #[.int .i64 al, .int .i64 ac, .int .i64 ra]) ∧ Below w.heap.size w w' := rateOf_any 0 w
theorem rateOf_one {nm : ByteArray} {al ac ra de st sr : Int} (w : World) :
    Calls Try.prog 80 #[.agg #[.string nm, .int .i64 al, .int .i64 ac, .int .i64 ra, .int .i64 de, .int .i64 st, .int .i64 sr], .int .i64 1] w fun e w' => e = .returned (.agg #[.int .i64 al, .int .i64 ra, .int .i64 ac]) ∧ Below w.heap.size w w' := rateOf_any 1 w

theorem run_index72 (x y z i v : Int) (h : (i = 0 ∧ v = x) ∨ (i = 1 ∧ v = y) ∨ (i = 2 ∧ v = z)) (w : World) :
    (Instr.index 72 (.agg #[.int .i64 x, .int .i64 y, .int .i64 z]) (.int .i64 i)).run Try.prog w = .ok (.int .i64 v) w := by
  rcases h with ⟨rfl, rfl⟩ | ⟨rfl, rfl⟩ | ⟨rfl, rfl⟩
  all_goals
    simp [Instr.index, run_underlying Try.underlying72, Result.andThen, asIntOf, go_sem]
set_option maxHeartbeats 1000000 in
set_option maxRecDepth 20000 in
theorem rate_any {nm : ByteArray} {al ac ra de st sr : Int} (cut axis : Int) (hn : nm.size ≤ maxLen) (w : World) :
    Calls Try.prog 30 #[.agg #[.string nm, .int .i64 al, .int .i64 ac, .int .i64 ra, .int .i64 de, .int .i64 st, .int .i64 sr], .int .i64 cut, .int .i64 axis] w fun e w' => e = .returned (rateT (spCode ⟨nm, al, ac, ra, de, st, sr⟩) al ac ra cut axis) ∧ Below w.heap.size w w' := by
  by_cases hc : spCode ⟨nm, al, ac, ra, de, st, sr⟩ = 0
  · have CO := fun wx => Lib.hid (checkOne_any (w := wx) hc hn)
    have HC := Lib.hid hc
    clear hc
    cases h1 : inB 0 1 cut
    · have X1 := Lib.hid ((allIn_one 0 1 cut).trans h1)
      have HT := Lib.hid (rateT_range (al := al) (ac := ac) (ra := ra) (axis := axis) HC.out (by rw [h1]; rfl))
      clear h1
      go_enter Try.func30, Try.ntmps30
      go_wp2_with (first | (go_at_call 78; (refine Calls.mono (CO _).out ?_); rintro e w1 ⟨rfl, hb1⟩; have hs1 : w.heap.size < w1.heap.size := (by have := hb1.size; (try simp at this); omega); obtain ⟨hc1, hf1⟩ := bcell hb1) | (go_at_call 79; (with_reducible refine (within_one X1.out _ _).mono ?_); rintro e w2 ⟨rfl, hb2⟩; have hs2 : w.heap.size < w2.heap.size := (by have := hb2.size; (try simp at this); omega); obtain ⟨hc2, hf2⟩ := bcell hb2))
      go_ret2
      exact ⟨ret_v HT.out.symm, ((((Below.refl _ _).alloc (Nat.le_refl _) _).trans (hb1.mono (by first | omega | (simp; omega) | simp))).trans (hb2.mono (by first | omega | (simp; omega) | simp)))⟩
    · cases h2 : inB 0 2 axis
      · have X1 := Lib.hid ((allIn_one 0 1 cut).trans h1)
        have X2 := Lib.hid ((allIn_one 0 2 axis).trans h2)
        have HT := Lib.hid (rateT_range (al := al) (ac := ac) (ra := ra) HC.out (by rw [h1, h2]; rfl))
        clear h1 h2
        go_enter Try.func30, Try.ntmps30
        go_wp2_with (first | (go_at_call 78; (refine Calls.mono (CO _).out ?_); rintro e w1 ⟨rfl, hb1⟩; have hs1 : w.heap.size < w1.heap.size := (by have := hb1.size; (try simp at this); omega); obtain ⟨hc1, hf1⟩ := bcell hb1) | (go_at_call 79; (with_reducible refine (within_one X1.out _ _).mono ?_); rintro e w2 ⟨rfl, hb2⟩; have hs2 : w.heap.size < w2.heap.size := (by have := hb2.size; (try simp at this); omega); obtain ⟨hc2, hf2⟩ := bcell hb2) | (go_at_call 79; (with_reducible refine (within_one X2.out _ _).mono ?_); rintro e w3 ⟨rfl, hb3⟩; have hs3 : w.heap.size < w3.heap.size := (by have := hb3.size; (try simp at this); omega); obtain ⟨hc3, hf3⟩ := bcell hb3))
        go_ret2
        exact ⟨ret_v HT.out.symm, (((((Below.refl _ _).alloc (Nat.le_refl _) _).trans (hb1.mono (by first | omega | (simp; omega) | simp))).trans (hb2.mono (by first | omega | (simp; omega) | simp))).trans (hb3.mono (by first | omega | (simp; omega) | simp)))⟩
      · have X1 := Lib.hid ((allIn_one 0 1 cut).trans h1)
        have X2 := Lib.hid ((allIn_one 0 2 axis).trans h2)
        have HT := Lib.hid (rateT_ok (al := al) (ac := ac) (ra := ra) HC.out (by rw [h1, h2]; rfl))
        rw [inB_iff] at h1 h2
        obtain rfl | rfl : cut = 0 ∨ cut = 1 := by omega
        all_goals
          obtain rfl | rfl | rfl : axis = 0 ∨ axis = 1 ∨ axis = 2 := by omega
          all_goals
            clear h1 h2
            have hix := run_index72 al ac ra _ _ (.inl ⟨rfl, rfl⟩)
            have hiy := run_index72 al ac ra _ _ (.inr (.inl ⟨rfl, rfl⟩))
            have hiz := run_index72 al ac ra _ _ (.inr (.inr ⟨rfl, rfl⟩))
            have hjy := run_index72 al ra ac _ _ (.inr (.inl ⟨rfl, rfl⟩))
            have hjx := run_index72 al ra ac _ _ (.inl ⟨rfl, rfl⟩)
            have hjz := run_index72 al ra ac _ _ (.inr (.inr ⟨rfl, rfl⟩))
            go_enter Try.func30, Try.ntmps30
            go_wp2_with (first | (go_at_call 78; (refine Calls.mono (CO _).out ?_); rintro e w1 ⟨rfl, hb1⟩; have hs1 : w.heap.size < w1.heap.size := (by have := hb1.size; (try simp at this); omega); obtain ⟨hc1, hf1⟩ := bcell hb1) | (go_at_call 79; (with_reducible refine (within_one X1.out _ _).mono ?_); rintro e w2 ⟨rfl, hb2⟩; have hs2 : w.heap.size < w2.heap.size := (by have := hb2.size; (try simp at this); omega); obtain ⟨hc2, hf2⟩ := bcell hb2) | (go_at_call 79; (with_reducible refine (within_one X2.out _ _).mono ?_); rintro e w3 ⟨rfl, hb3⟩; have hs3 : w.heap.size < w3.heap.size := (by have := hb3.size; (try simp at this); omega); obtain ⟨hc3, hf3⟩ := bcell hb3) | (go_at_call 80; (first | (with_reducible refine (rateOf_zero _).mono ?_) | (with_reducible refine (rateOf_one _).mono ?_)); rintro e w4 ⟨rfl, hb4⟩))
            go_ret2
            exact ⟨ret_v (by rw [HT.out]; rfl), ((((((Below.refl _ _).alloc (Nat.le_refl _) _).trans (hb1.mono (by first | omega | (simp; omega) | simp))).trans (hb2.mono (by first | omega | (simp; omega) | simp))).trans (hb3.mono (by first | omega | (simp; omega) | simp))).trans (hb4.mono (by first | omega | (simp; omega) | simp)))⟩
  · have CO := fun wx => Lib.hid (checkOne_any (nm := nm) (al := al) (ac := ac) (ra := ra) (de := de) (st := st) (sr := sr) (w := wx) rfl hn)
    have HT := Lib.hid (rateT_err (al := al) (ac := ac) (ra := ra) (cut := cut) (axis := axis) hc)
    obtain ⟨c, hcc⟩ : ∃ c, spCode ⟨nm, al, ac, ra, de, st, sr⟩ = c := ⟨_, rfl⟩
    rw [hcc] at hc HT ⊢; simp only [hcc] at CO
    clear hcc
    go_enter Try.func30, Try.ntmps30
    go_wp2_with (go_at_call 78; (refine Calls.mono (CO _).out ?_); rintro e w1 ⟨rfl, hb1⟩; have hs1 : w.heap.size < w1.heap.size := (by have := hb1.size; (try simp at this); omega); obtain ⟨hc1, hf1⟩ := bcell hb1)
    go_ret2
    exact ⟨ret_v HT.out.symm, (((Below.refl _ _).alloc (Nat.le_refl _) _).trans (hb1.mono (by first | omega | (simp; omega) | simp)))⟩
set_option maxHeartbeats 1000000 in
theorem rrate_any {nm : ByteArray} {al ac ra de st sr : Int} (cut axis : Int) (hn : nm.size ≤ maxLen) (w : World) :
    Calls Try.prog 31 #[.agg #[.string nm, .int .i64 al, .int .i64 ac, .int .i64 ra, .int .i64 de, .int .i64 st, .int .i64 sr], .int .i64 cut, .int .i64 axis] w fun e w' => e = .returned (rateT (spCode ⟨nm, al, ac, ra, de, st, sr⟩) al ac ra cut axis) ∧ Below w.heap.size w w' := by
  by_cases hc : spCode ⟨nm, al, ac, ra, de, st, sr⟩ = 0
  · have CO := fun wx => Lib.hid (rspErr_any (w := wx) hc hn)
    have HC := Lib.hid hc
    clear hc
    cases h1 : inB 0 1 cut
    · have X1 := Lib.hid h1
      have HT := Lib.hid (rateT_range (al := al) (ac := ac) (ra := ra) (axis := axis) HC.out (by rw [h1]; rfl))
      clear h1
      go_enter Try.func31, Try.ntmps31
      go_wp2_with (first | (go_at_call 75; (refine Calls.mono (CO _).out ?_); rintro e w1 ⟨rfl, hb1⟩; have hs1 : w.heap.size < w1.heap.size := (by have := hb1.size; (try simp at this); omega); obtain ⟨hc1, hf1⟩ := bcell hb1) | (go_at_call 39; (with_reducible refine (rwithin_any X1.out _).mono ?_); rintro e w2 ⟨rfl, rfl⟩))
      go_ret2
      exact ⟨ret_v HT.out.symm, (((Below.refl _ _).alloc (Nat.le_refl _) _).trans (hb1.mono (by first | omega | (simp; omega) | simp)))⟩
    · cases h2 : inB 0 2 axis
      · have X1 := Lib.hid h1
        have X2 := Lib.hid h2
        have HT := Lib.hid (rateT_range (al := al) (ac := ac) (ra := ra) HC.out (by rw [h1, h2]; rfl))
        clear h1 h2
        go_enter Try.func31, Try.ntmps31
        go_wp2_with (first | (go_at_call 75; (refine Calls.mono (CO _).out ?_); rintro e w1 ⟨rfl, hb1⟩; have hs1 : w.heap.size < w1.heap.size := (by have := hb1.size; (try simp at this); omega); obtain ⟨hc1, hf1⟩ := bcell hb1) | (go_at_call 39; (first | (with_reducible refine (rwithin_any X1.out _).mono ?_) | (with_reducible refine (rwithin_any X2.out _).mono ?_)); rintro e w2 ⟨rfl, rfl⟩))
        go_ret2
        exact ⟨ret_v HT.out.symm, (((Below.refl _ _).alloc (Nat.le_refl _) _).trans (hb1.mono (by first | omega | (simp; omega) | simp)))⟩
      · have X1 := Lib.hid h1
        have X2 := Lib.hid h2
        have HT := Lib.hid (rateT_ok (al := al) (ac := ac) (ra := ra) HC.out (by rw [h1, h2]; rfl))
        rw [inB_iff] at h1 h2
        obtain rfl | rfl : cut = 0 ∨ cut = 1 := by omega
        all_goals
          obtain rfl | rfl | rfl : axis = 0 ∨ axis = 1 ∨ axis = 2 := by omega
          all_goals
            clear h1 h2
            go_enter Try.func31, Try.ntmps31
            go_wp2_with (first | (go_at_call 75; (refine Calls.mono (CO _).out ?_); rintro e w1 ⟨rfl, hb1⟩; have hs1 : w.heap.size < w1.heap.size := (by have := hb1.size; (try simp at this); omega); obtain ⟨hc1, hf1⟩ := bcell hb1) | (go_at_call 39; (first | (with_reducible refine (rwithin_any X1.out _).mono ?_) | (with_reducible refine (rwithin_any X2.out _).mono ?_)); rintro e w2 ⟨rfl, rfl⟩))
            go_ret2
            exact ⟨ret_v (by rw [HT.out]; rfl), (((Below.refl _ _).alloc (Nat.le_refl _) _).trans (hb1.mono (by first | omega | (simp; omega) | simp)))⟩
  · have CO := fun wx => Lib.hid (rspErr_any (nm := nm) (al := al) (ac := ac) (ra := ra) (de := de) (st := st) (sr := sr) (w := wx) rfl hn)
    have HT := Lib.hid (rateT_err (al := al) (ac := ac) (ra := ra) (cut := cut) (axis := axis) hc)
    obtain ⟨c, hcc⟩ : ∃ c, spCode ⟨nm, al, ac, ra, de, st, sr⟩ = c := ⟨_, rfl⟩
    rw [hcc] at hc HT ⊢; simp only [hcc] at CO
    clear hcc
    go_enter Try.func31, Try.ntmps31
    go_wp2_with (go_at_call 75; (refine Calls.mono (CO _).out ?_); rintro e w1 ⟨rfl, hb1⟩; have hs1 : w.heap.size < w1.heap.size := (by have := hb1.size; (try simp at this); omega); obtain ⟨hc1, hf1⟩ := bcell hb1)
    go_ret2
    exact ⟨ret_v HT.out.symm, (((Below.refl _ _).alloc (Nat.le_refl _) _).trans (hb1.mono (by first | omega | (simp; omega) | simp)))⟩
set_option maxHeartbeats 1000000 in
theorem rates_any (nm : ByteArray) (al ac ra de st sr cut axis : Int) (hn : nm.size ≤ maxLen) (w : World) :
    Calls Try.prog 5 #[.agg #[.string nm, .int .i64 al, .int .i64 ac, .int .i64 ra, .int .i64 de, .int .i64 st, .int .i64 sr], .int .i64 cut, .int .i64 axis] w fun e w' => e = .returned (.bool true) ∧ Below w.heap.size w w' := by
  have R := fun wx => Lib.hid (rate_any (nm := nm) (al := al) (ac := ac) (ra := ra) (de := de) (st := st) (sr := sr) cut axis hn wx)
  have S := fun wx => Lib.hid (rrate_any (nm := nm) (al := al) (ac := ac) (ra := ra) (de := de) (st := st) (sr := sr) cut axis hn wx)
  unfold rateT at R S
  obtain ⟨v, hv⟩ : ∃ v, rateV (spCode ⟨nm, al, ac, ra, de, st, sr⟩) al ac ra cut axis = v := ⟨_, rfl⟩
  obtain ⟨u, hu⟩ : ∃ u, rateE (spCode ⟨nm, al, ac, ra, de, st, sr⟩) cut axis = u := ⟨_, rfl⟩
  rw [hv, hu] at R S
  clear hv hu
  have hn' : nm.size ≤ 9223372036854775807 := hn
  clear hn
  by_cases hl : nm.size ≤ 30
  all_goals
    go_enter Try.func5, Try.ntmps5
    go_wp2_with (first | (go_at_call 18; refine (awake_any _).mono ?_; rintro e w1 ⟨rfl, hb1⟩; have hs1 : w.heap.size < w1.heap.size := (by have := hb1.size; (try simp at this); omega); obtain ⟨hc1, hf1⟩ := bcell hb1) | (go_at_call 30; (refine Calls.mono (R _).out ?_); rintro e w2 ⟨rfl, hb2⟩; have hs2 : w.heap.size < w2.heap.size := (by have := hb2.size; (try simp at this); omega); obtain ⟨hc2, hf2⟩ := bcell hb2) | (go_at_call 31; (refine Calls.mono (S _).out ?_); rintro e w3 ⟨rfl, hb3⟩; have hs3 : w.heap.size < w3.heap.size := (by have := hb3.size; (try simp at this); omega); obtain ⟨hc3, hf3⟩ := bcell hb3))
    go_ret
    first | exact ⟨rfl, (((((Below.refl _ _).alloc (Nat.le_refl _) _).trans (hb1.mono (by first | omega | (simp; omega) | simp))).trans (hb2.mono (by first | omega | (simp; omega) | simp))).trans (hb3.mono (by first | omega | (simp; omega) | simp)))⟩ | exact ⟨rfl, (((Below.refl _ _).alloc (Nat.le_refl _) _).trans (hb1.mono (by first | omega | (simp; omega) | simp)))⟩
end Go.Proofs.Ytnjbhidncicfiaa
