/- Walks over the timber seat: TimberRates. -/
import Derived.Test.YtnjbhidncicfiaaS1
import Derived.Test.YtnjbhidncicfiaaW3
import Derived.Handy
namespace Go.Proofs.Ytnjbhidncicfiaa
open Go.RowKit

theorem spRange_eq (nm : ByteArray) (al ac ra de st sr : Int) : spRange ⟨nm, al, ac, ra, de, st, sr⟩ = (inB 0 2000 al && (inB 0 2000 ac && (inB 0 2000 ra && (inB 1 2000 de && (inB 1 100000 st && inB 1 1000 sr))))) := by
  unfold spRange allIn inB
  simp only [List.any_cons, List.any_nil, Bool.or_false, Bool.not_or, Bool.and_assoc]
set_option maxHeartbeats 1000000 in
theorem rspErr_any {nm : ByteArray} {al ac ra de st sr : Int} {c : Int} (hc : spCode ⟨nm, al, ac, ra, de, st, sr⟩ = c) (hn : nm.size ≤ maxLen) (w : World) :
    Calls Try.prog 75 #[.agg #[.string nm, .int .i64 al, .int .i64 ac, .int .i64 ra, .int .i64 de, .int .i64 st, .int .i64 sr]] w fun e w' => e = .returned (.int .i64 c) ∧ Below w.heap.size w w' := by
  have HC : Hid ((bif nameB nm then (bif inB 0 2000 al && (inB 0 2000 ac && (inB 0 2000 ra && (inB 1 2000 de && (inB 1 100000 st && inB 1 1000 sr)))) then (0 : Int) else 2) else 4) = c) := Lib.hid (by rw [← hc]; unfold spCode; rw [spRange_eq])
  clear hc
  cases h0 : nameB nm
  · have NM := fun wx => Lib.hid (rname_any (w := wx) h0 hn)
    have X0 := Lib.hid h0; clear h0
    go_enter Try.func75, Try.ntmps75
    go_wp2_with (go_at_call 93; (refine Calls.mono (NM _).out ?_); rintro e w' ⟨rfl, rfl⟩)
    go_ret
    exact ⟨ret_int (by rw [← HC.out, X0.out]; rfl), (Below.refl _ _).alloc (Nat.le_refl _) _⟩
  · have NM := fun wx => Lib.hid (rname_any (w := wx) h0 hn)
    have X0 := Lib.hid h0; clear h0
    cases h1 : inB 0 2000 al
    · have X1 := Lib.hid h1; clear h1
      go_enter Try.func75, Try.ntmps75
      go_wp2_with (first | (go_at_call 93; (refine Calls.mono (NM _).out ?_); rintro e w' ⟨rfl, rfl⟩) | (go_at_call 39; (first | (with_reducible refine (rwithin_any X1.out _).mono ?_)); rintro e w' ⟨rfl, rfl⟩))
      go_ret
      exact ⟨ret_int (by rw [← HC.out, X0.out, X1.out]; rfl), (Below.refl _ _).alloc (Nat.le_refl _) _⟩
    · have X1 := Lib.hid h1; clear h1
      cases h2 : inB 0 2000 ac
      · have X2 := Lib.hid h2; clear h2
        go_enter Try.func75, Try.ntmps75
        go_wp2_with (first | (go_at_call 93; (refine Calls.mono (NM _).out ?_); rintro e w' ⟨rfl, rfl⟩) | (go_at_call 39; (first | (with_reducible refine (rwithin_any X1.out _).mono ?_) | (with_reducible refine (rwithin_any X2.out _).mono ?_)); rintro e w' ⟨rfl, rfl⟩))
        go_ret
        exact ⟨ret_int (by rw [← HC.out, X0.out, X1.out, X2.out]; rfl), (Below.refl _ _).alloc (Nat.le_refl _) _⟩
      · have X2 := Lib.hid h2; clear h2
        cases h3 : inB 0 2000 ra
        · have X3 := Lib.hid h3; clear h3
          go_enter Try.func75, Try.ntmps75
          go_wp2_with (first | (go_at_call 93; (refine Calls.mono (NM _).out ?_); rintro e w' ⟨rfl, rfl⟩) | (go_at_call 39; (first | (with_reducible refine (rwithin_any X1.out _).mono ?_) | (with_reducible refine (rwithin_any X2.out _).mono ?_) | (with_reducible refine (rwithin_any X3.out _).mono ?_)); rintro e w' ⟨rfl, rfl⟩))
          go_ret
          exact ⟨ret_int (by rw [← HC.out, X0.out, X1.out, X2.out, X3.out]; rfl), (Below.refl _ _).alloc (Nat.le_refl _) _⟩
        · have X3 := Lib.hid h3; clear h3
          cases h4 : inB 1 2000 de
          · have X4 := Lib.hid h4; clear h4
            go_enter Try.func75, Try.ntmps75
            go_wp2_with (first | (go_at_call 93; (refine Calls.mono (NM _).out ?_); rintro e w' ⟨rfl, rfl⟩) | (go_at_call 39; (first | (with_reducible refine (rwithin_any X1.out _).mono ?_) | (with_reducible refine (rwithin_any X2.out _).mono ?_) | (with_reducible refine (rwithin_any X3.out _).mono ?_) | (with_reducible refine (rwithin_any X4.out _).mono ?_)); rintro e w' ⟨rfl, rfl⟩))
            go_ret
            exact ⟨ret_int (by rw [← HC.out, X0.out, X1.out, X2.out, X3.out, X4.out]; rfl), (Below.refl _ _).alloc (Nat.le_refl _) _⟩
          · have X4 := Lib.hid h4; clear h4
            cases h5 : inB 1 100000 st
            · have X5 := Lib.hid h5; clear h5
              go_enter Try.func75, Try.ntmps75
              go_wp2_with (first | (go_at_call 93; (refine Calls.mono (NM _).out ?_); rintro e w' ⟨rfl, rfl⟩) | (go_at_call 39; (first | (with_reducible refine (rwithin_any X1.out _).mono ?_) | (with_reducible refine (rwithin_any X2.out _).mono ?_) | (with_reducible refine (rwithin_any X3.out _).mono ?_) | (with_reducible refine (rwithin_any X4.out _).mono ?_) | (with_reducible refine (rwithin_any X5.out _).mono ?_)); rintro e w' ⟨rfl, rfl⟩))
              go_ret
              exact ⟨ret_int (by rw [← HC.out, X0.out, X1.out, X2.out, X3.out, X4.out, X5.out]; rfl), (Below.refl _ _).alloc (Nat.le_refl _) _⟩
            · have X5 := Lib.hid h5; clear h5
              cases h6 : inB 1 1000 sr
              · have X6 := Lib.hid h6; clear h6
                go_enter Try.func75, Try.ntmps75
                go_wp2_with (first | (go_at_call 93; (refine Calls.mono (NM _).out ?_); rintro e w' ⟨rfl, rfl⟩) | (go_at_call 39; (first | (with_reducible refine (rwithin_any X1.out _).mono ?_) | (with_reducible refine (rwithin_any X2.out _).mono ?_) | (with_reducible refine (rwithin_any X3.out _).mono ?_) | (with_reducible refine (rwithin_any X4.out _).mono ?_) | (with_reducible refine (rwithin_any X5.out _).mono ?_) | (with_reducible refine (rwithin_any X6.out _).mono ?_)); rintro e w' ⟨rfl, rfl⟩))
                go_ret
                exact ⟨ret_int (by rw [← HC.out, X0.out, X1.out, X2.out, X3.out, X4.out, X5.out, X6.out]; rfl), (Below.refl _ _).alloc (Nat.le_refl _) _⟩
              · have X6 := Lib.hid h6; clear h6
                go_enter Try.func75, Try.ntmps75
                go_wp2_with (first | (go_at_call 93; (refine Calls.mono (NM _).out ?_); rintro e w' ⟨rfl, rfl⟩) | (go_at_call 39; (first | (with_reducible refine (rwithin_any X1.out _).mono ?_) | (with_reducible refine (rwithin_any X2.out _).mono ?_) | (with_reducible refine (rwithin_any X3.out _).mono ?_) | (with_reducible refine (rwithin_any X4.out _).mono ?_) | (with_reducible refine (rwithin_any X5.out _).mono ?_) | (with_reducible refine (rwithin_any X6.out _).mono ?_)); rintro e w' ⟨rfl, rfl⟩))
                go_ret
                exact ⟨ret_int (by rw [← HC.out, X0.out, X1.out, X2.out, X3.out, X4.out, X5.out, X6.out]; rfl), (Below.refl _ _).alloc (Nat.le_refl _) _⟩

/-! ### Rates -/
def rateVals (al ac ra cut : Int) : Value := if cut = 0 then .agg #[.int .i64 al, .int .i64 ac, .int .i64 ra] else .agg #[.int .i64 al, .int .i64 ra, .int .i64 ac]
set_option maxHeartbeats 400000 in
theorem rateOf_any {nm : ByteArray} {al ac ra de st sr : Int} (cut : Int) (w : World) :
    Calls Try.prog 80 #[.agg #[.string nm, .int .i64 al, .int .i64 ac, .int .i64 ra, .int .i64 de, .int .i64 st, .int .i64 sr], .int .i64 cut] w fun e w' => e = .returned (rateVals al ac ra cut) ∧ Below w.heap.size w w' := by
  by_cases h : cut = 0
  · have HV : Hid (rateVals al ac ra cut = .agg #[.int .i64 al, .int .i64 ac, .int .i64 ra]) := Lib.hid (if_pos h)
    subst h
    go_enter Try.func80, Try.ntmps80
    go_wp2
    refine bodyPost_ret (v := .agg #[.int .i64 al, .int .i64 ac, .int .i64 ra]) (by simp [results, Try.results80, go_sem]) rfl ⟨by rw [HV.out], ?_⟩
    go_grown
  · have HV : Hid (rateVals al ac ra cut = .agg #[.int .i64 al, .int .i64 ra, .int .i64 ac]) := Lib.hid (if_neg h)
    have h' : (cut == 0) = false := by rw [beq_eq_false_iff_ne]; exact h
    clear h
    go_enter Try.func80, Try.ntmps80
    go_wp2
    refine bodyPost_ret (v := .agg #[.int .i64 al, .int .i64 ra, .int .i64 ac]) (by simp [results, Try.results80, go_sem]) rfl ⟨by rw [HV.out], ?_⟩
    go_grown
end Go.Proofs.Ytnjbhidncicfiaa
