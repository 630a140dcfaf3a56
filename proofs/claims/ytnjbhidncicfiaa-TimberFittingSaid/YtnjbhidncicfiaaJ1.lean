/- Walks over the timber seat: blanks. -/
import Derived.Test.YtnjbhidncicfiaaMI
import Derived.Test.YtnjbhidncicfiaaT1
import Derived.Test.YtnjbhidncicfiaaS1
import Derived.Test.YtnjbhidncicfiaaS2
namespace Go.Proofs.Ytnjbhidncicfiaa
open Go.RowKit

theorem allIn_three {lo hi x y z : Int} : allIn lo hi [x, y, z] = (inB lo hi x && (inB lo hi y && inB lo hi z)) := by
  rw [Bool.eq_iff_iff, allIn_iff]
  simp only [Bool.and_eq_true, inB_iff, List.mem_cons, List.not_mem_nil, or_false]
  constructor
  · intro h; exact ⟨h x (.inl rfl), h y (.inr (.inl rfl)), h z (.inr (.inr rfl))⟩
  · rintro ⟨a, b, c⟩ q (rfl | rfl | rfl) <;> assumption
theorem bk_two {nm sp : ByteArray} {ln wd th ct : Int} (h0 : nameB nm = true) (h1 : nameB sp = true) (h : allIn 1 600000 [ln, wd, th] = false) : bkCode ⟨nm, sp, ln, wd, th, ct⟩ = 2 := by
  rw [allIn_three] at h
  unfold bkCode
  simp only [h0, h1, cond_true]
  cases h2 : inB 1 600000 ln
  · rfl
  · cases h3 : inB 1 600000 wd
    · rfl
    · rw [h2, h3] at h; simp at h; simp only [h, cond_true, cond_false]
theorem bk_last {nm sp : ByteArray} {ln wd th ct : Int} (h0 : nameB nm = true) (h1 : nameB sp = true) (h : allIn 1 600000 [ln, wd, th] = true) : bkCode ⟨nm, sp, ln, wd, th, ct⟩ = bif inB 1 200 ct then 0 else 2 := by
  rw [allIn_three] at h
  simp at h
  unfold bkCode
  simp only [h0, h1, h.1, h.2.1, h.2.2, cond_true]

set_option maxHeartbeats 2000000 in
theorem checkBlank_any {nm sp : ByteArray} {ln wd th ct c : Int} (hc : bkCode ⟨nm, sp, ln, wd, th, ct⟩ = c) (hn1 : nm.size ≤ maxLen) (hn2 : sp.size ≤ maxLen) (w : World) :
    Calls Try.prog 110 #[.agg #[.string nm, .string sp, .int .i64 ln, .int .i64 wd, .int .i64 th, .int .i64 ct]] w fun e w' => e = .returned (.int .i64 c) ∧ Below w.heap.size w w' := by
  have HC := Lib.hid hc
  clear hc
  cases h0 : nameB nm
  · have NM1 := fun wx => Lib.hid (isName_any (w := wx) h0 hn1)
    have HV : Hid (c = 4) := Lib.hid (by rw [← HC.out]; unfold bkCode; rw [h0]; rfl)
    clear h0
    go_enter Try.func110, Try.ntmps110
    go_wp2_with (go_at_call 113; (with_reducible refine Calls.mono (NM1 _).out ?_); rintro e w' ⟨rfl, rfl⟩)
    go_ret
    exact ⟨ret_int HV.out.symm, (Below.refl _ _).alloc (Nat.le_refl _) _⟩
  · have NM1 := fun wx => Lib.hid (isName_any (w := wx) h0 hn1)
    cases h1 : nameB sp
    · have NM2 := fun wx => Lib.hid (isName_any (w := wx) h1 hn2)
      have HV : Hid (c = 4) := Lib.hid (by rw [← HC.out]; unfold bkCode; rw [h0, h1]; rfl)
      clear h0 h1
      go_enter Try.func110, Try.ntmps110
      go_wp2_with (go_at_call 113; (first | (with_reducible refine Calls.mono (NM1 _).out ?_) | (with_reducible refine Calls.mono (NM2 _).out ?_)); rintro e w' ⟨rfl, rfl⟩)
      go_ret
      exact ⟨ret_int HV.out.symm, (Below.refl _ _).alloc (Nat.le_refl _) _⟩
    · have NM2 := fun wx => Lib.hid (isName_any (w := wx) h1 hn2)
      cases h3 : allIn 1 600000 [ln, wd, th]
      · have X3 := Lib.hid h3
        have HV : Hid (c = 2) := Lib.hid (by rw [← HC.out, bk_two h0 h1 h3])
        clear h0 h1 h3
        go_enter Try.func110, Try.ntmps110
        go_wp2_with (first | (go_at_call 113; (first | (with_reducible refine Calls.mono (NM1 _).out ?_) | (with_reducible refine Calls.mono (NM2 _).out ?_)); rintro e w' ⟨rfl, rfl⟩) | (go_at_call 79; (with_reducible refine (within_three X3.out _ _ (by simp)).mono ?_); rintro e w1 ⟨rfl, hb1⟩; have hs1 : w.heap.size < w1.heap.size := (by have := hb1.size; (try simp at this); omega); obtain ⟨hc1, hf1⟩ := bcell hb1))
        go_ret
        exact ⟨ret_int HV.out.symm, ((Below.refl _ _).alloc (Nat.le_refl _) _).trans (hb1.mono (by first | omega | (simp; omega) | simp))⟩
      · have X3 := Lib.hid h3
        obtain ⟨v, h6⟩ : ∃ v, inB 1 200 ct = v := ⟨_, rfl⟩
        have X6 := Lib.hid ((allIn_one 1 200 ct).trans h6)
        have HV : Hid (c = bif v then 0 else 2) := Lib.hid (by rw [← HC.out, bk_last h0 h1 h3, h6])
        clear h0 h1 h3 h6
        cases v
        all_goals
          go_enter Try.func110, Try.ntmps110
          go_wp2_with (first | (go_at_call 113; (first | (with_reducible refine Calls.mono (NM1 _).out ?_) | (with_reducible refine Calls.mono (NM2 _).out ?_)); rintro e w' ⟨rfl, rfl⟩) | (go_at_call 79; (with_reducible refine (within_three X3.out _ _ (by simp)).mono ?_); rintro e w1 ⟨rfl, hb1⟩; have hs1 : w.heap.size < w1.heap.size := (by have := hb1.size; (try simp at this); omega); obtain ⟨hc1, hf1⟩ := bcell hb1) | (go_at_call 79; (with_reducible refine (within_oneb X6.out _ _ (by simp)).mono ?_); rintro e w2 ⟨rfl, hb2⟩))
          go_ret
          exact ⟨ret_int HV.out.symm, (((Below.refl _ _).alloc (Nat.le_refl _) _).trans (hb1.mono (by first | omega | (simp; omega) | simp))).trans (hb2.mono (by omega))⟩
set_option maxHeartbeats 2000000 in
theorem rblank_any {nm sp : ByteArray} {ln wd th ct c : Int} (hc : bkCode ⟨nm, sp, ln, wd, th, ct⟩ = c) (hn1 : nm.size ≤ maxLen) (hn2 : sp.size ≤ maxLen) (w : World) :
    Calls Try.prog 69 #[.agg #[.string nm, .string sp, .int .i64 ln, .int .i64 wd, .int .i64 th, .int .i64 ct]] w fun e w' => e = .returned (.int .i64 c) ∧ Below w.heap.size w w' := by
  have HC := Lib.hid hc
  clear hc
  cases h0 : nameB nm
  · have NM1 := fun wx => Lib.hid (rname_any (w := wx) h0 hn1)
    have HV : Hid (c = 4) := Lib.hid (by rw [← HC.out]; unfold bkCode; rw [h0]; rfl)
    clear h0
    go_enter Try.func69, Try.ntmps69
    go_wp2_with (go_at_call 93; (with_reducible refine Calls.mono (NM1 _).out ?_); rintro e w' ⟨rfl, rfl⟩)
    go_ret
    exact ⟨ret_int HV.out.symm, (Below.refl _ _).alloc (Nat.le_refl _) _⟩
  · have NM1 := fun wx => Lib.hid (rname_any (w := wx) h0 hn1)
    cases h1 : nameB sp
    · have NM2 := fun wx => Lib.hid (rname_any (w := wx) h1 hn2)
      have HV : Hid (c = 4) := Lib.hid (by rw [← HC.out]; unfold bkCode; rw [h0, h1]; rfl)
      clear h0 h1
      go_enter Try.func69, Try.ntmps69
      go_wp2_with (go_at_call 93; (first | (with_reducible refine Calls.mono (NM1 _).out ?_) | (with_reducible refine Calls.mono (NM2 _).out ?_)); rintro e w' ⟨rfl, rfl⟩)
      go_ret
      exact ⟨ret_int HV.out.symm, (Below.refl _ _).alloc (Nat.le_refl _) _⟩
    · have NM2 := fun wx => Lib.hid (rname_any (w := wx) h1 hn2)
      cases h2 : inB 1 600000 ln
      · have X2 := Lib.hid h2
        have HV : Hid (c = 2) := Lib.hid (by rw [← HC.out]; unfold bkCode; simp only [h0, h1, h2, cond_true, cond_false])
        clear h0 h1 h2
        go_enter Try.func69, Try.ntmps69
        go_wp2_with (first | (go_at_call 93; (first | (with_reducible refine Calls.mono (NM1 _).out ?_) | (with_reducible refine Calls.mono (NM2 _).out ?_)); rintro e w' ⟨rfl, rfl⟩) | (go_at_call 39; (first | (with_reducible refine (rwithin_any X2.out _).mono ?_)); rintro e w' ⟨rfl, rfl⟩))
        go_ret
        exact ⟨ret_int HV.out.symm, (Below.refl _ _).alloc (Nat.le_refl _) _⟩
      · have X2 := Lib.hid h2
        cases h3 : inB 1 600000 wd
        · have X3 := Lib.hid h3
          have HV : Hid (c = 2) := Lib.hid (by rw [← HC.out]; unfold bkCode; simp only [h0, h1, h2, h3, cond_true, cond_false])
          clear h0 h1 h2 h3
          go_enter Try.func69, Try.ntmps69
          go_wp2_with (first | (go_at_call 93; (first | (with_reducible refine Calls.mono (NM1 _).out ?_) | (with_reducible refine Calls.mono (NM2 _).out ?_)); rintro e w' ⟨rfl, rfl⟩) | (go_at_call 39; (first | (with_reducible refine (rwithin_any X2.out _).mono ?_) | (with_reducible refine (rwithin_any X3.out _).mono ?_)); rintro e w' ⟨rfl, rfl⟩))
          go_ret
          exact ⟨ret_int HV.out.symm, (Below.refl _ _).alloc (Nat.le_refl _) _⟩
        · have X3 := Lib.hid h3
          cases h4 : inB 1 600000 th
          · have X4 := Lib.hid h4
            have HV : Hid (c = 2) := Lib.hid (by rw [← HC.out]; unfold bkCode; simp only [h0, h1, h2, h3, h4, cond_true, cond_false])
            clear h0 h1 h2 h3 h4
            go_enter Try.func69, Try.ntmps69
            go_wp2_with (first | (go_at_call 93; (first | (with_reducible refine Calls.mono (NM1 _).out ?_) | (with_reducible refine Calls.mono (NM2 _).out ?_)); rintro e w' ⟨rfl, rfl⟩) | (go_at_call 39; (first | (with_reducible refine (rwithin_any X2.out _).mono ?_) | (with_reducible refine (rwithin_any X3.out _).mono ?_) | (with_reducible refine (rwithin_any X4.out _).mono ?_)); rintro e w' ⟨rfl, rfl⟩))
            go_ret
            exact ⟨ret_int HV.out.symm, (Below.refl _ _).alloc (Nat.le_refl _) _⟩
          · have X4 := Lib.hid h4
            cases h5 : inB 1 200 ct
            · have X5 := Lib.hid h5
              have HV : Hid (c = 2) := Lib.hid (by rw [← HC.out]; unfold bkCode; simp only [h0, h1, h2, h3, h4, h5, cond_true, cond_false])
              clear h0 h1 h2 h3 h4 h5
              go_enter Try.func69, Try.ntmps69
              go_wp2_with (first | (go_at_call 93; (first | (with_reducible refine Calls.mono (NM1 _).out ?_) | (with_reducible refine Calls.mono (NM2 _).out ?_)); rintro e w' ⟨rfl, rfl⟩) | (go_at_call 39; (first | (with_reducible refine (rwithin_any X2.out _).mono ?_) | (with_reducible refine (rwithin_any X3.out _).mono ?_) | (with_reducible refine (rwithin_any X4.out _).mono ?_) | (with_reducible refine (rwithin_any X5.out _).mono ?_)); rintro e w' ⟨rfl, rfl⟩))
              go_ret
              exact ⟨ret_int HV.out.symm, (Below.refl _ _).alloc (Nat.le_refl _) _⟩
            · have X5 := Lib.hid h5
              have HV : Hid (c = 0) := Lib.hid (by rw [← HC.out]; unfold bkCode; simp only [h0, h1, h2, h3, h4, h5, cond_true])
              clear h0 h1 h2 h3 h4 h5
              go_enter Try.func69, Try.ntmps69
              go_wp2_with (first | (go_at_call 93; (first | (with_reducible refine Calls.mono (NM1 _).out ?_) | (with_reducible refine Calls.mono (NM2 _).out ?_)); rintro e w' ⟨rfl, rfl⟩) | (go_at_call 39; (first | (with_reducible refine (rwithin_any X2.out _).mono ?_) | (with_reducible refine (rwithin_any X3.out _).mono ?_) | (with_reducible refine (rwithin_any X4.out _).mono ?_) | (with_reducible refine (rwithin_any X5.out _).mono ?_)); rintro e w' ⟨rfl, rfl⟩))
              go_ret
              exact ⟨ret_int HV.out.symm, (Below.refl _ _).alloc (Nat.le_refl _) _⟩
end Go.Proofs.Ytnjbhidncicfiaa
