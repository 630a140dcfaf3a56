/- Walks over the timber seat: lists of grades, the reference's check. -/
import Derived.Test.YtnjbhidncicfiaaH1
import Derived.Test.YtnjbhidncicfiaaS2
namespace Go.Proofs.Ytnjbhidncicfiaa
open Go.RowKit

set_option maxHeartbeats 4000000 in
theorem rcheckGrades_any {A : Option Addr} {n cp : Nat} {l : List Gr} {c : Int} (hc : grsCode l = c) (w : World) (hr : GrRow w A n l) (hn : n ≤ maxLen) :
    Calls Try.prog 56 #[.slice A n cp] w fun e w' => e = .returned (.int .i64 c) ∧ w = w' := by
  obtain ⟨hl, hrow⟩ := hr
  have hn' : n ≤ 9223372036854775807 := hn
  by_cases h20 : 20 < n
  · have HC : Hid (c = 8) := Lib.hid (by rw [← hc]; unfold grsCode; rw [decide_eq_true (by omega)]; rfl)
    clear hc hrow hl
    go_enter Try.func56, Try.ntmps56
    go_wp2
    go_ret
    exact ⟨ret_int HC.out.symm, rfl⟩
  · have HROW := Lib.hid hrow
    have HC : Hid (grsFrom (l.drop 0) = c) := Lib.hid (by rw [← hc]; unfold grsCode; rw [decide_eq_false (by omega)]; rfl)
    have hz5 : decide (20 < (n : Int)) = false := decide_eq_false (by omega)
    clear hc hrow
    go_enter Try.func56, Try.ntmps56
    go_wp2
    go_loop [3] (fun i => ∃ k : Nat, k ≤ n ∧ grsFrom (l.drop k) = c ∧ i = .int .i64 k) (fun i => n - (intOf i).toNat)
    case atStart => exact ⟨0, Nat.zero_le _, HC.out, rfl⟩
    case round =>
      obtain ⟨k, hk, ht, rfl⟩ := hrel
      have HT := Lib.hid ht
      clear ht
      by_cases hlt : k < n
      · have hkl : k < l.length := by omega
        obtain ⟨blk, off, rfl, hblk, hx⟩ := HROW.out (by omega)
        obtain ⟨c0, c1, c2, c3, hsz⟩ := hx k hkl
        have HS := Lib.hid (grs_step hkl)
        obtain ⟨⟨nm, mo, sh, cl⟩, hg⟩ : ∃ g, l[k] = g := ⟨_, rfl⟩
        rw [hg] at c0 c1 c2 c3 HS hsz
        simp only at c0 c1 c2 c3 HS hsz
        clear hg hx
        cases h0 : nameB nm
        · have NM := fun wx => Lib.hid (rname_any (w := wx) h0 hsz)
          have HV : Hid (c = 4) := Lib.hid (by rw [← HT.out, HS.out, h0]; rfl)
          clear h0
          go_wp2_with (first | (go_at_call 93; (refine Calls.mono (NM _).out ?_); rintro e w' ⟨rfl, rfl⟩))
          go_ret
          exact ⟨ret_int HV.out.symm, rfl⟩
        · have NM := fun wx => Lib.hid (rname_any (w := wx) h0 hsz)
          cases h1 : inB 0 60 mo
          · have X1 := Lib.hid h1
            have HV : Hid (c = 2) := Lib.hid (by rw [← HT.out, HS.out, h0, h1]; rfl)
            clear h0 h1
            go_wp2_with (first | (go_at_call 93; (refine Calls.mono (NM _).out ?_); rintro e w' ⟨rfl, rfl⟩) | (go_at_call 39; (with_reducible refine (rwithin_any X1.out _).mono ?_); rintro e w' ⟨rfl, rfl⟩))
            go_ret
            exact ⟨ret_int HV.out.symm, rfl⟩
          · have X1 := Lib.hid h1
            cases h2 : inB 0 1000 sh
            · have X2 := Lib.hid h2
              have HV : Hid (c = 2) := Lib.hid (by rw [← HT.out, HS.out, h0, h1, h2]; rfl)
              clear h0 h1 h2
              go_wp2_with (first | (go_at_call 93; (refine Calls.mono (NM _).out ?_); rintro e w' ⟨rfl, rfl⟩) | (go_at_call 39; (with_reducible refine (rwithin_any X1.out _).mono ?_); rintro e w' ⟨rfl, rfl⟩) | (go_at_call 39; (with_reducible refine (rwithin_any X2.out _).mono ?_); rintro e w' ⟨rfl, rfl⟩))
              go_ret
              exact ⟨ret_int HV.out.symm, rfl⟩
            · have X2 := Lib.hid h2
              cases h3 : inB 0 600000 cl
              · have X3 := Lib.hid h3
                have HV : Hid (c = 2) := Lib.hid (by rw [← HT.out, HS.out, h0, h1, h2, h3]; rfl)
                clear h0 h1 h2 h3
                go_wp2_with (first | (go_at_call 93; (refine Calls.mono (NM _).out ?_); rintro e w' ⟨rfl, rfl⟩) | (go_at_call 39; (with_reducible refine (rwithin_any X1.out _).mono ?_); rintro e w' ⟨rfl, rfl⟩) | (go_at_call 39; (with_reducible refine (rwithin_any X2.out _).mono ?_); rintro e w' ⟨rfl, rfl⟩) | (go_at_call 39; (with_reducible refine (rwithin_any X3.out _).mono ?_); rintro e w' ⟨rfl, rfl⟩))
                go_ret
                exact ⟨ret_int HV.out.symm, rfl⟩
              · have X3 := Lib.hid h3
                have HV : Hid (grsFrom (l.drop (k + 1)) = c) := Lib.hid (by rw [← HT.out, HS.out, h0, h1, h2, h3]; rfl)
                clear h0 h1 h2 h3
                go_wp2_with (first | (go_at_call 93; (refine Calls.mono (NM _).out ?_); rintro e w' ⟨rfl, rfl⟩) | (go_at_call 39; (with_reducible refine (rwithin_any X1.out _).mono ?_); rintro e w' ⟨rfl, rfl⟩) | (go_at_call 39; (with_reducible refine (rwithin_any X2.out _).mono ?_); rintro e w' ⟨rfl, rfl⟩) | (go_at_call 39; (with_reducible refine (rwithin_any X3.out _).mono ?_); rintro e w' ⟨rfl, rfl⟩))
                go_round
                case rel => exact ⟨k + 1, by omega, HV.out, by go_num⟩
                case measure => simp [intOf]; omega
      · have hk' : k = n := by omega
        have HV : Hid (c = 0) := Lib.hid (by rw [← HT.out, grs_end (by omega)])
        subst hk'
        go_wp2
        go_ret
        exact ⟨ret_int HV.out.symm, rfl⟩
end Go.Proofs.Ytnjbhidncicfiaa
