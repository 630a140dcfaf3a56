/- Walks over the timber seat: TimberSpecies, the law. -/
import Derived.Test.YtnjbhidncicfiaaS6
namespace Go.Proofs.Ytnjbhidncicfiaa
open Go.RowKit Go.Maps

theorem findT_no {l : List Sp} {nm : ByteArray} (h : findFrom 0 nm l = -1) : findT l nm = .tuple #[.int .i64 0, .int .i64 6] := by unfold findT; rw [decide_eq_true h]; rfl
theorem findT_yes {l : List Sp} {nm : ByteArray} (h : findFrom 0 nm l ≠ -1) : findT l nm = .tuple #[.int .i64 (findFrom 0 nm l), .int .i64 0] := by unfold findT; rw [decide_eq_false h]; rfl
set_option maxHeartbeats 4000000 in
set_option maxRecDepth 20000 in
theorem species_any (A : Option Addr) (n cp : Nat) (l : List Sp) (nm : ByteArray) (hn : n ≤ maxLen) (hcp : n ≤ cp) (hsz : nm.size ≤ maxLen) (w : World) (hr : SpRow w A n l) :
    Calls Try.prog 3 #[.slice A n cp, .string nm] w fun e w' => e = .returned (.bool true) ∧ Below w.heap.size w w' := by
  have hsz' : nm.size ≤ 9223372036854775807 := hsz
  cases hsh : shortB l
  · have SH := fun wx hb => Lib.hid (short_any (cp := cp) hsh wx (SpRow.below hr hb) hn)
    clear hr hsh
    go_enter Try.func3, Try.ntmps3
    go_wp2_with (first | (go_at_call 18; refine (awake_any _).mono ?_; rintro e w1 ⟨rfl, hb1⟩) | (go_at_call 19; (refine Calls.mono (SH _ hb1).out ?_); rintro e w2 ⟨rfl, rfl⟩))
    go_ret
    exact ⟨rfl, hb1⟩
  · have SH := fun wx hb => Lib.hid (short_any (cp := cp) hsh wx (SpRow.below hr hb) hn)
    by_cases h30 : 30 < nm.size
    · clear hr hsh
      have hd : decide (30 < (nm.size : Int)) = true := decide_eq_true (by omega)
      go_enter Try.func3, Try.ntmps3
      go_wp2_with (first | (go_at_call 18; refine (awake_any _).mono ?_; rintro e w1 ⟨rfl, hb1⟩) | (go_at_call 19; (refine Calls.mono (SH _ hb1).out ?_); rintro e w2 ⟨rfl, rfl⟩))
      go_ret
      exact ⟨rfl, hb1⟩
    · have hd : decide (30 < (nm.size : Int)) = false := decide_eq_false (by omega)
      by_cases hc : spsCode l = 0
      · have RC := fun wx hb => Lib.hid (rcheckSpecies_any (cp := cp) hc wx (SpRow.below hr hb) hn hcp)
        have CC := fun wx hb => Lib.hid (checkSpecies_any (cp := cp) hc wx (SpRow.below hr hb) hn)
        have FI := fun wx hb => Lib.hid (find_ok (cp := cp) (nm := nm) hc hsz wx (SpRow.below hr hb) hn)
        obtain ⟨r, hrr⟩ : ∃ r, findFrom 0 nm l = r := ⟨_, rfl⟩
        have RF := fun wx hb => Lib.hid (rfind_any (cp := cp) hrr wx (SpRow.below hr hb) hn)
        have hge := find_ge l 0 nm
        rw [hrr] at hge
        by_cases h1 : r = -1
        · simp only [findT_no (hrr.trans h1)] at FI
          have hlin : r < 0 := by omega
          have hneg : decide (r < 0) = true := decide_eq_true hlin
          clear hr hsh hc hrr hge h1
          go_enter Try.func3, Try.ntmps3
          go_wp2_with (first | (go_at_call 18; refine (awake_any _).mono ?_; rintro e w1 ⟨rfl, hb1⟩) | (go_at_call 19; (refine Calls.mono (SH _ hb1).out ?_); rintro e w2 ⟨rfl, rfl⟩) | (go_at_call 20; (refine Calls.mono (FI _ hb1).out ?_); rintro e w3 ⟨rfl, hb3⟩; have hb13 := hb1.trans (hb3.mono hb1.size)) | (go_at_call 21; (refine Calls.mono (RC _ hb13).out ?_); rintro e w4 ⟨rfl, hb4⟩; have hb14 := hb13.trans (hb4.mono hb13.size)) | (go_at_call 22; (refine Calls.mono (CC _ hb14).out ?_); rintro e w5 ⟨rfl, hb5⟩; have hb15 := hb14.trans (hb5.mono hb14.size)) | (go_at_call 23; (refine Calls.mono (RF _ hb15).out ?_); rintro e w6 ⟨rfl, rfl⟩))
          go_ret
          exact ⟨rfl, hb15⟩
        · simp only [findT_yes (show findFrom 0 nm l ≠ -1 by rw [hrr]; exact h1)] at FI
          simp only [hrr] at FI
          have hlin : 0 ≤ r := by omega
          have hneg : decide (r < 0) = false := decide_eq_false (by omega)
          clear hr hsh hc hrr hge h1
          go_enter Try.func3, Try.ntmps3
          go_wp2_with (first | (go_at_call 18; refine (awake_any _).mono ?_; rintro e w1 ⟨rfl, hb1⟩) | (go_at_call 19; (refine Calls.mono (SH _ hb1).out ?_); rintro e w2 ⟨rfl, rfl⟩) | (go_at_call 20; (refine Calls.mono (FI _ hb1).out ?_); rintro e w3 ⟨rfl, hb3⟩; have hb13 := hb1.trans (hb3.mono hb1.size)) | (go_at_call 21; (refine Calls.mono (RC _ hb13).out ?_); rintro e w4 ⟨rfl, hb4⟩; have hb14 := hb13.trans (hb4.mono hb13.size)) | (go_at_call 22; (refine Calls.mono (CC _ hb14).out ?_); rintro e w5 ⟨rfl, hb5⟩; have hb15 := hb14.trans (hb5.mono hb14.size)) | (go_at_call 23; (refine Calls.mono (RF _ hb15).out ?_); rintro e w6 ⟨rfl, rfl⟩))
          go_ret
          exact ⟨rfl, hb15⟩
      · obtain ⟨c, hcc⟩ : ∃ c, spsCode l = c := ⟨_, rfl⟩
        have hne : c ≠ 0 := by rw [← hcc]; exact hc
        have hb0 : (c == 0) = false := beq_eq_false_iff_ne.2 hne
        have RC := fun wx hb => Lib.hid (rcheckSpecies_any (cp := cp) hcc wx (SpRow.below hr hb) hn hcp)
        have CC := fun wx hb => Lib.hid (checkSpecies_any (cp := cp) hcc wx (SpRow.below hr hb) hn)
        have FI := fun wx hb => Lib.hid (find_err (cp := cp) (nm := nm) hcc hne wx (SpRow.below hr hb) hn)
        clear hr hsh hc hcc
        go_enter Try.func3, Try.ntmps3
        go_wp2_with (first | (go_at_call 18; refine (awake_any _).mono ?_; rintro e w1 ⟨rfl, hb1⟩) | (go_at_call 19; (refine Calls.mono (SH _ hb1).out ?_); rintro e w2 ⟨rfl, rfl⟩) | (go_at_call 20; (refine Calls.mono (FI _ hb1).out ?_); rintro e w3 ⟨rfl, hb3⟩; have hb13 := hb1.trans (hb3.mono hb1.size)) | (go_at_call 21; (refine Calls.mono (RC _ hb13).out ?_); rintro e w4 ⟨rfl, hb4⟩; have hb14 := hb13.trans (hb4.mono hb13.size)) | (go_at_call 22; (refine Calls.mono (CC _ hb14).out ?_); rintro e w5 ⟨rfl, hb5⟩; have hb15 := hb14.trans (hb5.mono hb14.size)))
        go_ret
        exact ⟨rfl, hb15⟩
theorem species_law (A : Option Addr) (n cp : Nat) (l : List Sp) (nm : ByteArray) (hn : n ≤ maxLen ∧ n ≤ cp) (hsz : nm.size ≤ maxLen) (w : World) (hr : SpRow w A n l) :
    Calls Try.prog 3 #[.slice A n cp, .string nm] w fun e w' => e = .returned (.bool true) ∧ Below w.heap.size w w' := species_any A n cp l nm hn.1 hn.2 hsz w hr
end Go.Proofs.Ytnjbhidncicfiaa
