/- Walks over the timber seat: TimberTables. -/
import Derived.Test.YtnjbhidncicfiaaT3
import Derived.Test.YtnjbhidncicfiaaW3
import Derived.RegionTactic
import Derived.BigRegion
namespace Go.Proofs.Ytnjbhidncicfiaa
open Go.RowKit

theorem rbetw_wrap {a b : Kn} {h : Int} (k : KnOk a b) (h0 : a.1 < h) (h1 : h ≤ b.1) :
    wrap64 (wrap64 (a.2 * (b.1 - a.1)) + wrap64 ((b.2 - a.2) * (h - a.1))) = a.2 * (b.1 - h) + b.2 * (h - a.1) ∧ 0 ≤ a.2 * (b.1 - h) + b.2 * (h - a.1) ∧ a.2 * (b.1 - h) + b.2 * (h - a.1) ≤ 800000 := by
  obtain ⟨a0, a1, v0, v1, b0, b1, u0, u1⟩ := k
  have m1 := mul_bd (b := b.1 - a.1) (B := 1000) v0 v1 (by omega) (by omega)
  have m2 := mul_bd (a := h - a.1) (b := b.2 - a.2) (A := 1000) (B := 400) (by omega) (by omega) (by omega) (by omega)
  have n1 := mul_bd (b := b.1 - h) (B := 1000) v0 v1 (by omega) (by omega)
  have n2 := mul_bd (b := h - a.1) (B := 1000) u0 u1 (by omega) (by omega)
  have p1 := Int.mul_nonneg v0 (show 0 ≤ b.1 - h by omega)
  have p2 := Int.mul_nonneg u0 (show 0 ≤ h - a.1 by omega)
  have e := betw_num a b h
  rw [Int.mul_comm (h - a.1)] at m2
  rw [w64 (x := a.2 * (b.1 - a.1)) (by omega), w64 (x := (b.2 - a.2) * (h - a.1)) (by omega), w64 (x := a.2 * (b.1 - a.1) + (b.2 - a.2) * (h - a.1)) (by omega)]
  exact ⟨e.symm, by omega, by omega⟩
set_option maxHeartbeats 4000000 in
theorem requil_ok {A : Option Addr} {n cp : Nat} {ks : List Kn} {h v : Int} (hc : tabCode ks = 0) (hv : tabV ks h = v) (h0 : 0 ≤ h) (_h1 : h ≤ 1000) (w : World) (hr : KnRow w A n ks) (_hn : n ≤ maxLen) :
    Calls Try.prog 62 #[.slice A n cp, .int .i64 h] w fun e w' => e = .returned (.int .i64 v) ∧ Below w.heap.size w w' := by
  have TO := tabOk_of hc
  have hpos := TO.pos
  have hlen := TO.len
  obtain ⟨hl, hrow⟩ := hr
  have hn' : n ≤ 50 := by omega
  have n0 : 0 < n := by omega
  obtain ⟨blk, off, rfl, hblk, hx⟩ := hrow n0
  have HX := Lib.hid hx
  have hfirst := hx 0 hpos
  have P0 := prevAt_zero hpos
  have P1 := prevAt_succ hpos
  have ST := eq_step (h := h) hpos
  have HV : eqFrom (prevAt ks 0) h (ks.drop 0) = v := hv
  obtain ⟨f1, hf1⟩ : ∃ x, ks[0].1 = x := ⟨_, rfl⟩
  obtain ⟨f2, hf2⟩ : ∃ x, ks[0].2 = x := ⟨_, rfl⟩
  have hff : ks[0] = (f1, f2) := by rw [← hf1, ← hf2]
  have cf : w.cell? ⟨blk, off, none⟩ = some (.int .i64 f1) ∧ w.cell? ⟨blk, off + 1, none⟩ = some (.int .i64 f2) := by have := hfirst; unfold KnAt at this; rw [show off + 0 * 2 = off by omega] at this; rw [← hf1, ← hf2]; exact this
  obtain ⟨cf1, cf2⟩ := cf
  rw [hff] at ST P0 P1
  rw [P0] at ST
  have TK := Lib.hid TO
  have hn0 : (0 : Int) < (n : Int) := by omega
  by_cases hle : h ≤ f1
  · have HV2 : Hid (f2 = v) := Lib.hid (by rw [← HV, P0, ST, if_pos hle, betw_le hle])
    clear hc hv hrow hx hfirst P0 P1 ST HV hf1 hf2 hff TO
    go_enter Try.func62, Try.ntmps62
    go_wp2
    go_ret
    exact ⟨ret_int HV2.out, Below.refl _ _⟩
  · have HV2 : Hid (eqFrom (prevAt ks 1) h (ks.drop 1) = v) := Lib.hid (by rw [← HV, P0, ST, if_neg hle])
    have HP1 : Hid (prevAt ks 1 = (f1, f2)) := Lib.hid P1
    clear hc hv hrow hx hfirst P0 P1 ST HV hf1 hf2 hff TO
    go_enter Try.func62, Try.ntmps62
    go_wp2
    go_loopw [5] (fun i wr => ∃ k : Nat, 1 ≤ k ∧ k ≤ n ∧ eqFrom (prevAt ks k) h (ks.drop k) = v ∧ (prevAt ks k).1 < h ∧ i = .int .i64 k ∧ Below w.heap.size w wr) (fun i _ => n - (intOf i).toNat)
    case atStart => exact ⟨1, Nat.le_refl _, by omega, HV2.out, by rw [HP1.out]; simp only; omega, rfl, Below.refl _ _⟩
    case round =>
      obtain ⟨k, hk1, hk, ht, hph, rfl, hbw⟩ := hrel
      have HT := Lib.hid ht
      have HB := Lib.hid hbw
      obtain ⟨j, hj⟩ : ∃ j, k = j + 1 := ⟨k - 1, by omega⟩
      have hjl : j < ks.length := by omega
      have hpk : prevAt ks k = ks[j] := by rw [hj]; exact prevAt_succ hjl
      obtain ⟨cj1, cj2⟩ := (HX.out j hjl).below hbw hblk
      obtain ⟨p1, hp1⟩ : ∃ x, ks[j].1 = x := ⟨_, rfl⟩
      obtain ⟨p2, hp2⟩ : ∃ x, ks[j].2 = x := ⟨_, rfl⟩
      have hpp : ks[j] = (p1, p2) := by rw [← hp1, ← hp2]
      rw [hp1] at cj1
      rw [hp2] at cj2
      rw [hpp] at hpk
      have HP := Lib.hid hpk
      rw [hpk] at hph
      simp only at hph
      have hkj : (k : Int) - 1 = (j : Int) := by omega
      have hjn : (j : Int) < (n : Int) := by omega
      by_cases hlt : k < n
      · have hkl : k < ks.length := by omega
        have hkn : (k : Int) < (n : Int) := by omega
        have hbr : blk < wr.heap.size := Nat.lt_of_lt_of_le hblk hbw.size
        obtain ⟨c1, c2⟩ := (HX.out k hkl).below hbw hblk
        have HS := Lib.hid (eq_step (h := h) hkl)
        have KO := knOk_prev TK.out hkl
        have PS := Lib.hid (prevAt_succ hkl)
        obtain ⟨a, ha⟩ : ∃ x, ks[k].1 = x := ⟨_, rfl⟩
        obtain ⟨u, hu⟩ : ∃ x, ks[k].2 = x := ⟨_, rfl⟩
        have hau : ks[k] = (a, u) := by rw [← ha, ← hu]
        rw [ha] at c1
        rw [hu] at c2
        rw [hau] at HS KO PS
        rw [HP.out] at HS KO
        have e1 : wrap64 (a - p1) = a - p1 := w64 (by have := KO.a0; have := KO.a1; have := KO.b0; have := KO.b1; simp only at *; omega)
        have e2 : wrap64 (u - p2) = u - p2 := w64 (by have := KO.v0; have := KO.v1; have := KO.u0; have := KO.u1; simp only at *; omega)
        have e3 : wrap64 (h - p1) = h - p1 := w64 (by have := KO.a0; have := KO.a1; simp only at *; omega)
        by_cases hle : h ≤ a
        · have rw1 := rbetw_wrap KO hph hle
          simp only at rw1
          have hval : (p2 * (a - h) + u * (h - p1)) / (a - p1) = v := by
            rw [← HT.out, HP.out, HS.out, if_pos hle, betw_lt (show (p1, p2).1 < h from hph)]
            exact (Int.tdiv_eq_ediv_of_nonneg rw1.2.1).symm
          have F0 := fun wx => floor_any (a := p2 * (a - h) + u * (h - p1)) (b := a - p1) (by omega) (by have := KO.a0; have := KO.b1; simp only at *; omega) (by omega) (by omega) wx
          rw [← rw1.1] at F0
          have F := fun wx => Lib.hid ((F0 wx).mono fun e w' hh => (show e = .returned (.int .i64 v) ∧ wx = w' from ⟨by rw [hh.1, rw1.1, hval], hh.2⟩))
          clear ha hu hau hbw hp1 hp2 hpp hpk ht hj hjl KO rw1 F0 hval
          go_wp2
          go_region
          all_goals
            go_wp2_with (go_at_call 103; (refine Calls.mono (F _).out ?_); rintro e w3 ⟨rfl, rfl⟩)
            go_ret
            exact ⟨rfl, HB.out.trans ((show Below wr.heap.size wr _ by go_grown).mono HB.out.size)⟩
        · have HV' : Hid (eqFrom (prevAt ks (k + 1)) h (ks.drop (k + 1)) = v) := Lib.hid (by rw [← HT.out, HP.out, HS.out, if_neg hle])
          clear ha hu hau hbw hp1 hp2 hpp hpk ht hj hjl KO
          go_wp2
          go_region
          all_goals
            go_wp2
            go_roundw
            case rel => exact ⟨k + 1, by omega, by omega, HV'.out, by rw [PS.out]; simp only; omega, by go_num, HB.out.trans ((show Below wr.heap.size wr _ by go_grown).mono HB.out.size)⟩
            case measure => simp [intOf]; omega
      · have hk' : k = n := by omega
        have HV' : Hid (p2 = v) := Lib.hid (by rw [← HT.out, eq_end (by omega), HP.out])
        have hkn : (n : Int) - 1 = (j : Int) := by omega
        clear hp1 hp2 hpp hpk ht hj hjl
        subst hk'
        go_wp2
        go_ret
        exact ⟨ret_int HV'.out, HB.out⟩
set_option maxHeartbeats 4000000 in
theorem tables_any (A : Option Addr) (n cp : Nat) (ks : List Kn) (h : Int) (hn : n ≤ maxLen) (w : World) (hr : KnRow w A n ks) :
    Calls Try.prog 15 #[.slice A n cp, .int .i64 h] w fun e w' => e = .returned (.bool true) ∧ Below w.heap.size w w' := by
  have hn' : n ≤ 9223372036854775807 := hn
  by_cases h60 : 60 < n
  · clear hr
    have hd : decide (60 < (n : Int)) = true := decide_eq_true (by omega)
    go_enter Try.func15, Try.ntmps15
    go_wp2_with (go_at_call 18; refine (awake_any _).mono ?_; rintro e w1 ⟨rfl, hb1⟩)
    go_ret
    exact ⟨rfl, hb1⟩
  · have hd : decide (60 < (n : Int)) = false := decide_eq_false (by omega)
    by_cases hc : tabCode ks = 0
    · have RC := fun wx hb => Lib.hid (rcheckTable_any (cp := cp) hc wx (KnRow.below hr hb) hn)
      cases hh : inB 0 1000 h
      · have EQ := fun wx hb => Lib.hid (equil_range (cp := cp) hc hh wx (KnRow.below hr hb) hn)
        have WX := Lib.hid hh
        clear hr hc hh
        go_enter Try.func15, Try.ntmps15
        go_wp2_with (first | (go_at_call 18; refine (awake_any _).mono ?_; rintro e w1 ⟨rfl, hb1⟩) | (go_at_call 60; (refine Calls.mono (EQ _ hb1).out ?_); rintro e w2 ⟨rfl, hb2⟩; have hb12 := hb1.trans (hb2.mono hb1.size)) | (go_at_call 61; (refine Calls.mono (RC _ hb12).out ?_); rintro e w3 ⟨rfl, hb3⟩; have hb13 := hb12.trans (hb3.mono hb12.size)) | (go_at_call 39; (with_reducible refine (rwithin_any WX.out _).mono ?_); rintro e w4 ⟨rfl, rfl⟩))
        go_ret
        exact ⟨rfl, hb13⟩
      · have hh2 := inB_iff.1 hh
        obtain ⟨v, hv⟩ : ∃ v, tabV ks h = v := ⟨_, rfl⟩
        have EQ := fun wx hb => Lib.hid (equil_ok (cp := cp) hc hv hh2.1 hh2.2 wx (KnRow.below hr hb) hn)
        have RE := fun wx hb => Lib.hid (requil_ok (cp := cp) hc hv hh2.1 hh2.2 wx (KnRow.below hr hb) hn)
        have WX := Lib.hid hh
        clear hr hc hh hv
        go_enter Try.func15, Try.ntmps15
        go_wp2_with (first | (go_at_call 18; refine (awake_any _).mono ?_; rintro e w1 ⟨rfl, hb1⟩) | (go_at_call 60; (refine Calls.mono (EQ _ hb1).out ?_); rintro e w2 ⟨rfl, hb2⟩; have hb12 := hb1.trans (hb2.mono hb1.size)) | (go_at_call 61; (refine Calls.mono (RC _ hb12).out ?_); rintro e w3 ⟨rfl, hb3⟩; have hb13 := hb12.trans (hb3.mono hb12.size)) | (go_at_call 39; (with_reducible refine (rwithin_any WX.out _).mono ?_); rintro e w4 ⟨rfl, rfl⟩) | (go_at_call 62; (refine Calls.mono (RE _ hb13).out ?_); rintro e w5 ⟨rfl, hb5⟩; have hb15 := hb13.trans (hb5.mono hb13.size)))
        go_ret
        exact ⟨rfl, hb15⟩
    · obtain ⟨c, hcc⟩ : ∃ c, tabCode ks = c := ⟨_, rfl⟩
      have hne : c ≠ 0 := by rw [← hcc]; exact hc
      have hb0 : (c == 0) = false := beq_eq_false_iff_ne.2 hne
      have RC := fun wx hb => Lib.hid (rcheckTable_any (cp := cp) hcc wx (KnRow.below hr hb) hn)
      have EQ := fun wx hb => Lib.hid (equil_err (cp := cp) (h := h) hcc hne wx (KnRow.below hr hb) hn)
      clear hr hc hcc
      go_enter Try.func15, Try.ntmps15
      go_wp2_with (first | (go_at_call 18; refine (awake_any _).mono ?_; rintro e w1 ⟨rfl, hb1⟩) | (go_at_call 60; (refine Calls.mono (EQ _ hb1).out ?_); rintro e w2 ⟨rfl, hb2⟩; have hb12 := hb1.trans (hb2.mono hb1.size)) | (go_at_call 61; (refine Calls.mono (RC _ hb12).out ?_); rintro e w3 ⟨rfl, hb3⟩; have hb13 := hb12.trans (hb3.mono hb12.size)))
      go_ret
      exact ⟨rfl, hb13⟩
end Go.Proofs.Ytnjbhidncicfiaa
