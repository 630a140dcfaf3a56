/- Walks over beams: the greatest one of some sums. -/
import Derived.Test.YtablphoicidlkaaSI
namespace Go.Proofs.Ytablphoicidlkaa
open Go.RowKit

theorem parts_any (b : Bm) (hb : BmOk b) (w : World) : Calls Try.prog 93 #[bmV b] w fun e w' => e = .returned (.int .i64 (2 * b.s)) ∧ Below w.heap.size w w' := by
  obtain ⟨s, ww, t, en⟩ := b
  have h0 := hb.s0; have h1 := hb.s1
  simp only at h0 h1
  clear hb
  unfold bmV
  simp only
  go_enter Try.func93, Try.ntmps93
  go_wp2
  go_ret
  exact ⟨rfl, (Below.refl _ _).alloc (Nat.le_refl _) _⟩
set_option maxHeartbeats 4000000 in
set_option maxRecDepth 20000 in
theorem greatestM_any {N : Nat} (hN : N ≤ 2000) {g : Nat → Int} {a b : Addr} (hg : ∀ k, k < N + 1 → (g k).natAbs ≤ 9000000000000000000) (w : World)
    (hF : ∀ (wx : World) (k : Nat), k ≤ N → Below w.heap.size w wx → Calls Try.prog 147 #[.int .i64 k, .pointer (some a), .pointer (some b)] wx fun e w' => ∃ (A : Option Addr) (m c : Nat) (zs : List Int), e = .returned (.slice A m c) ∧ IntRow w' A m zs ∧ m ≤ 1000 ∧ sumL id zs = g k ∧ Below wx.heap.size wx w') :
    Calls Try.prog 146 #[.int .i64 N, .func (.func 147) #[] #[.pointer (some a), .pointer (some b)]] w fun e w' => e = .returned (.tuple #[.int .i64 ((grP g (N + 1)).1 : Nat), .int .i64 (grP g (N + 1)).2]) ∧ Below w.heap.size w w' := by
  have HF := Lib.hid hF
  have HG := Lib.hid hg
  have HP := Lib.hid (fun n (h : n ≤ N + 1) => grP_bd (g := g) (B := 9000000000000000000) hg h)
  clear hF hg
  go_enter Try.func146, Try.ntmps146
  go_wp2
  go_loopw [6, 7, 12] (fun p q i wr => ∃ (k pl : Nat) (m : Int), k ≤ N + 1 ∧ i = .int .i64 k ∧ p = .int .i64 pl ∧ q = .int .i64 m ∧ grP g k = (pl, m) ∧ Below w.heap.size w wr) (fun _ _ i _ => N + 1 - (intOf i).toNat)
  case atStart => exact ⟨0, 0, 0, by omega, rfl, rfl, rfl, rfl, Below.refl _ _⟩
  case round =>
    obtain ⟨k, pl, m, hk, rfl, rfl, rfl, hgr, hbw⟩ := hrel
    have HB := Lib.hid hbw
    have HGR := Lib.hid hgr
    have hpb := HP.out k hk
    rw [hgr] at hpb
    obtain ⟨p1, p2⟩ := hpb
    simp only at p1 p2
    clear hbw hgr
    by_cases hlt : k < N + 1
    · have hkc : (k : Int) < (N : Int) + 1 := by omega
      have hgb := HG.out k hlt
      have CF := Lib.hid (HF.out wr k (by omega) HB.out)
      obtain ⟨v, hv⟩ : ∃ v, g k = v := ⟨_, rfl⟩
      rw [hv] at hgb CF
      have HV := Lib.hid hv
      clear hv
      have A1 := fun wx => Lib.hid (abs_any (n := v) (by omega) (by omega) wx)
      have A2 := fun wx => Lib.hid (abs_any (n := m) (by omega) (by omega) wx)
      have SUM := fun wx A mm c zs (hr : IntRow wx A mm zs) (hm : mm ≤ 1000) (hs : sumL id zs = v) => Lib.hid ((sum_any (c := c) wx hr (by unfold maxLen; omega)).mono (R' := fun e w' => e = .returned (.int .i64 v) ∧ wx = w') (fun e w' ⟨he, hw⟩ => ⟨by rw [he, hs, w64 (by omega)], hw⟩))
      have ha1 : 0 ≤ absI v := by unfold absI; omega
      have ha2 : 0 ≤ absI m := by unfold absI; omega
      by_cases hl : absI m < absI v
      · have HS := Lib.hid (grP_succ_lt HGR.out (by rw [HV.out]; exact hl))
        rw [HV.out] at HS
        generalize absI v = av at *
        generalize absI m = am at *
        go_upto_region 6 with (first | (go_at_call 147; (refine Calls.mono CF.out ?_); rintro e w1 ⟨A1', m1, c1, zs1, rfl, hr1, hm1, hs1, hb1⟩) | (go_at_call 142; (refine Calls.mono (SUM _ _ _ _ _ hr1 hm1 hs1).out ?_); rintro e w2 ⟨rfl, rfl⟩))
        have HB1 := Lib.hid (HB.out.trans (hb1.mono HB.out.size))
        clear hr1 hm1 hs1 hb1
        go_wp2_with (first | (go_at_call 144; (with_reducible refine Calls.mono (A1 _).out ?_); rintro e w3 ⟨rfl, rfl⟩) | (go_at_call 144; (with_reducible refine Calls.mono (A2 _).out ?_); rintro e w3 ⟨rfl, rfl⟩))
        go_roundw
        case rel => exact ⟨k + 1, k, v, by omega, by go_num, by go_num, by go_num, HS.out, HB1.out⟩
        case measure => simp [intOf]; omega
      · have HS := Lib.hid (grP_succ_ge HGR.out (by rw [HV.out]; exact hl))
        generalize absI v = av at *
        generalize absI m = am at *
        go_upto_region 6 with (first | (go_at_call 147; (refine Calls.mono CF.out ?_); rintro e w1 ⟨A1', m1, c1, zs1, rfl, hr1, hm1, hs1, hb1⟩) | (go_at_call 142; (refine Calls.mono (SUM _ _ _ _ _ hr1 hm1 hs1).out ?_); rintro e w2 ⟨rfl, rfl⟩))
        have HB1 := Lib.hid (HB.out.trans (hb1.mono HB.out.size))
        clear hr1 hm1 hs1 hb1
        go_wp2_with (first | (go_at_call 144; (with_reducible refine Calls.mono (A1 _).out ?_); rintro e w3 ⟨rfl, rfl⟩) | (go_at_call 144; (with_reducible refine Calls.mono (A2 _).out ?_); rintro e w3 ⟨rfl, rfl⟩))
        go_roundw
        case rel => exact ⟨k + 1, pl, m, by omega, by go_num, by go_num, by go_num, HS.out, HB1.out⟩
        case measure => simp [intOf]; omega
    · obtain rfl : k = N + 1 := by omega
      go_wp2
      go_ret2
      exact ⟨by rw [HGR.out]; rfl, HB.out⟩
set_option maxHeartbeats 4000000 in
set_option maxRecDepth 20000 in
theorem greatestS_any {N : Nat} (hN : N ≤ 2000) {g : Nat → Int} {a b : Addr} (hg : ∀ k, k < N + 1 → (g k).natAbs ≤ 9000000000000000000) (w : World)
    (hF : ∀ (wx : World) (k : Nat), k ≤ N → Below w.heap.size w wx → Calls Try.prog 149 #[.int .i64 k, .pointer (some a), .pointer (some b)] wx fun e w' => ∃ (A : Option Addr) (m c : Nat) (zs : List Int), e = .returned (.slice A m c) ∧ IntRow w' A m zs ∧ m ≤ 1000 ∧ sumL id zs = g k ∧ Below wx.heap.size wx w') :
    Calls Try.prog 146 #[.int .i64 N, .func (.func 149) #[] #[.pointer (some a), .pointer (some b)]] w fun e w' => e = .returned (.tuple #[.int .i64 ((grP g (N + 1)).1 : Nat), .int .i64 (grP g (N + 1)).2]) ∧ Below w.heap.size w w' := by
  have HF := Lib.hid hF
  have HG := Lib.hid hg
  have HP := Lib.hid (fun n (h : n ≤ N + 1) => grP_bd (g := g) (B := 9000000000000000000) hg h)
  clear hF hg
  go_enter Try.func146, Try.ntmps146
  go_wp2
  go_loopw [6, 7, 12] (fun p q i wr => ∃ (k pl : Nat) (m : Int), k ≤ N + 1 ∧ i = .int .i64 k ∧ p = .int .i64 pl ∧ q = .int .i64 m ∧ grP g k = (pl, m) ∧ Below w.heap.size w wr) (fun _ _ i _ => N + 1 - (intOf i).toNat)
  case atStart => exact ⟨0, 0, 0, by omega, rfl, rfl, rfl, rfl, Below.refl _ _⟩
  case round =>
    obtain ⟨k, pl, m, hk, rfl, rfl, rfl, hgr, hbw⟩ := hrel
    have HB := Lib.hid hbw
    have HGR := Lib.hid hgr
    have hpb := HP.out k hk
    rw [hgr] at hpb
    obtain ⟨p1, p2⟩ := hpb
    simp only at p1 p2
    clear hbw hgr
    by_cases hlt : k < N + 1
    · have hkc : (k : Int) < (N : Int) + 1 := by omega
      have hgb := HG.out k hlt
      have CF := Lib.hid (HF.out wr k (by omega) HB.out)
      obtain ⟨v, hv⟩ : ∃ v, g k = v := ⟨_, rfl⟩
      rw [hv] at hgb CF
      have HV := Lib.hid hv
      clear hv
      have A1 := fun wx => Lib.hid (abs_any (n := v) (by omega) (by omega) wx)
      have A2 := fun wx => Lib.hid (abs_any (n := m) (by omega) (by omega) wx)
      have SUM := fun wx A mm c zs (hr : IntRow wx A mm zs) (hm : mm ≤ 1000) (hs : sumL id zs = v) => Lib.hid ((sum_any (c := c) wx hr (by unfold maxLen; omega)).mono (R' := fun e w' => e = .returned (.int .i64 v) ∧ wx = w') (fun e w' ⟨he, hw⟩ => ⟨by rw [he, hs, w64 (by omega)], hw⟩))
      have ha1 : 0 ≤ absI v := by unfold absI; omega
      have ha2 : 0 ≤ absI m := by unfold absI; omega
      by_cases hl : absI m < absI v
      · have HS := Lib.hid (grP_succ_lt HGR.out (by rw [HV.out]; exact hl))
        rw [HV.out] at HS
        generalize absI v = av at *
        generalize absI m = am at *
        go_upto_region 6 with (first | (go_at_call 149; (refine Calls.mono CF.out ?_); rintro e w1 ⟨A1', m1, c1, zs1, rfl, hr1, hm1, hs1, hb1⟩) | (go_at_call 142; (refine Calls.mono (SUM _ _ _ _ _ hr1 hm1 hs1).out ?_); rintro e w2 ⟨rfl, rfl⟩))
        have HB1 := Lib.hid (HB.out.trans (hb1.mono HB.out.size))
        clear hr1 hm1 hs1 hb1
        go_wp2_with (first | (go_at_call 144; (with_reducible refine Calls.mono (A1 _).out ?_); rintro e w3 ⟨rfl, rfl⟩) | (go_at_call 144; (with_reducible refine Calls.mono (A2 _).out ?_); rintro e w3 ⟨rfl, rfl⟩))
        go_roundw
        case rel => exact ⟨k + 1, k, v, by omega, by go_num, by go_num, by go_num, HS.out, HB1.out⟩
        case measure => simp [intOf]; omega
      · have HS := Lib.hid (grP_succ_ge HGR.out (by rw [HV.out]; exact hl))
        generalize absI v = av at *
        generalize absI m = am at *
        go_upto_region 6 with (first | (go_at_call 149; (refine Calls.mono CF.out ?_); rintro e w1 ⟨A1', m1, c1, zs1, rfl, hr1, hm1, hs1, hb1⟩) | (go_at_call 142; (refine Calls.mono (SUM _ _ _ _ _ hr1 hm1 hs1).out ?_); rintro e w2 ⟨rfl, rfl⟩))
        have HB1 := Lib.hid (HB.out.trans (hb1.mono HB.out.size))
        clear hr1 hm1 hs1 hb1
        go_wp2_with (first | (go_at_call 144; (with_reducible refine Calls.mono (A1 _).out ?_); rintro e w3 ⟨rfl, rfl⟩) | (go_at_call 144; (with_reducible refine Calls.mono (A2 _).out ?_); rintro e w3 ⟨rfl, rfl⟩))
        go_roundw
        case rel => exact ⟨k + 1, pl, m, by omega, by go_num, by go_num, by go_num, HS.out, HB1.out⟩
        case measure => simp [intOf]; omega
    · obtain rfl : k = N + 1 := by omega
      go_wp2
      go_ret2
      exact ⟨by rw [HGR.out]; rfl, HB.out⟩
end Go.Proofs.Ytablphoicidlkaa
