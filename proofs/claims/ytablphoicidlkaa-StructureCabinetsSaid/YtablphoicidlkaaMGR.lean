/- The reference of cabinets: the check. -/
import Derived.BigQuiet
import Derived.Test.YtablphoicidlkaaMGL
import Derived.Test.YtablphoicidlkaaSX
namespace Go.Proofs.Ytablphoicidlkaa
open Go.RowKit

theorem rng_wb {n lo hi : Int} {b : Bool} (h : wiB n lo hi = b) : (rngE lo hi [n] == 0) = b := by
  rw [rng_wi, h]
  cases b <;> rfl
theorem first_two {x y : Int} (r : List Int) (h : (x == 0) = true) : firstE (x :: y :: r) = firstE (y :: r) := by rw [firstE_cons, h]; rfl
theorem mss_wi {a g : Int} {x y : Bool} (hx : wiB a (-3000) 3000 = x) (hy : wiB g 0 1000000 = y) : (mssE a g != 0) = (!x || !y) := by
  unfold mssE
  rw [rng_wi, rng_wi, hx, hy]
  cases x <;> cases y <;> rfl
theorem dw_wi {a g t : Int} {x y z : Bool} (hx : wiB a (-3000) 3000 = x) (hy : wiB g 0 1000000 = y) (hz : wiB t 0 3000 = z) : (dwE ⟨a, g, t⟩ != 0) = (!x || !y || !z) := by
  unfold dwE mssE
  simp only
  rw [rng_wi, rng_wi, rng_wi, hx, hy, hz]
  cases x <;> cases y <;> cases z <;> rfl
set_option maxHeartbeats 8000000 in
set_option maxRecDepth 20000 in
theorem rcheckCabinet_any {D : Int} {A A' : Option Addr} {n c n' c' : Nat} {ls : List Lp} {ds : List Dw} (w : World) (R1 : LpRow w A n ls) (R2 : DwRow w A' n' ds) (hn : n ≤ maxLen) (hn' : n' ≤ maxLen) :
    Calls Try.prog 74 #[cbV D A n c A' n' c'] w fun e w' => e = .returned (.int .i64 (cabE D ls ds)) ∧ Below w.heap.size w w' := by
  obtain ⟨V1, V2, V3, V4, V5⟩ := cab_vals (D := D) R1.1 R2.1
  have HV1 := Lib.hid V1
  have HV2 := Lib.hid V2
  have HV3 := Lib.hid V3
  have HV4 := Lib.hid V4
  have HV5 := Lib.hid V5
  have HR1 := Lib.hid R1
  have HR2 := Lib.hid R2
  have hl1 : ls.length ≤ n := by have := R1.1; omega
  have hl2 : ds.length ≤ n' := by have := R2.1; omega
  have hg1 : n ≤ ls.length := by have := R1.1; omega
  have hg2 : n' ≤ ds.length := by have := R2.1; omega
  have HWD : Hid (rngE 1 3000 [D] = bif wiB D 1 3000 then 0 else 2) := Lib.hid rng_wi
  clear V1 V2 V3 V4 V5 R1 R2
  unfold cbV
  unfold maxLen at hn hn'
  generalize cabE D ls ds = ce at *
  go_enter Try.func74, Try.ntmps74
  go_upto_region 1 with fail
  obtain ⟨w0, hw0⟩ : ∃ w0, (w.alloc (.cells #[.int .i64 D, .slice A n c, .slice A' n' c'] 119)) = w0 := ⟨_, rfl⟩
  have HB0 : Hid (Below w.heap.size w w0) := Lib.hid (by rw [← hw0]; exact ((Below.refl _ _).alloc (Nat.le_refl _) _))
  have HC := Lib.hid (fun wx (hb : Below w0.heap.size w0 wx) => (show wx.cell? ⟨w.heap.size, 0, none⟩ = some (.int .i64 D) ∧ wx.cell? ⟨w.heap.size, 1, none⟩ = some (.slice A n c) ∧ wx.cell? ⟨w.heap.size, 2, none⟩ = some (.slice A' n' c') from by
    subst hw0
    obtain ⟨k, kf⟩ := bcell hb
    exact ⟨(k _ _ (by simp; try omega)).trans (by simp [go_sem]), (k _ _ (by simp; try omega)).trans (by simp [go_sem]), (k _ _ (by simp; try omega)).trans (by simp [go_sem])⟩))
  rw [hw0]
  clear hw0
  have HZ0 := Lib.hid (Below.refl w0.heap.size w0)
  obtain ⟨c0, c1, c2⟩ := HC.out w0 HZ0.out
  cases hwd : wiB D 1 3000
  · have hv := Lib.hid (HV1.out (by rw [HWD.out, hwd]; decide))
    have hv2 := Lib.hid (show (2 : Int) = ce by rw [hv.out, HWD.out, hwd]; rfl)
    clear hv
    go_wp2_with (go_at_call 32; (refine (within_any _ _ _ _).mono ?_); rintro e w9 ⟨rfl, rfl⟩)
    go_ret
    exact ⟨ret_int hv2.out, HB0.out⟩
  have hrz := Lib.hid (show rngE 1 3000 [D] = 0 by rw [HWD.out, hwd]; rfl)
  by_cases h12 : 12 < n
  · have g1 : (12 : Int) < (n : Int) := by omega
    have g2 : decide ((12 : Int) < (n : Int)) = true := decide_eq_true g1
    have hv := Lib.hid (HV2.out hrz.out (.inl h12))
    go_wp2_with (go_at_call 32; (refine (within_any _ _ _ _).mono ?_); rintro e w9 ⟨rfl, rfl⟩)
    go_ret
    exact ⟨ret_int hv.out.symm, HB0.out⟩
  have g1 : ¬ (12 : Int) < (n : Int) := by omega
  have g2 : decide ((12 : Int) < (n : Int)) = false := decide_eq_false g1
  by_cases h13 : 12 < n'
  · have g3 : (12 : Int) < (n' : Int) := by omega
    have g4 : decide ((12 : Int) < (n' : Int)) = true := decide_eq_true g3
    have hv := Lib.hid (HV2.out hrz.out (.inr h13))
    go_wp2_with (go_at_call 32; (refine (within_any _ _ _ _).mono ?_); rintro e w9 ⟨rfl, rfl⟩)
    go_ret
    exact ⟨ret_int hv.out.symm, HB0.out⟩
  have g3 : ¬ (12 : Int) < (n' : Int) := by omega
  have g4 : decide ((12 : Int) < (n' : Int)) = false := decide_eq_false g3
  have K3 := Lib.hid (HV3.out hrz.out (by omega) (by omega))
  have K4 := Lib.hid (HV4.out hrz.out (by omega) (by omega))
  have K5 := Lib.hid (HV5.out hrz.out (by omega) (by omega))
  clear HV1 HV2 HV3 HV4 HV5 h12 h13
  have hn1 : n ≤ 12 := by omega
  have hn2 : n' ≤ 12 := by omega
  go_wp2_with (go_at_call 32; (refine (within_any _ _ _ _).mono ?_); rintro e w9 ⟨rfl, rfl⟩)
  go_loopw [3] (fun i wr => ∃ k : Nat, k ≤ n ∧ i = .int .i64 k ∧ (ls.take k).any (fun p => mssE p.a p.g != 0) = false ∧ Below w0.heap.size w0 wr) (fun i _ => n - (intOf i).toNat)
  case atStart => exact ⟨0, Nat.zero_le _, rfl, by simp, HZ0.out⟩
  case round =>
    obtain ⟨k, hk, rfl, hany, hbw⟩ := hrel
    clear c0 c1 c2
    have HB := Lib.hid hbw
    have HBW := Lib.hid (HB0.out.trans (hbw.mono HB0.out.size))
    obtain ⟨d0, d1, d2⟩ := HC.out wr hbw
    have HA := Lib.hid hany
    clear hbw hany
    by_cases hlt : k < n
    · have hkl : k < ls.length := by omega
      have hki : (k : Int) < (n : Int) := by omega
      obtain ⟨blk, off, rfl, hblk, hx⟩ := HR1.out.2 (by omega)
      have PP := (hx k hkl).below HBW.out hblk
      have HS := Lib.hid (fun h1 => any_takeP (fun p : Lp => mssE p.a p.g != 0) ls k hkl HA.out h1)
      have HS2 := Lib.hid (fun h1 => any_atP (fun p : Lp => mssE p.a p.g != 0) ls k hkl h1)
      obtain ⟨pt, hpe⟩ : ∃ x, ls[k] = x := ⟨_, rfl⟩
      rw [hpe] at PP HS HS2
      obtain ⟨a, g⟩ := pt
      unfold LpAt at PP
      simp only at PP HS HS2
      obtain ⟨p0, p1⟩ := PP
      clear hpe hx
      cases hwa : wiB a (-3000) 3000 <;> cases hwg : wiB g 0 1000000
      case true.true =>
        have HSN := Lib.hid (HS.out (mss_wi hwa hwg))
        clear HS HS2
        go_wp2_with (go_at_call 32; (refine (within_any _ _ _ _).mono ?_); rintro e w9 ⟨rfl, rfl⟩)
        go_roundw
        case rel => exact ⟨k + 1, by omega, by go_num, HSN.out, HB.out⟩
        case measure => simp [intOf]; omega
      all_goals
        have hv := Lib.hid (K3.out (HS2.out (mss_wi hwa hwg)))
        clear HS HS2
        go_wp2_with (go_at_call 32; (refine (within_any _ _ _ _).mono ?_); rintro e w9 ⟨rfl, rfl⟩)
        go_ret
        exact ⟨ret_int hv.out.symm, HBW.out⟩
    · obtain rfl : k = n := by omega
      have hall := HA.out
      rw [List.take_of_length_le hl1] at hall
      have K4b := Lib.hid (K4.out hall)
      have K5b := Lib.hid (K5.out hall)
      clear K3 K4 K5 hall HA
      have hki : ¬ (k : Int) < (k : Int) := by omega
      go_wp2
      obtain ⟨wq, rfl⟩ : ∃ wq, wq = wr := ⟨_, rfl⟩
      go_loopw [4] (fun i wr => ∃ j : Nat, j ≤ n' ∧ i = .int .i64 j ∧ (ds.take j).any (fun d => dwE d != 0) = false ∧ Below w0.heap.size w0 wr) (fun i _ => n' - (intOf i).toNat)
      case atStart => exact ⟨0, Nat.zero_le _, rfl, by simp, HB.out⟩
      case round =>
        obtain ⟨j, hj, rfl, hany, hbw⟩ := hrel
        clear d0 d1 d2
        have HBq := Lib.hid hbw
        have HBQ := Lib.hid (HB0.out.trans (hbw.mono HB0.out.size))
        obtain ⟨d0, d1, d2⟩ := HC.out _ hbw
        have HA := Lib.hid hany
        clear hbw hany
        by_cases hlt2 : j < n'
        · have hjl : j < ds.length := by omega
          have hji : (j : Int) < (n' : Int) := by omega
          obtain ⟨blk, off, rfl, hblk, hx⟩ := HR2.out.2 (by omega)
          have PP := (hx j hjl).below HBQ.out hblk
          have HS := Lib.hid (fun h1 => any_takeP (fun d : Dw => dwE d != 0) ds j hjl HA.out h1)
          have HS2 := Lib.hid (fun h1 => any_atP (fun d : Dw => dwE d != 0) ds j hjl h1)
          obtain ⟨pt, hpe⟩ : ∃ x, ds[j] = x := ⟨_, rfl⟩
          rw [hpe] at PP HS HS2
          obtain ⟨a, g, t⟩ := pt
          unfold DwAt at PP
          simp only at PP HS HS2
          obtain ⟨p0, p1, p2⟩ := PP
          clear hpe hx
          go_upto_region 14 with fail
          obtain ⟨w3, hw3⟩ : ∃ w3, wr.alloc (.cells #[.int .i64 a, .int .i64 g, .int .i64 t] 178) = w3 := ⟨_, rfl⟩
          have H3 : Hid (Below wr.heap.size wr w3) := Lib.hid (by rw [← hw3]; exact (Below.refl _ _).alloc (Nat.le_refl _) _)
          have H03 := Lib.hid (HBq.out.trans (H3.out.mono HBq.out.size))
          have q0 : w3.cell? ⟨wr.heap.size, 0, none⟩ = some (.int .i64 a) := by rw [← hw3]; simp [go_sem]
          have q1 : w3.cell? ⟨wr.heap.size, 1, none⟩ = some (.int .i64 g) := by rw [← hw3]; simp [go_sem]
          have q2 : w3.cell? ⟨wr.heap.size, 2, none⟩ = some (.int .i64 t) := by rw [← hw3]; simp [go_sem]
          rw [hw3]
          clear hw3 p0 p1 p2 d0 d1 d2
          obtain ⟨d0, d1, d2⟩ := HC.out w3 H03.out
          cases hwa : wiB a (-3000) 3000 <;> cases hwg : wiB g 0 1000000 <;> cases hwt : wiB t 0 3000
          case true.true.true =>
            have HSN := Lib.hid (HS.out (dw_wi hwa hwg hwt))
            clear HS HS2
            go_wp2_with (go_at_call 32; (refine (within_any _ _ _ _).mono ?_); rintro e w9 ⟨rfl, rfl⟩)
            go_roundw
            case rel => exact ⟨j + 1, by omega, by go_num, HSN.out, H03.out⟩
            case measure => simp [intOf]; omega
          all_goals
            have hv := Lib.hid (K4b.out (HS2.out (dw_wi hwa hwg hwt)))
            clear HS HS2
            go_wp2_with (go_at_call 32; (refine (within_any _ _ _ _).mono ?_); rintro e w9 ⟨rfl, rfl⟩)
            go_ret
            exact ⟨ret_int hv.out.symm, HB0.out.trans (H03.out.mono HB0.out.size)⟩
        · obtain rfl : j = n' := by omega
          have hall := HA.out
          rw [List.take_of_length_le hl2] at hall
          have hv := Lib.hid (K5b.out hall)
          clear hall HA
          have hji : ¬ (j : Int) < (j : Int) := by omega
          go_wp2
          go_ret
          exact ⟨ret_int hv.out.symm, HBQ.out⟩
set_option maxHeartbeats 2000000 in
theorem has_any {A : Option Addr} {n c : Nat} {op : List Int} {v : Int} (w : World) (R : IntRow w A n op) (hn : n ≤ maxLen) :
    Calls Try.prog 133 #[.slice A n c, .int .i64 v] w fun e w' => e = .returned (.bool (op.any (· == v))) ∧ w = w' := by
  have HR := Lib.hid R
  have hle : op.length ≤ n := by have := R.1; omega
  have hge : n ≤ op.length := by have := R.1; omega
  clear R
  unfold maxLen at hn
  go_enter Try.func133, Try.ntmps133
  go_wp2
  go_loop [5] (fun i => ∃ k : Nat, k ≤ n ∧ i = .int .i64 k ∧ (op.take k).any (· == v) = false) (fun i => n - (intOf i).toNat)
  case atStart => exact ⟨0, Nat.zero_le _, rfl, by simp⟩
  case round =>
    obtain ⟨k, hk, rfl, hany⟩ := hrel
    have HA := Lib.hid hany
    clear hany
    by_cases hlt : k < n
    · have hkl : k < op.length := by omega
      obtain ⟨blk, off, rfl, hb, hx⟩ := HR.out.2 (by omega)
      have hc : w.cell? ⟨blk, off + k * 1, none⟩ = some (.int .i64 op[k]) := hx k hkl
      rw [Nat.mul_one] at hc
      have HS := Lib.hid (fun h1 => any_takeP (fun x : Int => x == v) op k hkl HA.out h1)
      have HS2 := Lib.hid (fun h1 => any_atP (fun x : Int => x == v) op k hkl h1)
      obtain ⟨x, hxe⟩ : ∃ x, op[k] = x := ⟨_, rfl⟩
      rw [hxe] at hc HS HS2
      clear hxe hx
      by_cases h0 : x = v
      · subst h0
        have hv := Lib.hid (HS2.out (by simp))
        clear HS HS2
        go_wp2
        go_ret
        exact ⟨ret_bool hv.out.symm, rfl⟩
      · have e1 : (x == v) = false := by simpa using h0
        have HSN := Lib.hid (HS.out e1)
        clear HS HS2
        go_wp2
        go_round
        case rel => exact ⟨k + 1, by omega, by go_num, HSN.out⟩
        case measure => simp [intOf]; omega
    · have hv := HA.out
      rw [List.take_of_length_le (by omega)] at hv
      have HV := Lib.hid hv
      clear hv
      go_wp2
      go_ret
      exact ⟨ret_bool HV.out.symm, rfl⟩
end Go.Proofs.Ytablphoicidlkaa
namespace Go.Proofs.Ytablphoicidlkaa
open Go.RowKit

theorem open_wi {x : Int} {m : Nat} : (decide (x < 0) || decide ((m : Int) ≤ x)) = !wiB x 0 ((m : Int) - 1) := by
  unfold wiB
  rw [Bool.eq_iff_iff]
  simp
  omega
set_option maxHeartbeats 8000000 in
set_option maxRecDepth 20000 in
theorem rcheckOpen_any {D : Int} {A A' A3 : Option Addr} {n c n' c' n3 c3 : Nat} {op : List Int} (hn' : n' ≤ maxLen) (hn3 : n3 ≤ 20) (w : World) (R3 : IntRow w A3 n3 op) :
    Calls Try.prog 76 #[cbV D A n c A' n' c', .slice A3 n3 c3] w fun e w' => e = .returned (.int .i64 (opnE op n')) ∧ Below w.heap.size w w' := by
  obtain ⟨V1, V2, V3⟩ := opn_vals (op := op) (c := n')
  have HV1 := Lib.hid V1
  have HV2 := Lib.hid V2
  have HV3 := Lib.hid V3
  have HR := Lib.hid R3
  have hle : op.length ≤ n3 := by have := R3.1; omega
  have hge : n3 ≤ op.length := by have := R3.1; omega
  clear V1 V2 V3 R3
  unfold maxLen at hn'
  unfold cbV
  have hwr : IntKind.i64.wrap ((n' : Int) - 1) = (n' : Int) - 1 := by rw [IntKind.wrap_i64]; omega
  have HWR := Lib.hid hwr
  clear hwr
  generalize opnE op n' = ce at *
  go_enter Try.func76, Try.ntmps76
  go_upto_region 1 with fail
  obtain ⟨w0, hw0⟩ : ∃ w0, (w.alloc (.cells #[.int .i64 D, .slice A n c, .slice A' n' c'] 119)) = w0 := ⟨_, rfl⟩
  have HB0 : Hid (Below w.heap.size w w0) := Lib.hid (by rw [← hw0]; exact ((Below.refl _ _).alloc (Nat.le_refl _) _))
  have HC := Lib.hid (fun wx (hb : Below w0.heap.size w0 wx) => (show wx.cell? ⟨w.heap.size, 0, none⟩ = some (.int .i64 D) ∧ wx.cell? ⟨w.heap.size, 1, none⟩ = some (.slice A n c) ∧ wx.cell? ⟨w.heap.size, 2, none⟩ = some (.slice A' n' c') from by
    subst hw0
    obtain ⟨k, kf⟩ := bcell hb
    exact ⟨(k _ _ (by simp; try omega)).trans (by simp [go_sem]), (k _ _ (by simp; try omega)).trans (by simp [go_sem]), (k _ _ (by simp; try omega)).trans (by simp [go_sem])⟩))
  rw [hw0]
  clear hw0
  have HZ0 := Lib.hid (Below.refl w0.heap.size w0)
  go_wp2
  go_loopw [5] (fun i wr => ∃ k : Nat, k ≤ n3 ∧ i = .int .i64 k ∧ (op.take k).any (fun x => decide (x < 0) || decide ((n' : Int) ≤ x)) = false ∧ Below w0.heap.size w0 wr) (fun i _ => n3 - (intOf i).toNat)
  case atStart => exact ⟨0, Nat.zero_le _, rfl, by simp, HZ0.out⟩
  case round =>
    obtain ⟨k, hk, rfl, hany, hbw⟩ := hrel
    have HB := Lib.hid hbw
    have HBW := Lib.hid (HB0.out.trans (hbw.mono HB0.out.size))
    have HA := Lib.hid hany
    clear hbw hany
    by_cases hlt : k < n3
    · have hkl : k < op.length := by omega
      have hki : (k : Int) < (n3 : Int) := by omega
      have hk0 : (0 : Int) ≤ (k : Int) := by omega
      obtain ⟨blk, off, rfl, hblk, hx⟩ := HR.out.2 (by omega)
      have PP : wr.cell? ⟨blk, off + k * 1, none⟩ = _ := ((bcell HBW.out).1 _ _ hblk).trans (hx k hkl)
      rw [Nat.mul_one] at PP
      have HS := Lib.hid (fun h1 => any_takeP (fun x : Int => decide (x < 0) || decide ((n' : Int) ≤ x)) op k hkl HA.out h1)
      have HS2 := Lib.hid (fun h1 => any_atP (fun x : Int => decide (x < 0) || decide ((n' : Int) ≤ x)) op k hkl h1)
      obtain ⟨x, hpe⟩ : ∃ x, op[k] = x := ⟨_, rfl⟩
      rw [hpe] at PP HS HS2
      rw [open_wi] at HS HS2
      clear hpe hx
      have WN := fun wx => Lib.hid (within_any x 0 ((n' : Int) - 1) wx)
      have HP := Lib.hid PP
      have lb : blk < wr.heap.size := World.block_lt_of_cell? wr _ PP
      have HCB := Lib.hid (fun wx (hy : Below wr.heap.size wr wx) => And.intro (HC.out wx (HB.out.trans (hy.mono HB.out.size))).2.2 (((bcell hy).1 _ _ lb).trans HP.out))
      clear PP
      generalize wiB x 0 ((n' : Int) - 1) = wv at *
      go_upto_region 4 with fail
      refine wp_region_rk [13, 14, 15, 16, 17, 18, 19, 20, 21, 22] [rEq (.slice (some ⟨blk, off, none⟩) n3 c3), rEq (.int .i64 (k : Int)), rEq (.pointer (some ⟨blk, off + k, none⟩)), rEq (.int .i64 x), rEq (.pointer (some ⟨w.heap.size, 2, none⟩)), rEq (.slice A' n' c'), rEq (.int .i64 (n' : Int)), rEq (.int .i64 ((n' : Int) - 1)), rEq (.bool wv), rEq (.bool (!wv))] (by kernel_rfl) (by kernel_rfl) (by decide) rfl ⟨?_, ?_, ?_, ?_, ?_, ?_, ?_, ?_, ?_, ?_, trivial⟩ ?_
      · intro ac wx hf hb hd -- 0
        have f1 : ac.tmps[1]?.getD undef = .slice (some ⟨blk, off, none⟩) n3 c3 := by rw [← Array.getD_eq_getD_getElem?]; exact hf.same 1 (by decide)
        exact rstep_eq (by simp [execOp, Act.eval, f1, go_sem]) rfl
      · intro ac wx hf hb hd -- 1
        have f5 : ac.tmps[5]?.getD undef = .int .i64 (k : Int) := by rw [← Array.getD_eq_getD_getElem?]; exact hf.same 5 (by decide)
        exact rstep_eq (by simp [execOp, Act.eval, f5, go_sem]) rfl
      · intro ac wx hf hb hd -- 2
        have d0 : ac.tmps[13]?.getD undef = .slice (some ⟨blk, off, none⟩) n3 c3 := by rw [← Array.getD_eq_getD_getElem?]; exact hd 0 (by decide)
        have d1 : ac.tmps[14]?.getD undef = .int .i64 (k : Int) := by rw [← Array.getD_eq_getD_getElem?]; exact hd 1 (by decide)
        exact rstep_eq (by simp [execOp, Act.eval, d0, d1, hki, hk0, go_sem]) rfl
      · intro ac wx hf hb hd -- 3
        have d2 : ac.tmps[15]?.getD undef = .pointer (some ⟨blk, off + k, none⟩) := by rw [← Array.getD_eq_getD_getElem?]; exact hd 2 (by decide)
        obtain ⟨e2, p1⟩ := HCB.out wx hb
        exact rstep_eq (by simp [execOp, Act.eval, d2, p1, go_sem]) rfl
      · intro ac wx hf hb hd -- 4
        have f2 : ac.tmps[2]?.getD undef = .pointer (some ⟨w.heap.size, 0, none⟩) := by rw [← Array.getD_eq_getD_getElem?]; exact hf.same 2 (by decide)
        exact rstep_eq (by simp [execOp, Act.eval, f2, go_sem]) rfl
      · intro ac wx hf hb hd -- 5
        have d4 : ac.tmps[17]?.getD undef = .pointer (some ⟨w.heap.size, 2, none⟩) := by rw [← Array.getD_eq_getD_getElem?]; exact hd 4 (by decide)
        obtain ⟨e2, p1⟩ := HCB.out wx hb
        exact rstep_eq (by simp [execOp, Act.eval, d4, e2, go_sem]) rfl
      · intro ac wx hf hb hd -- 6
        have d5 : ac.tmps[18]?.getD undef = .slice A' n' c' := by rw [← Array.getD_eq_getD_getElem?]; exact hd 5 (by decide)
        exact rstep_eq (by simp [Act.eval, d5, go_sem]) rfl
      · intro ac wx hf hb hd -- 7
        have d6 : ac.tmps[19]?.getD undef = .int .i64 (n' : Int) := by rw [← Array.getD_eq_getD_getElem?]; exact hd 6 (by decide)
        exact rstep_eq (by simp [execOp, Act.eval, d6, HWR.out, go_sem]) rfl
      · intro ac wx hf hb hd -- 8
        have d3 : ac.tmps[16]?.getD undef = .int .i64 x := by rw [← Array.getD_eq_getD_getElem?]; exact hd 3 (by decide)
        have d7 : ac.tmps[20]?.getD undef = .int .i64 ((n' : Int) - 1) := by rw [← Array.getD_eq_getD_getElem?]; exact hd 7 (by decide)
        refine rstep_call (f := 32) (args := #[.int .i64 x, .int .i64 0, .int .i64 ((n' : Int) - 1)]) (by simp [Act.eval, d3, d7, go_sem]) ?_ rfl
        exact (WN wx).out.mono fun e w' ⟨he, hw⟩ => ⟨he, hw ▸ Below.refl _ _⟩
      · intro ac wx hf hb hd -- 9
        have d8 : ac.tmps[21]?.getD undef = .bool wv := by rw [← Array.getD_eq_getD_getElem?]; exact hd 8 (by decide)
        exact rstep_eq (by simp [execOp, Act.eval, d8, go_sem]) rfl
      rintro ⟨⟨ll⟩, df⟩ wx hf hb hall
      have hdf : df = [] := hf.defers
      subst hdf
      have hsz : ll.length = 39 := hf.size
      obtain ⟨x0, ll0, rfl, hsz0⟩ := cons_of hsz
      obtain ⟨x1, ll1, rfl, hsz1⟩ := cons_of hsz0
      obtain ⟨x2, ll2, rfl, hsz2⟩ := cons_of hsz1
      obtain ⟨x3, ll3, rfl, hsz3⟩ := cons_of hsz2
      obtain ⟨x4, ll4, rfl, hsz4⟩ := cons_of hsz3
      obtain ⟨x5, ll5, rfl, hsz5⟩ := cons_of hsz4
      obtain ⟨x6, ll6, rfl, hsz6⟩ := cons_of hsz5
      obtain ⟨x7, ll7, rfl, hsz7⟩ := cons_of hsz6
      obtain ⟨x8, ll8, rfl, hsz8⟩ := cons_of hsz7
      obtain ⟨x9, ll9, rfl, hsz9⟩ := cons_of hsz8
      obtain ⟨x10, ll10, rfl, hsz10⟩ := cons_of hsz9
      obtain ⟨x11, ll11, rfl, hsz11⟩ := cons_of hsz10
      obtain ⟨x12, ll12, rfl, hsz12⟩ := cons_of hsz11
      obtain ⟨x13, ll13, rfl, hsz13⟩ := cons_of hsz12
      obtain ⟨x14, ll14, rfl, hsz14⟩ := cons_of hsz13
      obtain ⟨x15, ll15, rfl, hsz15⟩ := cons_of hsz14
      obtain ⟨x16, ll16, rfl, hsz16⟩ := cons_of hsz15
      obtain ⟨x17, ll17, rfl, hsz17⟩ := cons_of hsz16
      obtain ⟨x18, ll18, rfl, hsz18⟩ := cons_of hsz17
      obtain ⟨x19, ll19, rfl, hsz19⟩ := cons_of hsz18
      obtain ⟨x20, ll20, rfl, hsz20⟩ := cons_of hsz19
      obtain ⟨x21, ll21, rfl, hsz21⟩ := cons_of hsz20
      obtain ⟨x22, ll22, rfl, hsz22⟩ := cons_of hsz21
      obtain ⟨x23, ll23, rfl, hsz23⟩ := cons_of hsz22
      obtain ⟨x24, ll24, rfl, hsz24⟩ := cons_of hsz23
      obtain ⟨x25, ll25, rfl, hsz25⟩ := cons_of hsz24
      obtain ⟨x26, ll26, rfl, hsz26⟩ := cons_of hsz25
      obtain ⟨x27, ll27, rfl, hsz27⟩ := cons_of hsz26
      obtain ⟨x28, ll28, rfl, hsz28⟩ := cons_of hsz27
      obtain ⟨x29, ll29, rfl, hsz29⟩ := cons_of hsz28
      obtain ⟨x30, ll30, rfl, hsz30⟩ := cons_of hsz29
      obtain ⟨x31, ll31, rfl, hsz31⟩ := cons_of hsz30
      obtain ⟨x32, ll32, rfl, hsz32⟩ := cons_of hsz31
      obtain ⟨x33, ll33, rfl, hsz33⟩ := cons_of hsz32
      obtain ⟨x34, ll34, rfl, hsz34⟩ := cons_of hsz33
      obtain ⟨x35, ll35, rfl, hsz35⟩ := cons_of hsz34
      obtain ⟨x36, ll36, rfl, hsz36⟩ := cons_of hsz35
      obtain ⟨x37, ll37, rfl, hsz37⟩ := cons_of hsz36
      obtain ⟨x38, ll38, rfl, hsz38⟩ := cons_of hsz37
      obtain rfl := List.eq_nil_of_length_eq_zero hsz38
      obtain rfl : x0 = .agg #[.int .i64 D, .slice A n c, .slice A' n' c'] := hf.same 0 (by decide)
      obtain rfl : x1 = .slice (some ⟨blk, off, none⟩) n3 c3 := hf.same 1 (by decide)
      obtain rfl : x2 = .pointer (some ⟨w.heap.size, 0, none⟩) := hf.same 2 (by decide)
      obtain rfl : x3 = undef := hf.same 3 (by decide)
      obtain rfl : x5 = .int .i64 (k : Int) := hf.same 5 (by decide)
      obtain rfl : x6 = undef := hf.same 6 (by decide)
      obtain rfl : x7 = .int .i64 (k : Int) := hf.same 7 (by decide)
      obtain rfl : x8 = .slice (some ⟨blk, off, none⟩) n3 c3 := hf.same 8 (by decide)
      obtain rfl : x9 = .int .i64 (n3 : Int) := hf.same 9 (by decide)
      obtain rfl : x10 = .bool true := hf.same 10 (by decide)
      obtain rfl : x13 = .slice (some ⟨blk, off, none⟩) n3 c3 := hall 0 13 rfl
      obtain rfl : x14 = .int .i64 (k : Int) := hall 1 14 rfl
      obtain rfl : x15 = .pointer (some ⟨blk, off + k, none⟩) := hall 2 15 rfl
      obtain rfl : x16 = .int .i64 x := hall 3 16 rfl
      obtain rfl : x17 = .pointer (some ⟨w.heap.size, 2, none⟩) := hall 4 17 rfl
      obtain rfl : x18 = .slice A' n' c' := hall 5 18 rfl
      obtain rfl : x19 = .int .i64 (n' : Int) := hall 6 19 rfl
      obtain rfl : x20 = .int .i64 ((n' : Int) - 1) := hall 7 20 rfl
      obtain rfl : x21 = .bool wv := hall 8 21 rfl
      obtain rfl : x22 = .bool (!wv) := hall 9 22 rfl
      obtain rfl : x23 = undef := hf.same 23 (by decide)
      obtain rfl : x24 = undef := hf.same 24 (by decide)
      obtain rfl : x25 = undef := hf.same 25 (by decide)
      obtain rfl : x26 = undef := hf.same 26 (by decide)
      obtain rfl : x27 = undef := hf.same 27 (by decide)
      obtain rfl : x28 = undef := hf.same 28 (by decide)
      obtain rfl : x29 = undef := hf.same 29 (by decide)
      obtain rfl : x30 = undef := hf.same 30 (by decide)
      obtain rfl : x31 = undef := hf.same 31 (by decide)
      obtain rfl : x32 = undef := hf.same 32 (by decide)
      obtain rfl : x33 = undef := hf.same 33 (by decide)
      obtain rfl : x34 = undef := hf.same 34 (by decide)
      obtain rfl : x35 = undef := hf.same 35 (by decide)
      obtain rfl : x36 = undef := hf.same 36 (by decide)
      obtain rfl : x37 = undef := hf.same 37 (by decide)
      obtain rfl : x38 = undef := hf.same 38 (by decide)
      clear hall hf
      have H5 := Lib.hid (HB.out.trans (hb.mono HB.out.size))
      clear hb hsz hsz0 hsz1 hsz2 hsz3 hsz4 hsz5 hsz6 hsz7 hsz8 hsz9 hsz10 hsz11 hsz12 hsz13 hsz14 hsz15 hsz16 hsz17 hsz18 hsz19 hsz20 hsz21 hsz22 hsz23 hsz24 hsz25 hsz26 hsz27 hsz28 hsz29 hsz30 hsz31 hsz32 hsz33 hsz34 hsz35 hsz36 hsz37 hsz38
      cases wv
      · have hv := Lib.hid (HV1.out (HS2.out rfl))
        clear HS HS2
        go_wp2
        go_ret
        exact ⟨ret_int hv.out.symm, HB0.out.trans (H5.out.mono HB0.out.size)⟩
      · have HSN := Lib.hid (HS.out rfl)
        clear HS HS2
        go_wp2
        go_roundw
        case rel => exact ⟨k + 1, by omega, by go_num, HSN.out, H5.out⟩
        case measure => simp [intOf]; omega
    · obtain rfl : k = n3 := by omega
      have hall := HA.out
      rw [List.take_of_length_le hle] at hall
      have K2 := Lib.hid (HV2.out hall)
      have K3 := Lib.hid (HV3.out hall)
      clear HV1 HV2 HV3 hall HA
      have hki : ¬ (k : Int) < (k : Int) := by omega
      go_wp2
      obtain ⟨wq, rfl⟩ : ∃ wq, wq = wr := ⟨_, rfl⟩
      go_loopw [6] (fun i wr => ∃ j : Nat, 1 ≤ j ∧ (j ≤ k ∨ j = 1) ∧ i = .int .i64 j ∧ (∀ i (h : i + 1 < op.length), i + 1 < j → op[i] < op[i + 1]) ∧ Below w0.heap.size w0 wr) (fun i _ => k + 1 - (intOf i).toNat)
      case atStart => exact ⟨1, Nat.le_refl _, .inr rfl, rfl, fun i h hi => absurd hi (by omega), HB.out⟩
      case round =>
        obtain ⟨j, hj1, hj, rfl, hasc, hbw⟩ := hrel
        have HBq := Lib.hid hbw
        have HBQ := Lib.hid (HB0.out.trans (hbw.mono HB0.out.size))
        have HS := Lib.hid hasc
        clear hbw hasc
        by_cases hlt2 : j < k
        · have hjl : j < op.length := by omega
          have hji : (j : Int) < (k : Int) := by omega
          have hnn : (0 : Int) ≤ (j : Int) := by omega
          obtain ⟨blk, off, rfl, hblk, hx⟩ := HR.out.2 (by omega)
          obtain ⟨i, hi1⟩ : ∃ i, i + 1 = j := ⟨j - 1, by omega⟩
          have HI := Lib.hid hi1
          have hil : i < op.length := by omega
          have hii : (i : Int) < (k : Int) := by omega
          have hi0 : (0 : Int) ≤ (i : Int) := by omega
          have hsub : IntKind.i64.wrap ((j : Int) - 1) = (i : Int) := by rw [IntKind.wrap_i64]; omega
          have P1 : wr.cell? ⟨blk, off + i * 1, none⟩ = _ := ((bcell HBQ.out).1 _ _ hblk).trans (hx i hil)
          have P2 : wr.cell? ⟨blk, off + j * 1, none⟩ = _ := ((bcell HBQ.out).1 _ _ hblk).trans (hx j hjl)
          rw [Nat.mul_one] at P1 P2
          have HAS := Lib.hid (fun (h : ¬ op[j] ≤ op[i]) => asc_step HS.out HI.out hjl h)
          have HNO := Lib.hid (fun (h : op[j] ≤ op[i]) => K3.out (asc_no2 HI.out hjl h))
          obtain ⟨x, hxe⟩ : ∃ x, op[i] = x := ⟨_, rfl⟩
          obtain ⟨y, hye⟩ : ∃ y, op[j] = y := ⟨_, rfl⟩
          rw [hxe] at P1
          rw [hye] at P2
          rw [hxe, hye] at HAS HNO
          clear hxe hye hx hi1
          have HP := Lib.hid (And.intro P1 P2)
          have lb : blk < wr.heap.size := World.block_lt_of_cell? wr _ P1
          have HCB := Lib.hid (fun wx (hy : Below wr.heap.size wr wx) => And.intro (((bcell hy).1 _ _ lb).trans HP.out.1) (((bcell hy).1 _ _ lb).trans HP.out.2))
          clear P1 P2
          obtain ⟨vv, hvv⟩ : ∃ vv, decide (y ≤ x) = vv := ⟨_, rfl⟩
          go_upto_region 9 with fail
          refine wp_region_rk [29, 30, 31, 32, 33, 34, 35, 36, 37, 38] [rEq (.slice (some ⟨blk, off, none⟩) k c3), rEq (.int .i64 (j : Int)), rEq (.int .i64 (i : Int)), rEq (.pointer (some ⟨blk, off + i, none⟩)), rEq (.int .i64 x), rEq (.slice (some ⟨blk, off, none⟩) k c3), rEq (.int .i64 (j : Int)), rEq (.pointer (some ⟨blk, off + j, none⟩)), rEq (.int .i64 y), rEq (.bool vv)] (by kernel_rfl) (by kernel_rfl) (by decide) rfl ⟨?_, ?_, ?_, ?_, ?_, ?_, ?_, ?_, ?_, ?_, trivial⟩ ?_
          · intro ac wx hf hb hd -- 0
            have f1 : ac.tmps[1]?.getD undef = .slice (some ⟨blk, off, none⟩) k c3 := by rw [← Array.getD_eq_getD_getElem?]; exact hf.same 1 (by decide)
            exact rstep_eq (by simp [execOp, Act.eval, f1, go_sem]) rfl
          · intro ac wx hf hb hd -- 1
            have f6 : ac.tmps[6]?.getD undef = .int .i64 (j : Int) := by rw [← Array.getD_eq_getD_getElem?]; exact hf.same 6 (by decide)
            exact rstep_eq (by simp [execOp, Act.eval, f6, go_sem]) rfl
          · intro ac wx hf hb hd -- 2
            have d1 : ac.tmps[30]?.getD undef = .int .i64 (j : Int) := by rw [← Array.getD_eq_getD_getElem?]; exact hd 1 (by decide)
            exact rstep_eq (by simp [execOp, Act.eval, d1, hsub, go_sem]) rfl
          · intro ac wx hf hb hd -- 3
            have d0 : ac.tmps[29]?.getD undef = .slice (some ⟨blk, off, none⟩) k c3 := by rw [← Array.getD_eq_getD_getElem?]; exact hd 0 (by decide)
            have d2 : ac.tmps[31]?.getD undef = .int .i64 (i : Int) := by rw [← Array.getD_eq_getD_getElem?]; exact hd 2 (by decide)
            exact rstep_eq (by simp [execOp, Act.eval, d0, d2, hii, hi0, go_sem]) rfl
          · intro ac wx hf hb hd -- 4
            have d3 : ac.tmps[32]?.getD undef = .pointer (some ⟨blk, off + i, none⟩) := by rw [← Array.getD_eq_getD_getElem?]; exact hd 3 (by decide)
            obtain ⟨p1, p2⟩ := HCB.out wx hb
            exact rstep_eq (by simp [execOp, Act.eval, d3, p1, go_sem]) rfl
          · intro ac wx hf hb hd -- 5
            have f1 : ac.tmps[1]?.getD undef = .slice (some ⟨blk, off, none⟩) k c3 := by rw [← Array.getD_eq_getD_getElem?]; exact hf.same 1 (by decide)
            exact rstep_eq (by simp [execOp, Act.eval, f1, go_sem]) rfl
          · intro ac wx hf hb hd -- 6
            have f6 : ac.tmps[6]?.getD undef = .int .i64 (j : Int) := by rw [← Array.getD_eq_getD_getElem?]; exact hf.same 6 (by decide)
            exact rstep_eq (by simp [execOp, Act.eval, f6, go_sem]) rfl
          · intro ac wx hf hb hd -- 7
            have d5 : ac.tmps[34]?.getD undef = .slice (some ⟨blk, off, none⟩) k c3 := by rw [← Array.getD_eq_getD_getElem?]; exact hd 5 (by decide)
            have d6 : ac.tmps[35]?.getD undef = .int .i64 (j : Int) := by rw [← Array.getD_eq_getD_getElem?]; exact hd 6 (by decide)
            exact rstep_eq (by simp [execOp, Act.eval, d5, d6, hji, hnn, go_sem]) rfl
          · intro ac wx hf hb hd -- 8
            have d7 : ac.tmps[36]?.getD undef = .pointer (some ⟨blk, off + j, none⟩) := by rw [← Array.getD_eq_getD_getElem?]; exact hd 7 (by decide)
            obtain ⟨p1, p2⟩ := HCB.out wx hb
            exact rstep_eq (by simp [execOp, Act.eval, d7, p2, go_sem]) rfl
          · intro ac wx hf hb hd -- 9
            have d4 : ac.tmps[33]?.getD undef = .int .i64 x := by rw [← Array.getD_eq_getD_getElem?]; exact hd 4 (by decide)
            have d8 : ac.tmps[37]?.getD undef = .int .i64 y := by rw [← Array.getD_eq_getD_getElem?]; exact hd 8 (by decide)
            exact rstep_eq (by simp [execOp, Act.eval, d4, d8, hvv, go_sem]) rfl
          rintro ⟨⟨ll⟩, df⟩ wx hf hb hall
          have hdf : df = [] := hf.defers
          subst hdf
          have hsz : ll.length = 39 := hf.size
          obtain ⟨x0, ll0, rfl, hsz0⟩ := cons_of hsz
          obtain ⟨x1, ll1, rfl, hsz1⟩ := cons_of hsz0
          obtain ⟨x2, ll2, rfl, hsz2⟩ := cons_of hsz1
          obtain ⟨x3, ll3, rfl, hsz3⟩ := cons_of hsz2
          obtain ⟨x4, ll4, rfl, hsz4⟩ := cons_of hsz3
          obtain ⟨x5, ll5, rfl, hsz5⟩ := cons_of hsz4
          obtain ⟨x6, ll6, rfl, hsz6⟩ := cons_of hsz5
          obtain ⟨x7, ll7, rfl, hsz7⟩ := cons_of hsz6
          obtain ⟨x8, ll8, rfl, hsz8⟩ := cons_of hsz7
          obtain ⟨x9, ll9, rfl, hsz9⟩ := cons_of hsz8
          obtain ⟨x10, ll10, rfl, hsz10⟩ := cons_of hsz9
          obtain ⟨x11, ll11, rfl, hsz11⟩ := cons_of hsz10
          obtain ⟨x12, ll12, rfl, hsz12⟩ := cons_of hsz11
          obtain ⟨x13, ll13, rfl, hsz13⟩ := cons_of hsz12
          obtain ⟨x14, ll14, rfl, hsz14⟩ := cons_of hsz13
          obtain ⟨x15, ll15, rfl, hsz15⟩ := cons_of hsz14
          obtain ⟨x16, ll16, rfl, hsz16⟩ := cons_of hsz15
          obtain ⟨x17, ll17, rfl, hsz17⟩ := cons_of hsz16
          obtain ⟨x18, ll18, rfl, hsz18⟩ := cons_of hsz17
          obtain ⟨x19, ll19, rfl, hsz19⟩ := cons_of hsz18
          obtain ⟨x20, ll20, rfl, hsz20⟩ := cons_of hsz19
          obtain ⟨x21, ll21, rfl, hsz21⟩ := cons_of hsz20
          obtain ⟨x22, ll22, rfl, hsz22⟩ := cons_of hsz21
          obtain ⟨x23, ll23, rfl, hsz23⟩ := cons_of hsz22
          obtain ⟨x24, ll24, rfl, hsz24⟩ := cons_of hsz23
          obtain ⟨x25, ll25, rfl, hsz25⟩ := cons_of hsz24
          obtain ⟨x26, ll26, rfl, hsz26⟩ := cons_of hsz25
          obtain ⟨x27, ll27, rfl, hsz27⟩ := cons_of hsz26
          obtain ⟨x28, ll28, rfl, hsz28⟩ := cons_of hsz27
          obtain ⟨x29, ll29, rfl, hsz29⟩ := cons_of hsz28
          obtain ⟨x30, ll30, rfl, hsz30⟩ := cons_of hsz29
          obtain ⟨x31, ll31, rfl, hsz31⟩ := cons_of hsz30
          obtain ⟨x32, ll32, rfl, hsz32⟩ := cons_of hsz31
          obtain ⟨x33, ll33, rfl, hsz33⟩ := cons_of hsz32
          obtain ⟨x34, ll34, rfl, hsz34⟩ := cons_of hsz33
          obtain ⟨x35, ll35, rfl, hsz35⟩ := cons_of hsz34
          obtain ⟨x36, ll36, rfl, hsz36⟩ := cons_of hsz35
          obtain ⟨x37, ll37, rfl, hsz37⟩ := cons_of hsz36
          obtain ⟨x38, ll38, rfl, hsz38⟩ := cons_of hsz37
          obtain rfl := List.eq_nil_of_length_eq_zero hsz38
          obtain rfl : x0 = .agg #[.int .i64 D, .slice A n c, .slice A' n' c'] := hf.same 0 (by decide)
          obtain rfl : x1 = .slice (some ⟨blk, off, none⟩) k c3 := hf.same 1 (by decide)
          obtain rfl : x2 = .pointer (some ⟨w.heap.size, 0, none⟩) := hf.same 2 (by decide)
          obtain rfl : x3 = undef := hf.same 3 (by decide)
          obtain rfl : x5 = .int .i64 (k : Int) := hf.same 5 (by decide)
          obtain rfl : x6 = .int .i64 (j : Int) := hf.same 6 (by decide)
          obtain rfl : x7 = .int .i64 (k : Int) := hf.same 7 (by decide)
          obtain rfl : x8 = .slice (some ⟨blk, off, none⟩) k c3 := hf.same 8 (by decide)
          obtain rfl : x9 = .int .i64 (k : Int) := hf.same 9 (by decide)
          obtain rfl : x10 = .bool false := hf.same 10 (by decide)
          obtain rfl : x11 = u11 := hf.same 11 (by decide)
          obtain rfl : x12 = u12 := hf.same 12 (by decide)
          obtain rfl : x13 = u13 := hf.same 13 (by decide)
          obtain rfl : x14 = u14 := hf.same 14 (by decide)
          obtain rfl : x15 = u15 := hf.same 15 (by decide)
          obtain rfl : x16 = u16 := hf.same 16 (by decide)
          obtain rfl : x17 = u17 := hf.same 17 (by decide)
          obtain rfl : x18 = u18 := hf.same 18 (by decide)
          obtain rfl : x19 = u19 := hf.same 19 (by decide)
          obtain rfl : x20 = u20 := hf.same 20 (by decide)
          obtain rfl : x21 = u21 := hf.same 21 (by decide)
          obtain rfl : x22 = u22 := hf.same 22 (by decide)
          obtain rfl : x29 = .slice (some ⟨blk, off, none⟩) k c3 := hall 0 29 rfl
          obtain rfl : x30 = .int .i64 (j : Int) := hall 1 30 rfl
          obtain rfl : x31 = .int .i64 (i : Int) := hall 2 31 rfl
          obtain rfl : x32 = .pointer (some ⟨blk, off + i, none⟩) := hall 3 32 rfl
          obtain rfl : x33 = .int .i64 x := hall 4 33 rfl
          obtain rfl : x34 = .slice (some ⟨blk, off, none⟩) k c3 := hall 5 34 rfl
          obtain rfl : x35 = .int .i64 (j : Int) := hall 6 35 rfl
          obtain rfl : x36 = .pointer (some ⟨blk, off + j, none⟩) := hall 7 36 rfl
          obtain rfl : x37 = .int .i64 y := hall 8 37 rfl
          obtain rfl : x38 = .bool vv := hall 9 38 rfl
          clear hall hf
          have H5 := Lib.hid (HBq.out.trans (hb.mono HBq.out.size))
          clear hb hsz hsz0 hsz1 hsz2 hsz3 hsz4 hsz5 hsz6 hsz7 hsz8 hsz9 hsz10 hsz11 hsz12 hsz13 hsz14 hsz15 hsz16 hsz17 hsz18 hsz19 hsz20 hsz21 hsz22 hsz23 hsz24 hsz25 hsz26 hsz27 hsz28 hsz29 hsz30 hsz31 hsz32 hsz33 hsz34 hsz35 hsz36 hsz37 hsz38
          cases vv
          · have HSN := Lib.hid (HAS.out (of_decide_eq_false hvv))
            clear HAS HNO hvv
            go_wp2
            go_roundw
            case rel => exact ⟨j + 1, by omega, by omega, by go_num, HSN.out, H5.out⟩
            case measure => simp [intOf]; omega
          · have hv := Lib.hid (HNO.out (of_decide_eq_true hvv))
            clear HAS HNO hvv
            go_wp2
            go_ret
            exact ⟨ret_int hv.out.symm, HB0.out.trans (H5.out.mono HB0.out.size)⟩
        · have ha : ascB op = true := ascB_iff.2 fun i h => HS.out i h (by omega)
          have hv := Lib.hid (K2.out ha)
          clear ha HS
          have hji : ¬ (j : Int) < (k : Int) := by omega
          go_wp2
          go_ret
          exact ⟨ret_int hv.out.symm, HBQ.out⟩
end Go.Proofs.Ytablphoicidlkaa
namespace Go.Proofs.Ytablphoicidlkaa
open Go.RowKit

theorem sumI_bd {f : Nat → Dw → Int} {B : Nat} : ∀ (l : List Dw) (j : Nat), (∀ d ∈ l, ∀ k, (f k d).natAbs ≤ B) → (sumI f j l).natAbs ≤ l.length * B
  | [], _, _ => by simp [sumI]
  | d :: r, j, h => by
    have h1 := h d (List.mem_cons_self ..) j
    have h2 := sumI_bd r (j + 1) fun x hx => h x (List.mem_cons_of_mem _ hx)
    show (f j d + sumI f (j + 1) r).natAbs ≤ (r.length + 1) * B
    rw [Nat.add_mul]
    omega
theorem refT_bd {D : Int} {op : List Int} {k : Nat} {d : Dw} (d0 : 1 ≤ D) (d1 : D ≤ 3000) (h : ((-3000 ≤ d.a ∧ d.a ≤ 3000) ∧ (0 ≤ d.g ∧ d.g ≤ 1000000)) ∧ (0 ≤ d.t ∧ d.t ≤ 3000)) : (refT D op k d).natAbs ≤ 9000000000 := by
  unfold refT
  have E1 : Ev d.g d.g 1000000 := .of (by omega)
  cases op.any (· == (k : Int))
  · have E2 : Ev (D - d.a) (D - d.a) 9000 := .of (by omega)
    exact ev_bd (Ev.mul E1 E2) (by decide +kernel)
  · have E2 : Ev (D - (d.a + d.t)) (D - (d.a + d.t)) 9000 := .of (by omega)
    exact ev_bd (Ev.mul E1 E2) (by decide +kernel)
set_option maxHeartbeats 8000000 in
set_option maxRecDepth 20000 in
theorem rbalance_any {D : Int} {A A' A3 : Option Addr} {n c n' c' n3 c3 : Nat} {ls : List Lp} {ds : List Dw} {op : List Int} (h : CabOk D ls ds) (ho : ∀ x ∈ op, 0 ≤ x ∧ x < ds.length) (ha : ascB op = true) (hn3 : n3 ≤ 20) (w : World) (R1 : LpRow w A n ls) (R2 : DwRow w A' n' ds) (R3 : IntRow w A3 n3 op) :
    Calls Try.prog 77 #[cbV D A n c A' n' c', .slice A3 n3 c3] w fun e w' => e = .returned (.int .i64 (bal D ls ds op)) ∧ Below w.heap.size w w' := by
  have HR1 := Lib.hid R1
  have HR2 := Lib.hid R2
  have hl1 : ls.length ≤ n := by have := R1.1; omega
  have hl2 : ds.length ≤ n' := by have := R2.1; omega
  have hg1 : n ≤ ls.length := by have := R1.1; omega
  have hg2 : n' ≤ ds.length := by have := R2.1; omega
  have hn1 : n ≤ 12 := by have := h.nl; omega
  have hn2 : n' ≤ 12 := by have := h.nd; omega
  have B1 := Lib.hid (sum_small (f := fun p : Lp => p.g * (D - p.a)) (l := ls) (B := 6000000000) (N := 12) (by omega) (fun p hp => term_bd h.d0 h.d1 (h.lp p hp)))
  have B2 := Lib.hid (fun j => (Nat.le_trans (sumI_bd (f := refT D op) (B := 9000000000) (ds.take j) 0 fun d hd k => refT_bd h.d0 h.d1 (h.dw d (List.mem_of_mem_take hd))) (Nat.mul_le_mul_right _ (show (ds.take j).length ≤ 12 by rw [List.length_take]; omega)) : (sumI (refT D op) 0 (ds.take j)).natAbs ≤ 12 * 9000000000))
  have HH := Lib.hid (fun (wx : World) (hx : Below w.heap.size w wx) (v : Int) => has_any (c := c3) (v := v) wx (R3.below hx) (by unfold maxLen; omega))
  have HL := Lib.hid h.lp
  have HDw := Lib.hid h.dw
  have hd0 := h.d0; have hd1 := h.d1
  have HBL := Lib.hid (bal_ref (D := D) (ls := ls) ho ha)
  clear R1 R2 R3 h ho ha hn3
  unfold cbV
  generalize bal D ls ds op = bb at *
  go_enter Try.func77, Try.ntmps77
  go_upto_region 1 with fail
  obtain ⟨w0, hw0⟩ : ∃ w0, (w.alloc (.cells #[.int .i64 D, .slice A n c, .slice A' n' c'] 119)) = w0 := ⟨_, rfl⟩
  have HB0 : Hid (Below w.heap.size w w0) := Lib.hid (by rw [← hw0]; exact ((Below.refl _ _).alloc (Nat.le_refl _) _))
  have HC := Lib.hid (fun wx (hb : Below w0.heap.size w0 wx) => (show wx.cell? ⟨w.heap.size, 0, none⟩ = some (.int .i64 D) ∧ wx.cell? ⟨w.heap.size, 1, none⟩ = some (.slice A n c) ∧ wx.cell? ⟨w.heap.size, 2, none⟩ = some (.slice A' n' c') from by
    subst hw0
    obtain ⟨k, kf⟩ := bcell hb
    exact ⟨(k _ _ (by simp; try omega)).trans (by simp [go_sem]), (k _ _ (by simp; try omega)).trans (by simp [go_sem]), (k _ _ (by simp; try omega)).trans (by simp [go_sem])⟩))
  rw [hw0]
  clear hw0
  have HZ0 := Lib.hid (Below.refl w0.heap.size w0)
  go_wp2
  go_loopw [5, 6] (fun b i wr => ∃ k : Nat, k ≤ n ∧ i = .int .i64 k ∧ b = .int .i64 (sumL (fun p => p.g * (D - p.a)) (ls.take k)) ∧ Below w0.heap.size w0 wr) (fun _ i _ => n - (intOf i).toNat)
  case atStart => exact ⟨0, Nat.zero_le _, rfl, rfl, HZ0.out⟩
  case round =>
    obtain ⟨k, hk, rfl, rfl, hbw⟩ := hrel
    have HB := Lib.hid hbw
    have HBW := Lib.hid (HB0.out.trans (hbw.mono HB0.out.size))
    obtain ⟨d0, d1, d2⟩ := HC.out wr hbw
    clear hbw
    by_cases hlt : k < n
    · have hkl : k < ls.length := by omega
      have hki : (k : Int) < (n : Int) := by omega
      obtain ⟨blk, off, rfl, hblk, hx⟩ := HR1.out.2 (by omega)
      have PP := (hx k hkl).below HBW.out hblk
      have hm := HL.out _ (List.getElem_mem hkl)
      have HST := Lib.hid (sumL_take_succ (fun p : Lp => p.g * (D - p.a)) ls hkl)
      have b1 := B1.out k
      obtain ⟨pt, hpe⟩ : ∃ x, ls[k] = x := ⟨_, rfl⟩
      rw [hpe] at PP HST hm
      obtain ⟨a, g⟩ := pt
      unfold LpAt at PP
      simp only at PP HST hm
      obtain ⟨p0, p1⟩ := PP
      clear hpe hx
      have t1 := term_bd hd0 hd1 hm
      generalize sumL (fun p : Lp => p.g * (D - p.a)) (ls.take k) = sk at *
      obtain ⟨x1, x2⟩ := wI (x := D - a) (by omega)
      obtain ⟨x3, x4⟩ := wI (x := g * (D - a)) (by omega)
      obtain ⟨x5, x6⟩ := wI (x := sk + g * (D - a)) (by omega)
      clear B1 b1 t1 hm
      go_wp2
      go_quiet (fail)
      go_wp2
      go_roundw
      case rel => exact ⟨k + 1, by omega, by go_num, by rw [HST.out], below_drewN HB.out _⟩
      case measure => simp [intOf]; omega
    · obtain rfl : k = n := by omega
      rw [List.take_of_length_le hl1]
      have b1 := B1.out k
      rw [List.take_of_length_le hl1] at b1
      clear HL B1
      generalize sumL (fun p : Lp => p.g * (D - p.a)) ls = s1 at *
      have hki : ¬ (k : Int) < (k : Int) := by omega
      go_wp2
      obtain ⟨wq, rfl⟩ : ∃ wq, wq = wr := ⟨_, rfl⟩
      go_loopw [5, 7] (fun b i wr => ∃ j : Nat, j ≤ n' ∧ i = .int .i64 j ∧ b = .int .i64 (s1 + sumI (refT D op) 0 (ds.take j)) ∧ Below w0.heap.size w0 wr) (fun _ i _ => n' - (intOf i).toNat)
      case atStart => exact ⟨0, Nat.zero_le _, rfl, by show Value.int .i64 s1 = .int .i64 (s1 + 0); rw [Int.add_zero], HB.out⟩
      case round =>
        obtain ⟨j, hj, rfl, rfl, hbw⟩ := hrel
        clear d0 d1 d2
        have HBq := Lib.hid hbw
        have HBQ := Lib.hid (HB0.out.trans (hbw.mono HB0.out.size))
        obtain ⟨d0, d1, d2⟩ := HC.out wr hbw
        clear hbw
        by_cases hlt2 : j < n'
        · have hjl : j < ds.length := by omega
          have hji : (j : Int) < (n' : Int) := by omega
          obtain ⟨blk, off, rfl, hblk, hx⟩ := HR2.out.2 (by omega)
          have PP := (hx j hjl).below HBQ.out hblk
          have hm := HDw.out _ (List.getElem_mem hjl)
          have HST := Lib.hid (sumI_take (refT D op) ds 0 j hjl)
          rw [Nat.zero_add] at HST
          have b2 := B2.out j
          have HHx := Lib.hid (HH.out wr HBQ.out (j : Int))
          obtain ⟨pt, hpe⟩ : ∃ x, ds[j] = x := ⟨_, rfl⟩
          rw [hpe] at PP HST hm
          have t1 := refT_bd (op := op) (k := j) hd0 hd1 hm
          have HRT : Hid (refT D op j pt = pt.g * (D - (bif op.any (· == (j : Int)) then pt.a + pt.t else pt.a))) := Lib.hid rfl
          generalize refT D op j pt = rt at *
          obtain ⟨a, g, t⟩ := pt
          unfold DwAt at PP
          simp only at PP HRT hm
          obtain ⟨p0, p1, p2⟩ := PP
          clear hpe hx B2
          generalize sumI (refT D op) 0 (ds.take j) = sj at *
          generalize op.any (· == (j : Int)) = hb at *
          cases hb
          · simp only [cond_false] at HRT
            have hrt := HRT.out
            subst hrt
            obtain ⟨x1, x2⟩ := wI (x := D - a) (by omega)
            obtain ⟨x3, x4⟩ := wI (x := g * (D - a)) (by omega)
            obtain ⟨x5, x6⟩ := wI (x := s1 + sj + g * (D - a)) (by omega)
            clear HRT t1 b1 b2 hm
            go_wp2_with (go_at_call 133; (with_reducible refine Calls.mono HHx.out ?_); rintro e w5 ⟨rfl, rfl⟩)
            go_quiet (fail)
            go_wp2
            go_roundw
            case rel => exact ⟨j + 1, by omega, by go_num, by rw [HST.out, ← Int.add_assoc], below_drewN HBq.out _⟩
            case measure => simp [intOf]; omega
          · simp only [cond_true] at HRT
            have hrt := HRT.out
            subst hrt
            obtain ⟨x7, x8⟩ := wI (x := a + t) (by omega)
            obtain ⟨x1, x2⟩ := wI (x := D - (a + t)) (by omega)
            obtain ⟨x3, x4⟩ := wI (x := g * (D - (a + t))) (by omega)
            obtain ⟨x5, x6⟩ := wI (x := s1 + sj + g * (D - (a + t))) (by omega)
            clear HRT t1 b1 b2 hm
            go_wp2_with (go_at_call 133; (with_reducible refine Calls.mono HHx.out ?_); rintro e w5 ⟨rfl, rfl⟩)
            go_quiet (fail)
            go_wp2
            go_roundw
            case rel => exact ⟨j + 1, by omega, by go_num, by rw [HST.out, ← Int.add_assoc], below_drewN HBq.out _⟩
            case measure => simp [intOf]; omega
        · obtain rfl : j = n' := by omega
          have hv := HBL.out
          rw [List.take_of_length_le hl2]
          have hji : ¬ (j : Int) < (j : Int) := by omega
          have HV := Lib.hid hv
          clear hv HBL B2
          generalize sumI (refT D op) 0 ds = s2 at *
          go_wp2
          go_ret
          exact ⟨ret_int HV.out, HBQ.out⟩
end Go.Proofs.Ytablphoicidlkaa
