/- Walks over the solid seat: the law of the group, over what its callees give. -/
import Derived.Test.YtcboppdjjpeeoaaGreatProg
import Derived.WalkKit
import Derived.WalkLawsBesides
import Derived.WalkSpells
import Derived.Lib.Hide
import Derived.Handy
import Derived.IntWalk
import Derived.Deep.DeepCutAuto
import Derived.Deep.CutBlock
import Derived.Deep.CutRange
import Derived.Below
namespace Go.Proofs.YtcboppdjjpeeoaaGreat
open Go Go.RowKit
theorem bcellx {W w1 : World} (hb : Below W.heap.size W w1) : (∀ b o, b < W.heap.size → w1.cell? ⟨b, o, none⟩ = W.cell? ⟨b, o, none⟩) ∧ (∀ b o, b < W.heap.size → w1.frozen? ⟨b, o, none⟩ = W.frozen? ⟨b, o, none⟩) :=
  ⟨fun b o h => hb.cell (p := ⟨b, o, none⟩) h, fun b o h => hb.frozen (p := ⟨b, o, none⟩) h⟩
set_option maxHeartbeats 8000000 in
set_option maxRecDepth 20000 in
theorem walk_main {t0 t1 t2 x y z : Int} (w : World) (awake_any : ∀ w, Calls Tryz.prog 8 #[] w fun e w' => e = .returned (.bool true) ∧ Below w.heap.size w w')
   {tp tq tx : Int} (la lb : Bool) (hla : decide (t0 < 24) = la) (hlb : decide (t1 < 24) = lb) (hpe : decide (tp < 24) = (la == lb))
   (F : ∀ wx, Hid (Calls Tryz.prog 38 #[.agg #[.int .i64 x, .int .i64 y, .int .i64 z]] wx fun e w' => e = .returned (.bool false) ∧ Below wx.heap.size wx w'))
   (B1 : ∀ wx, Hid (Calls Tryz.prog 37 #[.int .i64 t0, .int .i64 t1] wx fun e w' => e = .returned (.tuple #[.int .i64 tp, .int .i64 0]) ∧ Below wx.heap.size wx w'))
   (B2 : ∀ wx, Hid (Calls Tryz.prog 37 #[.int .i64 t1, .int .i64 t2] wx fun e w' => e = .returned (.tuple #[.int .i64 tq, .int .i64 0]) ∧ Below wx.heap.size wx w'))
   (B3 : ∀ wx, Hid (Calls Tryz.prog 37 #[.int .i64 tp, .int .i64 t2] wx fun e w' => e = .returned (.tuple #[.int .i64 tx, .int .i64 0]) ∧ Below wx.heap.size wx w'))
   (B4 : ∀ wx, Hid (Calls Tryz.prog 37 #[.int .i64 t0, .int .i64 tq] wx fun e w' => e = .returned (.tuple #[.int .i64 tx, .int .i64 0]) ∧ Below wx.heap.size wx w'))
   (B5 : ∀ wx, Hid (Calls Tryz.prog 37 #[.int .i64 t0, .int .i64 0] wx fun e w' => e = .returned (.tuple #[.int .i64 t0, .int .i64 0]) ∧ Below wx.heap.size wx w'))
   (B6 : ∀ wx, Hid (Calls Tryz.prog 37 #[.int .i64 0, .int .i64 t0] wx fun e w' => e = .returned (.tuple #[.int .i64 t0, .int .i64 0]) ∧ Below wx.heap.size wx w'))
   (cnt z' : Nat → Int) (cb : ∀ k, Hid (0 ≤ cnt k ∧ cnt k ≤ k)) (c0 : cnt 0 = 0) (cS : ∀ k, Hid (cnt (k + 1) = if z' k = 0 then cnt k + 1 else cnt k)) (c48 : Hid (cnt 48 = 1))
   {x1 y1 z1 x2 y2 z2 : Int}
   (T1 : ∀ wx, Hid (Calls Tryz.prog 39 #[.agg #[.int .i64 x, .int .i64 y, .int .i64 z], .int .i64 t0] wx fun e w' => e = .returned (.tuple #[.agg #[.int .i64 x1, .int .i64 y1, .int .i64 z1], .int .i64 0]) ∧ Below wx.heap.size wx w'))
   (T2 : ∀ wx, Hid (Calls Tryz.prog 39 #[.agg #[.int .i64 x1, .int .i64 y1, .int .i64 z1], .int .i64 t1] wx fun e w' => e = .returned (.tuple #[.agg #[.int .i64 x2, .int .i64 y2, .int .i64 z2], .int .i64 0]) ∧ Below wx.heap.size wx w'))
   (T3 : ∀ wx, Hid (Calls Tryz.prog 39 #[.agg #[.int .i64 x, .int .i64 y, .int .i64 z], .int .i64 tp] wx fun e w' => e = .returned (.tuple #[.agg #[.int .i64 x2, .int .i64 y2, .int .i64 z2], .int .i64 0]) ∧ Below wx.heap.size wx w'))
   (EQ : ∀ (a b c : Int) wx, (Op.equalIn 10000 76 (.agg #[.int .i64 a, .int .i64 b, .int .i64 c]) (.agg #[.int .i64 a, .int .i64 b, .int .i64 c])).run Tryz.prog wx = .ok true wx)
   (BK : Hid (∀ k : Nat, k < 48 → ∀ wx, Hid (Calls Tryz.prog 37 #[.int .i64 t0, .int .i64 k] wx fun e w' => e = .returned (.tuple #[.int .i64 (z' k), .int .i64 0]) ∧ Below wx.heap.size wx w')))
   (R0 : ∀ w, Hid (Calls Tryz.prog 36 #[.int .i64 t0] w fun e w' => e = .returned (.bool true) ∧ w = w')) (R1 : ∀ w, Hid (Calls Tryz.prog 36 #[.int .i64 t1] w fun e w' => e = .returned (.bool true) ∧ w = w')) (R2 : ∀ w, Hid (Calls Tryz.prog 36 #[.int .i64 t2] w fun e w' => e = .returned (.bool true) ∧ w = w')) (RP : ∀ w, Hid (Calls Tryz.prog 36 #[.int .i64 tp] w fun e w' => e = .returned (.bool true) ∧ w = w')) (RQ : ∀ w, Hid (Calls Tryz.prog 36 #[.int .i64 tq] w fun e w' => e = .returned (.bool true) ∧ w = w')) :
    Calls Tryz.prog 7 #[.agg #[.int .i64 t0, .int .i64 t1, .int .i64 t2], .agg #[.int .i64 x, .int .i64 y, .int .i64 z]] w fun e w' => e = .returned (.bool true) ∧ Below w.heap.size w w' := by
  have HBL := Lib.hid (show Below w.heap.size w ((w.alloc (.cells #[.int .i64 t0, .int .i64 t1, .int .i64 t2] 76)).alloc (.cells #[.int .i64 x, .int .i64 y, .int .i64 z] 76)) from ((Below.refl _ _).alloc (Nat.le_refl _) _).alloc (by simp) _)
  go_enter Tryz.func7, Tryz.ntmps7
  go_upto_region 1 with (fail)
  go_upto_block 0 with (go_at_call 8; refine (awake_any _).mono ?_; rintro e w1 ⟨rfl, hb1⟩; have hs1 : w.heap.size + 1 < w1.heap.size := (by have := hb1.size; (try simp at this); omega); have ht1 : w.heap.size < w1.heap.size := (by omega); obtain ⟨hc1, hf1⟩ := bcellx hb1)
  go_cut [4] (fun v wx => v = .bool false ∧ wx = w1)
  case first =>
    go_wp2_with fail
    refine wp_loop_rounds 4 ?_
    rw [rounds_succ]
    go_wp2_with (go_at_call 36; (refine Calls.mono (R0 _).out ?_; rintro e w2 ⟨rfl, rfl⟩))
    rw [rounds_succ]
    go_wp2_with (go_at_call 36; (refine Calls.mono (R1 _).out ?_; rintro e w2 ⟨rfl, rfl⟩))
    rw [rounds_succ]
    go_wp2_with (go_at_call 36; (refine Calls.mono (R2 _).out ?_; rintro e w2 ⟨rfl, rfl⟩))
    rw [rounds_succ]
    go_wp2_with fail
    go_meet
    exact ⟨rfl, rfl⟩
  case rest =>
    obtain ⟨rfl, rfl⟩ := hcut
    rename_i K hK
    apply hK
    go_upto_region 11 with (go_at_call 38; (refine Calls.mono (F _).out ?_); rintro e w2 ⟨rfl, hq2⟩; have hb2 := (show Below _ _ w2 from by first | exact hb1.trans (hq2.mono hb1.size) | exact hb1.drew.trans (hq2.mono hb1.size)); have hs2 : w.heap.size + 1 < w2.heap.size := (by have := hb2.size; (try simp at this); omega); have ht2 : w.heap.size < w2.heap.size := (by omega); obtain ⟨hc2, hf2⟩ := bcellx hb2)
    go_upto_region 13 with (go_at_call 37; (refine Calls.mono (B1 _).out ?_); rintro e w3 ⟨rfl, hq3⟩; have hb3 := (show Below _ _ w3 from by first | exact hb2.trans (hq3.mono hb2.size) | exact hb2.drew.trans (hq3.mono hb2.size)); have hs3 : w.heap.size + 1 < w3.heap.size := (by have := hb3.size; (try simp at this); omega); have ht3 : w.heap.size < w3.heap.size := (by omega); obtain ⟨hc3, hf3⟩ := bcellx hb3)
    go_upto_region 14 with (go_at_call 37; (refine Calls.mono (B2 _).out ?_); rintro e w4 ⟨rfl, hq4⟩; have hb4 := (show Below _ _ w4 from by first | exact hb3.trans (hq4.mono hb3.size) | exact hb3.drew.trans (hq4.mono hb3.size)); have hs4 : w.heap.size + 1 < w4.heap.size := (by have := hb4.size; (try simp at this); omega); have ht4 : w.heap.size < w4.heap.size := (by omega); obtain ⟨hc4, hf4⟩ := bcellx hb4)
    go_upto_region 16 with (go_at_call 36; (first | (refine Calls.mono (RP _).out ?_; rintro e w' ⟨rfl, rfl⟩) | (refine Calls.mono (RQ _).out ?_; rintro e w' ⟨rfl, rfl⟩)))
    go_upto_region 17 with (go_at_call 37; (refine Calls.mono (B3 _).out ?_); rintro e w5 ⟨rfl, hq5⟩; have hb5 := (show Below _ _ w5 from by first | exact hb4.trans (hq5.mono hb4.size) | exact hb4.drew.trans (hq5.mono hb4.size)); have hs5 : w.heap.size + 1 < w5.heap.size := (by have := hb5.size; (try simp at this); omega); have ht5 : w.heap.size < w5.heap.size := (by omega); obtain ⟨hc5, hf5⟩ := bcellx hb5)
    go_upto_region 18 with (go_at_call 37; (refine Calls.mono (B4 _).out ?_); rintro e w6 ⟨rfl, hq6⟩; have hb6 := (show Below _ _ w6 from by first | exact hb5.trans (hq6.mono hb5.size) | exact hb5.drew.trans (hq6.mono hb5.size)); have hs6 : w.heap.size + 1 < w6.heap.size := (by have := hb6.size; (try simp at this); omega); have ht6 : w.heap.size < w6.heap.size := (by omega); obtain ⟨hc6, hf6⟩ := bcellx hb6)
    go_upto_region 19 with (go_at_call 37; (refine Calls.mono (B5 _).out ?_); rintro e w7 ⟨rfl, hq7⟩; have hb7 := (show Below _ _ w7 from by first | exact hb6.trans (hq7.mono hb6.size) | exact hb6.drew.trans (hq7.mono hb6.size)); have hs7 : w.heap.size + 1 < w7.heap.size := (by have := hb7.size; (try simp at this); omega); have ht7 : w.heap.size < w7.heap.size := (by omega); obtain ⟨hc7, hf7⟩ := bcellx hb7)
    go_upto_region 20 with (go_at_call 37; (refine Calls.mono (B6 _).out ?_); rintro e w8 ⟨rfl, hq8⟩; have hb8 := (show Below _ _ w8 from by first | exact hb7.trans (hq8.mono hb7.size) | exact hb7.drew.trans (hq8.mono hb7.size)); have hs8 : w.heap.size + 1 < w8.heap.size := (by have := hb8.size; (try simp at this); omega); have ht8 : w.heap.size < w8.heap.size := (by omega); obtain ⟨hc8, hf8⟩ := bcellx hb8)
    have C0 := Lib.hid c0
    clear c0
    go_upto_block 2 with fail
    go_cut [22] (fun v wx => v = .int .i64 (cnt 48) ∧ Below ((w.alloc (.cells #[.int .i64 t0, .int .i64 t1, .int .i64 t2] 76)).alloc (.cells #[.int .i64 x, .int .i64 y, .int .i64 z] 76)).heap.size ((w.alloc (.cells #[.int .i64 t0, .int .i64 t1, .int .i64 t2] 76)).alloc (.cells #[.int .i64 x, .int .i64 y, .int .i64 z] 76)) wx)
    case first =>
      go_wp2_with fail
      obtain ⟨wo, rfl⟩ : ∃ wo : World, wo = w8 := ⟨_, rfl⟩
      go_loopw [22, 23] (fun b i wr => ∃ k : Nat, k ≤ 48 ∧ i = .int .i64 k ∧ b = .int .i64 (cnt k) ∧ Below ((w.alloc (.cells #[.int .i64 t0, .int .i64 t1, .int .i64 t2] 76)).alloc (.cells #[.int .i64 x, .int .i64 y, .int .i64 z] 76)).heap.size ((w.alloc (.cells #[.int .i64 t0, .int .i64 t1, .int .i64 t2] 76)).alloc (.cells #[.int .i64 x, .int .i64 y, .int .i64 z] 76)) wr) (fun _ i _ => 48 - (intOf i).toNat)
      case atStart => exact ⟨0, by omega, rfl, by rw [C0.out], hb8⟩
      case round =>
        obtain ⟨k, hk, rfl, rfl, hb9⟩ := hrel
        have hs9 : w.heap.size + 1 < wr.heap.size := (by have := hb9.size; (try simp at this); omega)
        have ht9 : w.heap.size < wr.heap.size := (by omega)
        obtain ⟨hc9, hf9⟩ := bcellx hb9
        by_cases hlt : k < 48
        · have B := fun wx => BK.out k hlt wx
          have CS := cS k
          have hcb := (cb k).out
          by_cases hz : z' k = 0
          · rw [hz] at B
            have CS' := Lib.hid (CS.out.trans (if_pos hz))
            clear CS hz
            go_wp2_with (go_at_call 37; (refine Calls.mono (B _).out ?_); rintro e w10 ⟨rfl, hq10⟩; have hb10 := (show Below _ _ w10 from hb9.trans (hq10.mono hb9.size)); have hs10 : w.heap.size + 1 < w10.heap.size := (by have := hb10.size; (try simp at this); omega); have ht10 : w.heap.size < w10.heap.size := (by omega); obtain ⟨hc10, hf10⟩ := bcellx hb10)
            go_roundw
            case rel => exact ⟨k + 1, by omega, by go_num, by rw [CS'.out], hb10⟩
            case measure => simp [intOf]; omega
          · have CS' := Lib.hid (CS.out.trans (if_neg hz))
            have hz' : (z' k == 0) = false := by simpa using hz
            clear CS hz
            go_wp2_with (go_at_call 37; (refine Calls.mono (B _).out ?_); rintro e w10 ⟨rfl, hq10⟩; have hb10 := (show Below _ _ w10 from hb9.trans (hq10.mono hb9.size)); have hs10 : w.heap.size + 1 < w10.heap.size := (by have := hb10.size; (try simp at this); omega); have ht10 : w.heap.size < w10.heap.size := (by omega); obtain ⟨hc10, hf10⟩ := bcellx hb10)
            go_roundw
            case rel => exact ⟨k + 1, by omega, by go_num, by rw [CS'.out], hb10⟩
            case measure => simp [intOf]; omega
        · have hk' : k = 48 := by omega
          subst hk'
          go_wp2_with fail
          go_meet
          exact ⟨rfl, hb9⟩
    case rest =>
      obtain ⟨rfl, hb9⟩ := hcut
      rw [c48.out]
      have hs9 : w.heap.size + 1 < wc.heap.size := (by have := hb9.size; (try simp at this); omega)
      have ht9 : w.heap.size < wc.heap.size := (by omega)
      obtain ⟨hc9, hf9⟩ := bcellx hb9
      rename_i K2 hK2
      apply hK2
      go_upto_region 32 with (go_at_call 39; (refine Calls.mono (T1 _).out ?_); rintro e w11 ⟨rfl, hq11⟩; have hb11 := (show Below _ _ w11 from hb9.trans (hq11.mono hb9.size)); have hs11 : w.heap.size + 1 < w11.heap.size := (by have := hb11.size; (try simp at this); omega); have ht11 : w.heap.size < w11.heap.size := (by omega); obtain ⟨hc11, hf11⟩ := bcellx hb11)
      go_upto_region 33 with (go_at_call 39; (refine Calls.mono (T2 _).out ?_); rintro e w12 ⟨rfl, hq12⟩; have hs12 : w11.heap.size + 1 ≤ w12.heap.size := (by have := hq12.size; (try simp at this); omega); have ht12 : w.heap.size + 1 < w12.heap.size := (by omega); obtain ⟨hc12, hf12⟩ := bcellx hq12)
      go_upto_region 34 with (go_at_call 39; (refine Calls.mono (T3 _).out ?_); rintro e w13 ⟨rfl, hq13⟩; have hs13 : w12.heap.size + 1 ≤ w13.heap.size := (by have := hq13.size; (try simp at this); omega); have ht13 : w.heap.size + 1 < w13.heap.size := (by omega); obtain ⟨hc13, hf13⟩ := bcellx hq13)
      have hu12 : w12.heap.size < w13.heap.size := by omega
      go_wp2_with fail
      have A1 : Below w.heap.size w w11 := HBL.out.trans (hb11.mono (by simp; omega))
      have A2 : Below w.heap.size w w12 := (A1.alloc (by omega) _).trans (hq12.mono (by simp; omega))
      have A3 : Below w.heap.size w w13 := (A2.alloc (by omega) _).trans (hq13.mono (by simp; omega))
      go_ret
      exact ⟨rfl, A3.alloc (by omega) _⟩
set_option maxHeartbeats 4000000 in
set_option maxRecDepth 20000 in
theorem walk_bad0 {t0 t1 t2 x y z : Int} (w : World) (awake_any : ∀ w, Calls Tryz.prog 8 #[] w fun e w' => e = .returned (.bool true) ∧ Below w.heap.size w w')
    (R0 : ∀ w, Hid (Calls Tryz.prog 36 #[.int .i64 t0] w fun e w' => e = .returned (.bool false) ∧ w = w'))
   (P : ∀ w, Hid (Calls Tryz.prog 37 #[.int .i64 t0, .int .i64 0] w fun e w' => e = .returned (.tuple #[.int .i64 0, .int .i64 2]) ∧ w = w'))
   (Q : ∀ w, Hid (Calls Tryz.prog 37 #[.int .i64 0, .int .i64 t0] w fun e w' => e = .returned (.tuple #[.int .i64 0, .int .i64 2]) ∧ w = w')) :
    Calls Tryz.prog 7 #[.agg #[.int .i64 t0, .int .i64 t1, .int .i64 t2], .agg #[.int .i64 x, .int .i64 y, .int .i64 z]] w fun e w' => e = .returned (.bool true) ∧ Below w.heap.size w w' := by
  have HBL := Lib.hid (show Below w.heap.size w ((w.alloc (.cells #[.int .i64 t0, .int .i64 t1, .int .i64 t2] 76)).alloc (.cells #[.int .i64 x, .int .i64 y, .int .i64 z] 76)) from ((Below.refl _ _).alloc (Nat.le_refl _) _).alloc (by simp) _)
  go_enter Tryz.func7, Tryz.ntmps7
  go_upto_region 1 with (fail)
  go_upto_block 0 with (go_at_call 8; refine (awake_any _).mono ?_; rintro e w1 ⟨rfl, hb1⟩; have hs1 : w.heap.size + 1 < w1.heap.size := (by have := hb1.size; (try simp at this); omega); have ht1 : w.heap.size < w1.heap.size := (by omega); obtain ⟨hc1, hf1⟩ := bcellx hb1)
  go_wp2_with fail
  refine wp_loop_rounds 4 ?_
  rw [rounds_succ]
  go_upto_region 7 with (go_at_call 36; (refine Calls.mono (R0 _).out ?_; rintro e w2 ⟨rfl, rfl⟩))
  go_upto_region 8 with (go_at_call 37; (refine Calls.mono (P _).out ?_; rintro e w2 ⟨rfl, rfl⟩))
  go_upto_region 9 with (go_at_call 37; (refine Calls.mono (Q _).out ?_; rintro e w2 ⟨rfl, rfl⟩))
  go_wp2_with fail
  go_ret
  exact ⟨rfl, HBL.out.trans (hb1.mono (by simp; omega))⟩
set_option maxHeartbeats 4000000 in
set_option maxRecDepth 20000 in
theorem walk_bad1 {t0 t1 t2 x y z : Int} (w : World) (awake_any : ∀ w, Calls Tryz.prog 8 #[] w fun e w' => e = .returned (.bool true) ∧ Below w.heap.size w w')
   (R0 : ∀ w, Hid (Calls Tryz.prog 36 #[.int .i64 t0] w fun e w' => e = .returned (.bool true) ∧ w = w')) (R1 : ∀ w, Hid (Calls Tryz.prog 36 #[.int .i64 t1] w fun e w' => e = .returned (.bool false) ∧ w = w'))
   (P : ∀ w, Hid (Calls Tryz.prog 37 #[.int .i64 t1, .int .i64 0] w fun e w' => e = .returned (.tuple #[.int .i64 0, .int .i64 2]) ∧ w = w'))
   (Q : ∀ w, Hid (Calls Tryz.prog 37 #[.int .i64 0, .int .i64 t1] w fun e w' => e = .returned (.tuple #[.int .i64 0, .int .i64 2]) ∧ w = w')) :
    Calls Tryz.prog 7 #[.agg #[.int .i64 t0, .int .i64 t1, .int .i64 t2], .agg #[.int .i64 x, .int .i64 y, .int .i64 z]] w fun e w' => e = .returned (.bool true) ∧ Below w.heap.size w w' := by
  have HBL := Lib.hid (show Below w.heap.size w ((w.alloc (.cells #[.int .i64 t0, .int .i64 t1, .int .i64 t2] 76)).alloc (.cells #[.int .i64 x, .int .i64 y, .int .i64 z] 76)) from ((Below.refl _ _).alloc (Nat.le_refl _) _).alloc (by simp) _)
  go_enter Tryz.func7, Tryz.ntmps7
  go_upto_region 1 with (fail)
  go_upto_block 0 with (go_at_call 8; refine (awake_any _).mono ?_; rintro e w1 ⟨rfl, hb1⟩; have hs1 : w.heap.size + 1 < w1.heap.size := (by have := hb1.size; (try simp at this); omega); have ht1 : w.heap.size < w1.heap.size := (by omega); obtain ⟨hc1, hf1⟩ := bcellx hb1)
  go_wp2_with fail
  refine wp_loop_rounds 4 ?_
  rw [rounds_succ]
  go_wp2_with (go_at_call 36; (refine Calls.mono (R0 _).out ?_; rintro e w2 ⟨rfl, rfl⟩))
  rw [rounds_succ]
  go_upto_region 7 with (go_at_call 36; (refine Calls.mono (R1 _).out ?_; rintro e w2 ⟨rfl, rfl⟩))
  go_upto_region 8 with (go_at_call 37; (refine Calls.mono (P _).out ?_; rintro e w2 ⟨rfl, rfl⟩))
  go_upto_region 9 with (go_at_call 37; (refine Calls.mono (Q _).out ?_; rintro e w2 ⟨rfl, rfl⟩))
  go_wp2_with fail
  go_ret
  exact ⟨rfl, HBL.out.trans (hb1.mono (by simp; omega))⟩
set_option maxHeartbeats 4000000 in
set_option maxRecDepth 20000 in
theorem walk_bad2 {t0 t1 t2 x y z : Int} (w : World) (awake_any : ∀ w, Calls Tryz.prog 8 #[] w fun e w' => e = .returned (.bool true) ∧ Below w.heap.size w w')
   (R0 : ∀ w, Hid (Calls Tryz.prog 36 #[.int .i64 t0] w fun e w' => e = .returned (.bool true) ∧ w = w')) (R1 : ∀ w, Hid (Calls Tryz.prog 36 #[.int .i64 t1] w fun e w' => e = .returned (.bool true) ∧ w = w')) (R2 : ∀ w, Hid (Calls Tryz.prog 36 #[.int .i64 t2] w fun e w' => e = .returned (.bool false) ∧ w = w'))
   (P : ∀ w, Hid (Calls Tryz.prog 37 #[.int .i64 t2, .int .i64 0] w fun e w' => e = .returned (.tuple #[.int .i64 0, .int .i64 2]) ∧ w = w'))
   (Q : ∀ w, Hid (Calls Tryz.prog 37 #[.int .i64 0, .int .i64 t2] w fun e w' => e = .returned (.tuple #[.int .i64 0, .int .i64 2]) ∧ w = w')) :
    Calls Tryz.prog 7 #[.agg #[.int .i64 t0, .int .i64 t1, .int .i64 t2], .agg #[.int .i64 x, .int .i64 y, .int .i64 z]] w fun e w' => e = .returned (.bool true) ∧ Below w.heap.size w w' := by
  have HBL := Lib.hid (show Below w.heap.size w ((w.alloc (.cells #[.int .i64 t0, .int .i64 t1, .int .i64 t2] 76)).alloc (.cells #[.int .i64 x, .int .i64 y, .int .i64 z] 76)) from ((Below.refl _ _).alloc (Nat.le_refl _) _).alloc (by simp) _)
  go_enter Tryz.func7, Tryz.ntmps7
  go_upto_region 1 with (fail)
  go_upto_block 0 with (go_at_call 8; refine (awake_any _).mono ?_; rintro e w1 ⟨rfl, hb1⟩; have hs1 : w.heap.size + 1 < w1.heap.size := (by have := hb1.size; (try simp at this); omega); have ht1 : w.heap.size < w1.heap.size := (by omega); obtain ⟨hc1, hf1⟩ := bcellx hb1)
  go_wp2_with fail
  refine wp_loop_rounds 4 ?_
  rw [rounds_succ]
  go_wp2_with (go_at_call 36; (refine Calls.mono (R0 _).out ?_; rintro e w2 ⟨rfl, rfl⟩))
  rw [rounds_succ]
  go_wp2_with (go_at_call 36; (refine Calls.mono (R1 _).out ?_; rintro e w2 ⟨rfl, rfl⟩))
  rw [rounds_succ]
  go_upto_region 7 with (go_at_call 36; (refine Calls.mono (R2 _).out ?_; rintro e w2 ⟨rfl, rfl⟩))
  go_upto_region 8 with (go_at_call 37; (refine Calls.mono (P _).out ?_; rintro e w2 ⟨rfl, rfl⟩))
  go_upto_region 9 with (go_at_call 37; (refine Calls.mono (Q _).out ?_; rintro e w2 ⟨rfl, rfl⟩))
  go_wp2_with fail
  go_ret
  exact ⟨rfl, HBL.out.trans (hb1.mono (by simp; omega))⟩
set_option maxHeartbeats 4000000 in
set_option maxRecDepth 20000 in
theorem walk_far {t0 t1 t2 x y z : Int} (w : World) (awake_any : ∀ w, Calls Tryz.prog 8 #[] w fun e w' => e = .returned (.bool true) ∧ Below w.heap.size w w')
   (R0 : ∀ w, Hid (Calls Tryz.prog 36 #[.int .i64 t0] w fun e w' => e = .returned (.bool true) ∧ w = w')) (R1 : ∀ w, Hid (Calls Tryz.prog 36 #[.int .i64 t1] w fun e w' => e = .returned (.bool true) ∧ w = w')) (R2 : ∀ w, Hid (Calls Tryz.prog 36 #[.int .i64 t2] w fun e w' => e = .returned (.bool true) ∧ w = w'))
   (F : ∀ wx, Hid (Calls Tryz.prog 38 #[.agg #[.int .i64 x, .int .i64 y, .int .i64 z]] wx fun e w' => e = .returned (.bool true) ∧ Below wx.heap.size wx w')) :
    Calls Tryz.prog 7 #[.agg #[.int .i64 t0, .int .i64 t1, .int .i64 t2], .agg #[.int .i64 x, .int .i64 y, .int .i64 z]] w fun e w' => e = .returned (.bool true) ∧ Below w.heap.size w w' := by
  have HBL := Lib.hid (show Below w.heap.size w ((w.alloc (.cells #[.int .i64 t0, .int .i64 t1, .int .i64 t2] 76)).alloc (.cells #[.int .i64 x, .int .i64 y, .int .i64 z] 76)) from ((Below.refl _ _).alloc (Nat.le_refl _) _).alloc (by simp) _)
  go_enter Tryz.func7, Tryz.ntmps7
  go_upto_region 1 with (fail)
  go_upto_block 0 with (go_at_call 8; refine (awake_any _).mono ?_; rintro e w1 ⟨rfl, hb1⟩; have hs1 : w.heap.size + 1 < w1.heap.size := (by have := hb1.size; (try simp at this); omega); have ht1 : w.heap.size < w1.heap.size := (by omega); obtain ⟨hc1, hf1⟩ := bcellx hb1)
  go_cut [4] (fun v wx => v = .bool false ∧ wx = w1)
  case first =>
    go_wp2_with fail
    refine wp_loop_rounds 4 ?_
    rw [rounds_succ]
    go_wp2_with (go_at_call 36; (refine Calls.mono (R0 _).out ?_; rintro e w2 ⟨rfl, rfl⟩))
    rw [rounds_succ]
    go_wp2_with (go_at_call 36; (refine Calls.mono (R1 _).out ?_; rintro e w2 ⟨rfl, rfl⟩))
    rw [rounds_succ]
    go_wp2_with (go_at_call 36; (refine Calls.mono (R2 _).out ?_; rintro e w2 ⟨rfl, rfl⟩))
    rw [rounds_succ]
    go_wp2_with fail
    go_meet
    exact ⟨rfl, rfl⟩
  case rest =>
    obtain ⟨rfl, rfl⟩ := hcut
    rename_i K hK
    apply hK
    go_upto_region 11 with (go_at_call 38; (refine Calls.mono (F _).out ?_); rintro e w2 ⟨rfl, hq2⟩; have hb2 := (show Below _ _ w2 from by first | exact hb1.trans (hq2.mono hb1.size) | exact hb1.drew.trans (hq2.mono hb1.size)); have hs2 : w.heap.size + 1 < w2.heap.size := (by have := hb2.size; (try simp at this); omega); have ht2 : w.heap.size < w2.heap.size := (by omega); obtain ⟨hc2, hf2⟩ := bcellx hb2)
    go_wp2_with fail
    go_ret
    exact ⟨rfl, HBL.out.trans (hb2.mono (by simp; omega))⟩
end Go.Proofs.YtcboppdjjpeeoaaGreat
