/- Walks over the fits: the law of stacks, the good case. -/
import Derived.Test.YtcjhodlimpgegaaGU
import Derived.Deep.CutRange
import Derived.Deep.DeepCutAuto
import Derived.Deep.CutBlock
namespace Go.Proofs.Ytcjhodlimpgegaa
open Go.RowKit Go.Maps

set_option maxHeartbeats 4000000 in
set_option maxRecDepth 20000 in
theorem stacks_good {A B : Option Addr} {n c m d : Nat} {l r : List Md} {lim : Int} (hc : madesCode l = 0) (hm : m ≤ 30) (w : World) (hA : MdRow w A n l) (hB : MdRow w B m r) :
    Calls Try.prog 6 #[.slice A n c, .slice B m d, .int .i64 lim] w fun e w' => e = .returned (.bool true) ∧ Below w.heap.size w w' := by
  obtain ⟨h20, hok⟩ := madesCode_ok hc
  have hln := hA.1
  have d1 : decide (30 < (n : Int)) = false := decide_eq_false (by omega)
  have d2 : decide (30 < (m : Int)) = false := decide_eq_false (by omega)
  have HMD := Lib.hid (fun wx (hb : Below w.heap.size w wx) => And.intro (hA.below hb) (hB.below hb))
  have ST := Lib.hid (fun wx (hb : Below w.heap.size w wx) => stack_ok (c := c) hc wx (HMD.out wx hb).1)
  have RS := Lib.hid (fun wx (hb : Below w.heap.size w wx) => rstack_any (c := c) hc (by omega) wx (HMD.out wx hb).1)
  obtain ⟨lc, hlk⟩ : ∃ lc, lkCode l lim = lc := ⟨_, rfl⟩
  obtain ⟨lv, hlv⟩ : ∃ lv, lkV l lim = lv := ⟨_, rfl⟩
  have LK := Lib.hid (fun wx (hb : Below w.heap.size w wx) => likely_any (c := c) hlk (by omega) wx (HMD.out wx hb).1)
  simp only [hlv] at LK
  have HLK := Lib.hid hlk
  have HLV := Lib.hid hlv
  have HCD := Lib.hid hc
  have HOK := Lib.hid hok
  have HSB := Lib.hid (fun k => sums_bd (l := l.take k) (fun x hx => hok x (List.mem_of_mem_take hx)) (by rw [List.length_take]; omega))
  have HR := Lib.hid hA
  have HRB := Lib.hid hB
  clear hA hB hc hok hlk hlv
  obtain ⟨xa, hxa⟩ : ∃ xa, sumLo l = xa := ⟨_, rfl⟩
  obtain ⟨xb, hxb⟩ : ∃ xb, sumHi l = xb := ⟨_, rfl⟩
  simp only [hxa, hxb] at ST
  have HXA := Lib.hid hxa
  have HXB := Lib.hid hxb
  clear hxa hxb
  go_enter Try.func6, Try.ntmps6
  go_wp2_with (first | (go_at_call 8; refine Calls.mono (awake_any _) ?_; rintro e w1 ⟨rfl, hb1⟩) | (go_at_call 32; refine Calls.mono (ST.out _ hb1) ?_; rintro e w2 ⟨rfl, hb2⟩; have hB2 := hb1.trans (hb2.mono hb1.size); have hB3 := hB2.alloc hB2.size (.cells #[.int .i64 xa, .int .i64 xb] 48)) | (go_at_call 33; refine Calls.mono (LK.out _ hB3) ?_; rintro e w4 ⟨rfl, hb4⟩; have hB4 := hB3.trans (hb4.mono hB3.size)) | (go_at_call 34; refine Calls.mono (RS.out _ hB4) ?_; rintro e w5 ⟨rfl, hb5⟩; have hB5 := hB4.trans (hb5.mono hB4.size); have hP5 := hb4.trans (hb5.mono hb4.size)))
  have hX5 : w2.heap.size < w5.heap.size := by have := hP5.size; simp at this; omega
  have hw2s := hB2.size
  have HL : LC w (w5.alloc (.cells #[.int .i64 0, .int .i64 0] 48)) w2.heap.size w5.heap.size xa xb 0 0 := by
    have kc := (bcell ((Below.refl w5.heap.size w5).alloc (Nat.le_refl _) (.cells #[.int .i64 0, .int .i64 0] 48)))
    have kp := (bcell hP5)
    refine ⟨?_, ?_, ?_, ?_, ?_, ?_, hB5.alloc hB5.size _⟩
    · rw [kc.1 _ _ hX5, kp.1 _ _ (by simp), World.cell?_alloc_new]; rfl
    · rw [kc.1 _ _ hX5, kp.1 _ _ (by simp), World.cell?_alloc_new]; rfl
    · rw [World.cell?_alloc_new]; rfl
    · rw [World.cell?_alloc_new]; rfl
    · simp [go_sem]
    · simp [go_sem]
  have hXB : w5.heap.size ≠ w2.heap.size := by omega
  have hBw : w.heap.size ≤ w5.heap.size := hB5.size
  generalize w2.heap.size = X at HL hXB hX5 hw2s ⊢
  generalize w5.heap.size = Bk at HL hXB hX5 hBw ⊢
  generalize (w5.alloc (.cells #[.int .i64 0, .int .i64 0] 48)) = W0 at HL ⊢
  clear hb1 hb2 hB2 hB3 hb4 hB4 hb5 hB5 hP5 LK RS
  have HL0 := Lib.hid HL
  clear HL
  go_loopw [13, 14] (fun s i wr => ∃ k : Nat, k ≤ n ∧ i = .int .i64 k ∧ s = .int .i64 (sumSq (l.take k)) ∧ Hid (LC w wr X Bk xa xb (sumLo (l.take k)) (sumHi (l.take k)))) (fun _ i _ => n - (intOf i).toNat)
  case atStart => exact ⟨0, Nat.zero_le _, rfl, rfl, HL0⟩
  case round =>
    obtain ⟨k, hk, rfl, rfl, HB⟩ := hrel
    by_cases hlt : k < n
    · have hkl : k < l.length := by omega
      obtain ⟨blk, off, rfl, hblk, hx⟩ := HR.out.2 (by omega)
      have hxx := (hx k hkl).below HB.out.bel hblk
      have hok := md_bd (HOK.out l[k] (List.getElem_mem hkl))
      have hok2 := HOK.out l[k] (List.getElem_mem hkl)
      have u0 := hok2.s0; have u1 := hok2.s1; have u2 := hok2.l0; have u3 := hok2.l1; have u4 := hok2.h0; have u5 := hok2.h1
      clear hok2
      have H1 := Lib.hid (sumL_take_succ (fun x : Md => x.s - x.lo) l hkl)
      have H2 := Lib.hid (sumL_take_succ (fun x : Md => x.s + x.hi) l hkl)
      have H3 := Lib.hid (sumL_take_succ (fun x : Md => (x.lo + x.hi) * (x.lo + x.hi)) l hkl)
      have hbd := HSB.out k
      have HXX := Lib.hid (fun wx (hb : Below w.heap.size w wx) => (hx k hkl).below hb hblk)
      clear hx
      obtain ⟨x, hxe⟩ : ∃ x, l[k] = x := ⟨_, rfl⟩
      rw [hxe] at HXX hxx H1 H2 H3 hok u0 u1 u2 u3 u4 u5
      clear hxe
      obtain ⟨s0, r0', m0, g0', l0, h0⟩ := x
      obtain ⟨x0, x1, x2, x3, x4, x5⟩ := hxx
      simp only at x0 x1 x2 x3 x4 x5 H1 H2 H3 hok u0 u1 u2 u3 u4 u5
      change Hid (sumLo (l.take (k + 1)) = sumLo (l.take k) + (s0 - l0)) at H1
      change Hid (sumHi (l.take (k + 1)) = sumHi (l.take k) + (s0 + h0)) at H2
      change Hid (sumSq (l.take (k + 1)) = sumSq (l.take k) + (l0 + h0) * (l0 + h0)) at H3
      obtain ⟨a, ha⟩ : ∃ a, sumLo (l.take k) = a := ⟨_, rfl⟩
      obtain ⟨b, hb⟩ : ∃ b, sumHi (l.take k) = b := ⟨_, rfl⟩
      obtain ⟨q, hq⟩ : ∃ q, sumSq (l.take k) = q := ⟨_, rfl⟩
      simp only [ha] at H1 hbd HB
      simp only [hb] at H2 hbd HB
      rw [hq] at H3 hbd ⊢
      clear ha hb hq
      obtain ⟨⟨k1, k2⟩, ⟨k3, k4⟩, ⟨j1, j2⟩, ⟨j3, j4⟩⟩ := hok
      obtain ⟨⟨k5, k6⟩, ⟨k7, k8⟩, ⟨j5, j6⟩⟩ := hbd
      have hw1 : wrap64 (a + s0) = a + s0 := w64 (by omega)
      have hw2 : wrap64 (a + s0 - l0) = a + s0 - l0 := w64 (by omega)
      have hw3 : wrap64 (b + s0) = b + s0 := w64 (by omega)
      have hw4 : wrap64 (b + s0 + h0) = b + s0 + h0 := w64 (by omega)
      obtain ⟨y, hy⟩ : ∃ y, l0 + h0 = y := ⟨_, rfl⟩
      rw [hy] at H3 j1 j2 j3 j4
      obtain ⟨z, hz⟩ : ∃ z, y * y = z := ⟨_, rfl⟩
      rw [hz] at H3 j3 j4
      have hw5 : wrap64 (l0 + h0) = y := by rw [hy, w64 (by omega)]
      have hw6 : wrap64 (y * y) = z := by rw [hz, w64 (by omega)]
      have hw7 : wrap64 (q + z) = q + z := w64 (by omega)
      have iw1 : IntKind.i64.wrap (a + s0) = a + s0 := by rw [IntKind.wrap_i64]; omega
      have iw2 : IntKind.i64.wrap (a + s0 - l0) = a + s0 - l0 := by rw [IntKind.wrap_i64]; omega
      have iw3 : IntKind.i64.wrap (b + s0) = b + s0 := by rw [IntKind.wrap_i64]; omega
      have iw4 : IntKind.i64.wrap (b + s0 + h0) = b + s0 + h0 := by rw [IntKind.wrap_i64]; omega
      have iw5 : IntKind.i64.wrap (l0 + h0) = y := by rw [hy, IntKind.wrap_i64]; omega
      have iw6 : IntKind.i64.wrap (y * y) = z := by rw [hz, IntKind.wrap_i64]; omega
      have iw7 : IntKind.i64.wrap (q + z) = q + z := by rw [IntKind.wrap_i64]; omega
      clear hy hz
      have HNS := Lib.hid (show LC w (((wr.setCell ⟨Bk, 0, none⟩ (.int .i64 (a + s0 - l0))).setCell ⟨Bk, 1, none⟩ (.int .i64 (b + s0 + h0))).drew) X Bk xa xb (sumLo (l.take (k + 1))) (sumHi (l.take (k + 1))) from by
        rw [H1.out, H2.out, show a + (s0 - l0) = a + s0 - l0 by omega, show b + (s0 + h0) = b + s0 + h0 by omega]
        exact (HB.out.set hBw hXB _ _).below ((Below.refl _ _).drew))
      obtain ⟨xx0, xx1, cc0, cc1, ff0, ff1, bel⟩ := HB.out
      have hkm : (k : Int) < (n : Int) := by omega
      have n1 : ∀ v, (wr.setCell ⟨Bk, 0, none⟩ v).frozen? ⟨Bk, 1, none⟩ = false := fun v => by rw [World.frozen?_setCell]; exact ff1
      clear bel HB u0 u1 u2 u3 u4 u5 k1 k2 k3 k4 j1 j2 j3 j4 k5 k6 k7 k8 j5 j6 x1 x2 x3
      go_upto_region 14 with fail
      go_cut [] from 68 to 97 (fun wx => wx = (((wr.setCell ⟨Bk, 0, none⟩ (.int .i64 (a + s0 - l0))).setCell ⟨Bk, 1, none⟩ (.int .i64 (b + s0 + h0))).drew))
      case first =>
        go_region
        all_goals
          go_wp2_with fail
          go_meet
          exact rfl
      case rest =>
        subst hcut
        clear x0 x4 x5 xx0 xx1 cc0 cc1 ff0 ff1 n1
        generalize (((wr.setCell ⟨Bk, 0, none⟩ (.int .i64 (a + s0 - l0))).setCell ⟨Bk, 1, none⟩ (.int .i64 (b + s0 + h0))).drew) = W2 at HNS ⊢
        obtain ⟨y0, -, -, -, y4, y5⟩ := HXX.out W2 HNS.out.bel
        simp only at y0 y4 y5
        go_upto_region 15 with fail
        go_quiet (fail)
        go_wp2
        go_roundw
        case rel => exact ⟨k + 1, by omega, by go_num, by rw [H3.out], Lib.hid (HNS.out.drew _)⟩
        case measure => simp [intOf]; omega
    · have hk' : k = n := by omega
      have hfull : l.take k = l := List.take_of_length_le (by omega)
      simp only [hfull, HXA.out, HXB.out] at HB ⊢
      subst hk'
      obtain ⟨x0, x1, c0, c1, f0, f1, bel⟩ := HB.out
      obtain ⟨q, hq⟩ : ∃ q, sumSq l = q := ⟨_, rfl⟩
      have HQ := Lib.hid hq
      rw [hq]
      clear hq HSB
      obtain ⟨rc, hrc⟩ : ∃ rc, madesCode r = rc := ⟨_, rfl⟩
      have hm30 := hm
      cases hli : allIn 0 600000 [lim]
      · have hlk2 : lc = 2 := by rw [← HLK.out]; unfold lkCode; rw [HCD.out, hli]; rfl
        have hlv2 : lv = false := by rw [← HLV.out]; unfold lkV lkCode; rw [HCD.out, hli]; rfl
        have XW := Lib.hid hli
        subst hlk2 hlv2
        clear hli HLK HLV HQ
        by_cases hnm : 20 < k + m
        · have d3 : decide (20 < (k : Int) + (m : Int)) = true := decide_eq_true (by omega)
          have hws : IntKind.i64.wrap ((k : Int) + (m : Int)) = (k : Int) + m := by rw [IntKind.wrap_i64]; omega
          go_wp2_with (go_at_call 30; (with_reducible refine (rwithin_any XW.out _).mono ?_); rintro e wi ⟨rfl, rfl⟩)
          go_ret
          exact ⟨rfl, bel⟩
        · have d3 : decide (20 < (k : Int) + (m : Int)) = false := decide_eq_false (by omega)
          have hws : IntKind.i64.wrap ((k : Int) + (m : Int)) = (k : Int) + m := by rw [IntKind.wrap_i64]; omega
          have RB := Lib.hid (rstack_any (c := d) hrc (by omega) wr (HRB.out.below bel))
          by_cases hr0 : rc = 0
          · have hrc0 : madesCode r = 0 := by rw [hrc, hr0]
            subst hr0
            obtain ⟨hr20, hrok⟩ := madesCode_ok hrc0
            have hcat : madesCode (l ++ r) = 0 := by
              have hla : l.all madeB = true := List.all_eq_true.2 (fun x hx => madeB_iff.2 (HOK.out x hx))
              have hra : r.all madeB = true := List.all_eq_true.2 (fun x hx => madeB_iff.2 (hrok x hx))
              rw [madesCode_two, hla, hra, decide_eq_false (by rw [hln, HRB.out.1]; omega)]; rfl
            have HSTB := Lib.hid (fun wx (hb : Below wr.heap.size wr wx) => stack_ok (c := d) hrc0 wx ((HRB.out.below bel).below hb))
            have HSTC := Lib.hid (fun wx (v : Option Addr) cc (hrow : MdRow wx v (k + m) (l ++ r)) => stack_ok (c := cc) hcat wx hrow)
            have e1 : sumLo (l ++ r) = xa + sumLo r := by rw [← HXA.out]; exact sumL_append _ _ _
            have e2 : sumHi (l ++ r) = xb + sumHi r := by rw [← HXB.out]; exact sumL_append _ _ _
            have sb := sums_bd hrok hr20
            have sa := sums_bd HOK.out h20
            rw [HXA.out, HXB.out] at sa
            rw [e1, e2] at HSTC
            obtain ⟨ya, hya⟩ : ∃ y, sumLo r = y := ⟨_, rfl⟩
            obtain ⟨yb, hyb⟩ : ∃ y, sumHi r = y := ⟨_, rfl⟩
            simp only [hya, hyb] at HSTB HSTC sb
            have hwz1 : IntKind.i64.wrap (xa + ya) = xa + ya := by rw [IntKind.wrap_i64]; omega
            have hwz2 : IntKind.i64.wrap (xb + yb) = xb + yb := by rw [IntKind.wrap_i64]; omega
            have hww1 : wrap64 (xa + ya) = xa + ya := w64 (by omega)
            have hww2 : wrap64 (xb + yb) = xb + yb := w64 (by omega)
            clear hya hyb e1 e2 sb sa hcat hrc0 hrok hr20 hrc
            go_upto_region 26 with (first | (go_at_call 30; (with_reducible refine (rwithin_any XW.out _).mono ?_); rintro e wi ⟨rfl, rfl⟩) | (go_at_call 34; refine Calls.mono RB.out ?_; rintro e wb ⟨rfl, hbb⟩) | (go_at_call 32; refine Calls.mono (HSTB.out _ hbb) ?_; rintro e w6 ⟨rfl, hb6⟩))
            have hB6 := hbb.trans (hb6.mono hbb.size)
            have hX6 : X < w6.heap.size := by have := hB6.size; have := World.block_lt_of_cell? wr _ x0; simp only at this; omega
            have y0 : (w6.alloc (.cells #[.int .i64 ya, .int .i64 yb] 48)).cell? ⟨w6.heap.size, 0, none⟩ = some (.int .i64 ya) := by rw [World.cell?_alloc_new]; rfl
            have y1 : (w6.alloc (.cells #[.int .i64 ya, .int .i64 yb] 48)).cell? ⟨w6.heap.size, 1, none⟩ = some (.int .i64 yb) := by rw [World.cell?_alloc_new]; rfl
            have hBA : Below wr.heap.size wr (w6.alloc (.cells #[.int .i64 ya, .int .i64 yb] 48)) := hB6.alloc hB6.size _
            have hs6 : w6.heap.size < (w6.alloc (.cells #[.int .i64 ya, .int .i64 yb] 48)).heap.size := by simp
            generalize (w6.alloc (.cells #[.int .i64 ya, .int .i64 yb] 48)) = WA at y0 y1 hBA hs6 ⊢
            have HBA := Lib.hid hBA
            have KX := Lib.hid (fun wx (hb : Below WA.heap.size WA wx) => (show (wx.cell? ⟨X, 0, none⟩ = some (.int .i64 xa) ∧ wx.cell? ⟨X, 1, none⟩ = some (.int .i64 xb)) ∧ wx.cell? ⟨w6.heap.size, 0, none⟩ = some (.int .i64 ya) ∧ wx.cell? ⟨w6.heap.size, 1, none⟩ = some (.int .i64 yb) from by
              have k := (bcell hb).1
              have k2 := (bcell hBA).1
              have lX : X < wr.heap.size := World.block_lt_of_cell? wr _ x0
              have hsA := hBA.size
              exact ⟨⟨((k _ _ (by omega)).trans (k2 _ _ lX)).trans x0, ((k _ _ (by omega)).trans (k2 _ _ lX)).trans x1⟩, (k _ _ hs6).trans y0, (k _ _ hs6).trans y1⟩))
            have hRA := (HR.out.below bel).below hBA
            have hRB := (HRB.out.below bel).below hBA
            have hE := own_empty6 WA 44 6
            have hBE : Below WA.heap.size WA (WA.alloc (.cells #[] 44)) := (Below.refl _ _).alloc (Nat.le_refl _) _
            have HRA := Lib.hid (hRA.below hBE)
            have HRBA := Lib.hid hRB
            clear hbb hb6 hB6 y0 y1 x0 x1 hRA hRB c0 c1 f0 f1
            go_wp2_with (first | (at_builtin; refine wpList_append_mades rfl _ _ rfl rfl rfl hE HRA.out (by omega) (by simp) ?_; intro v7 w7 hown7 hgrow7 hloc7; have hb7 : Below WA.heap.size WA w7 := hBE.grown hgrow7 (by simp) (fun j hj => by cases hj; exact Nat.le_refl _)) | (at_builtin; refine wpList_append_mades rfl _ _ rfl rfl rfl hown7 (HRBA.out.below hb7) (by omega) hb7.size ?_; intro v8 w8 hown8 hgrow8 hloc8; have hb8 : Below WA.heap.size WA w8 := hb7.grown hgrow8 hb7.size (fun j hj => own_ge hown7 j hj); rw [show ([] ++ mdCells l) ++ mdCells r = mdCells (l ++ r) by rw [mdCells_app]; rfl, Nat.zero_add] at hown8; obtain ⟨A8, c8, rfl, -, hrow8⟩ := own_mades hown8) | (go_at_call 32; refine Calls.mono (HSTC.out _ _ _ hrow8) ?_; rintro e w9 ⟨rfl, hb9⟩; have hb9' := hb8.trans (hb9.mono hb8.size); obtain ⟨⟨x0, x1⟩, y0, y1⟩ := KX.out _ (hb9'.alloc hb9'.size (.cells #[.int .i64 (xa + ya), .int .i64 (xb + yb)] 48))))
            go_ret
            exact ⟨rfl, (bel.trans (HBA.out.mono bel.size)).trans ((hb9'.alloc hb9'.size _).mono (Nat.le_trans bel.size HBA.out.size))⟩
          · have hcb : (rc == 0) = false := beq_eq_false_iff_ne.2 hr0
            have hcb' : (rc != 0) = true := bne_iff_ne.2 hr0
            go_wp2_with (first | (go_at_call 30; (with_reducible refine (rwithin_any XW.out _).mono ?_); rintro e wi ⟨rfl, rfl⟩) | (go_at_call 34; refine Calls.mono RB.out ?_; rintro e wb ⟨rfl, hbb⟩))
            go_ret
            exact ⟨rfl, bel.trans (hbb.mono bel.size)⟩
      · have hlk2 : lc = 0 := by rw [← HLK.out]; unfold lkCode; rw [HCD.out, hli]; rfl
        have hlv2 : lv = decide (q ≤ lim * lim) := by rw [← HLV.out]; unfold lkV lkCode; rw [HCD.out, hli]; show decide (sumSq l ≤ lim * lim) = _; rw [HQ.out]
        have XW := Lib.hid hli
        have l01 := allIn_one.1 hli
        have hlm : 0 ≤ lim * lim ∧ lim * lim ≤ 360000000000 := ⟨Int.mul_nonneg l01.1 l01.1, by have := Int.mul_le_mul l01.2 l01.2 l01.1 (by omega : (0 : Int) ≤ 600000); omega⟩
        obtain ⟨ll, hll⟩ : ∃ ll, lim * lim = ll := ⟨_, rfl⟩
        rw [hll] at hlv2 hlm
        have hwl : wrap64 (lim * lim) = ll := by rw [hll]; exact w64 (by omega)
        have hwl2 : IntKind.i64.wrap (lim * lim) = ll := by rw [hll, IntKind.wrap_i64]; omega
        clear hll l01
        subst hlk2 hlv2
        clear hli HLK HLV HQ
        by_cases hnm : 20 < k + m
        · have d3 : decide (20 < (k : Int) + (m : Int)) = true := decide_eq_true (by omega)
          have hws : IntKind.i64.wrap ((k : Int) + (m : Int)) = (k : Int) + m := by rw [IntKind.wrap_i64]; omega
          go_wp2_with (go_at_call 30; (with_reducible refine (rwithin_any XW.out _).mono ?_); rintro e wi ⟨rfl, rfl⟩)
          go_ret
          exact ⟨rfl, bel⟩
        · have d3 : decide (20 < (k : Int) + (m : Int)) = false := decide_eq_false (by omega)
          have hws : IntKind.i64.wrap ((k : Int) + (m : Int)) = (k : Int) + m := by rw [IntKind.wrap_i64]; omega
          have RB := Lib.hid (rstack_any (c := d) hrc (by omega) wr (HRB.out.below bel))
          by_cases hr0 : rc = 0
          · have hrc0 : madesCode r = 0 := by rw [hrc, hr0]
            subst hr0
            obtain ⟨hr20, hrok⟩ := madesCode_ok hrc0
            have hcat : madesCode (l ++ r) = 0 := by
              have hla : l.all madeB = true := List.all_eq_true.2 (fun x hx => madeB_iff.2 (HOK.out x hx))
              have hra : r.all madeB = true := List.all_eq_true.2 (fun x hx => madeB_iff.2 (hrok x hx))
              rw [madesCode_two, hla, hra, decide_eq_false (by rw [hln, HRB.out.1]; omega)]; rfl
            have HSTB := Lib.hid (fun wx (hb : Below wr.heap.size wr wx) => stack_ok (c := d) hrc0 wx ((HRB.out.below bel).below hb))
            have HSTC := Lib.hid (fun wx (v : Option Addr) cc (hrow : MdRow wx v (k + m) (l ++ r)) => stack_ok (c := cc) hcat wx hrow)
            have e1 : sumLo (l ++ r) = xa + sumLo r := by rw [← HXA.out]; exact sumL_append _ _ _
            have e2 : sumHi (l ++ r) = xb + sumHi r := by rw [← HXB.out]; exact sumL_append _ _ _
            have sb := sums_bd hrok hr20
            have sa := sums_bd HOK.out h20
            rw [HXA.out, HXB.out] at sa
            rw [e1, e2] at HSTC
            obtain ⟨ya, hya⟩ : ∃ y, sumLo r = y := ⟨_, rfl⟩
            obtain ⟨yb, hyb⟩ : ∃ y, sumHi r = y := ⟨_, rfl⟩
            simp only [hya, hyb] at HSTB HSTC sb
            have hwz1 : IntKind.i64.wrap (xa + ya) = xa + ya := by rw [IntKind.wrap_i64]; omega
            have hwz2 : IntKind.i64.wrap (xb + yb) = xb + yb := by rw [IntKind.wrap_i64]; omega
            have hww1 : wrap64 (xa + ya) = xa + ya := w64 (by omega)
            have hww2 : wrap64 (xb + yb) = xb + yb := w64 (by omega)
            clear hya hyb e1 e2 sb sa hcat hrc0 hrok hr20 hrc
            go_upto_region 26 with (first | (go_at_call 30; (with_reducible refine (rwithin_any XW.out _).mono ?_); rintro e wi ⟨rfl, rfl⟩) | (go_at_call 34; refine Calls.mono RB.out ?_; rintro e wb ⟨rfl, hbb⟩) | (go_at_call 32; refine Calls.mono (HSTB.out _ hbb) ?_; rintro e w6 ⟨rfl, hb6⟩))
            have hB6 := hbb.trans (hb6.mono hbb.size)
            have hX6 : X < w6.heap.size := by have := hB6.size; have := World.block_lt_of_cell? wr _ x0; simp only at this; omega
            have y0 : (w6.alloc (.cells #[.int .i64 ya, .int .i64 yb] 48)).cell? ⟨w6.heap.size, 0, none⟩ = some (.int .i64 ya) := by rw [World.cell?_alloc_new]; rfl
            have y1 : (w6.alloc (.cells #[.int .i64 ya, .int .i64 yb] 48)).cell? ⟨w6.heap.size, 1, none⟩ = some (.int .i64 yb) := by rw [World.cell?_alloc_new]; rfl
            have hBA : Below wr.heap.size wr (w6.alloc (.cells #[.int .i64 ya, .int .i64 yb] 48)) := hB6.alloc hB6.size _
            have hs6 : w6.heap.size < (w6.alloc (.cells #[.int .i64 ya, .int .i64 yb] 48)).heap.size := by simp
            generalize (w6.alloc (.cells #[.int .i64 ya, .int .i64 yb] 48)) = WA at y0 y1 hBA hs6 ⊢
            have HBA := Lib.hid hBA
            have KX := Lib.hid (fun wx (hb : Below WA.heap.size WA wx) => (show (wx.cell? ⟨X, 0, none⟩ = some (.int .i64 xa) ∧ wx.cell? ⟨X, 1, none⟩ = some (.int .i64 xb)) ∧ wx.cell? ⟨w6.heap.size, 0, none⟩ = some (.int .i64 ya) ∧ wx.cell? ⟨w6.heap.size, 1, none⟩ = some (.int .i64 yb) from by
              have k := (bcell hb).1
              have k2 := (bcell hBA).1
              have lX : X < wr.heap.size := World.block_lt_of_cell? wr _ x0
              have hsA := hBA.size
              exact ⟨⟨((k _ _ (by omega)).trans (k2 _ _ lX)).trans x0, ((k _ _ (by omega)).trans (k2 _ _ lX)).trans x1⟩, (k _ _ hs6).trans y0, (k _ _ hs6).trans y1⟩))
            have hRA := (HR.out.below bel).below hBA
            have hRB := (HRB.out.below bel).below hBA
            have hE := own_empty6 WA 44 6
            have hBE : Below WA.heap.size WA (WA.alloc (.cells #[] 44)) := (Below.refl _ _).alloc (Nat.le_refl _) _
            have HRA := Lib.hid (hRA.below hBE)
            have HRBA := Lib.hid hRB
            clear hbb hb6 hB6 y0 y1 x0 x1 hRA hRB c0 c1 f0 f1
            go_wp2_with (first | (at_builtin; refine wpList_append_mades rfl _ _ rfl rfl rfl hE HRA.out (by omega) (by simp) ?_; intro v7 w7 hown7 hgrow7 hloc7; have hb7 : Below WA.heap.size WA w7 := hBE.grown hgrow7 (by simp) (fun j hj => by cases hj; exact Nat.le_refl _)) | (at_builtin; refine wpList_append_mades rfl _ _ rfl rfl rfl hown7 (HRBA.out.below hb7) (by omega) hb7.size ?_; intro v8 w8 hown8 hgrow8 hloc8; have hb8 : Below WA.heap.size WA w8 := hb7.grown hgrow8 hb7.size (fun j hj => own_ge hown7 j hj); rw [show ([] ++ mdCells l) ++ mdCells r = mdCells (l ++ r) by rw [mdCells_app]; rfl, Nat.zero_add] at hown8; obtain ⟨A8, c8, rfl, -, hrow8⟩ := own_mades hown8) | (go_at_call 32; refine Calls.mono (HSTC.out _ _ _ hrow8) ?_; rintro e w9 ⟨rfl, hb9⟩; have hb9' := hb8.trans (hb9.mono hb8.size); obtain ⟨⟨x0, x1⟩, y0, y1⟩ := KX.out _ (hb9'.alloc hb9'.size (.cells #[.int .i64 (xa + ya), .int .i64 (xb + yb)] 48))))
            go_ret
            exact ⟨rfl, (bel.trans (HBA.out.mono bel.size)).trans ((hb9'.alloc hb9'.size _).mono (Nat.le_trans bel.size HBA.out.size))⟩
          · have hcb : (rc == 0) = false := beq_eq_false_iff_ne.2 hr0
            have hcb' : (rc != 0) = true := bne_iff_ne.2 hr0
            go_wp2_with (first | (go_at_call 30; (with_reducible refine (rwithin_any XW.out _).mono ?_); rintro e wi ⟨rfl, rfl⟩) | (go_at_call 34; refine Calls.mono RB.out ?_; rintro e wb ⟨rfl, hbb⟩))
            go_ret
            exact ⟨rfl, bel.trans (hbb.mono bel.size)⟩
theorem fitStacks_law (A : Option Addr) (n c : Nat) (l : List Md) (B : Option Addr) (m d : Nat) (r : List Md) (lim : Int) (hn : n ≤ maxLen ∧ n ≤ c) (hm : m ≤ maxLen ∧ m ≤ d) (w : World) (hA : MdRow w A n l) (hB : MdRow w B m r) :
    Calls Try.prog 6 #[.slice A n c, .slice B m d, .int .i64 lim] w fun e w' => e = .returned (.bool true) ∧ Below w.heap.size w w' := by
  by_cases h : 30 < n ∨ 30 < m
  · exact stacks_out h hn.1 hm.1 w
  · by_cases h0 : madesCode l = 0
    · exact stacks_good h0 (by omega) w hA hB
    · exact stacks_bad rfl h0 (by omega) (by omega) w hA
end Go.Proofs.Ytcjhodlimpgegaa
