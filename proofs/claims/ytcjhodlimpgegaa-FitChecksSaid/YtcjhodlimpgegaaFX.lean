/- Walks over the fits: the reference's slots, the law's bound on seasons. -/
import Derived.Test.YtcjhodlimpgegaaFW
namespace Go.Proofs.Ytcjhodlimpgegaa
open Go.RowKit Go.Maps

set_option maxHeartbeats 1000000 in
theorem rmod_any {x : Int} (_hx : -1000000000000000 ≤ x ∧ x ≤ 1000000000000000) (w : World) :
    Calls Try.prog 83 #[.int .i64 x, .int .i64 1000000] w fun e w' => e = .returned (.int .i64 (x % 1000000)) ∧ w = w' := by
  have f1 := Int.mul_tdiv_add_tmod x 1000000
  have f2 := Int.mul_ediv_add_emod x 1000000
  have f3 := Int.emod_nonneg x (show (1000000 : Int) ≠ 0 by decide)
  have f4 := Int.emod_lt_of_pos x (show (0 : Int) < 1000000 by decide)
  have f5 : -1000000 < x.tmod 1000000 := Int.lt_tmod_of_pos x (by decide)
  have f6 : x.tmod 1000000 < 1000000 := Int.tmod_lt_of_pos x (by decide)
  by_cases h : x.tmod 1000000 < 0
  · have E : Hid (x.tmod 1000000 + 1000000 = x % 1000000) := Lib.hid (by omega)
    obtain ⟨q, hq⟩ : ∃ q, x.tmod 1000000 = q := ⟨_, rfl⟩
    rw [hq] at E f5 f6 h
    clear f1 f2 f3 f4
    go_enter Try.func83, Try.ntmps83
    go_wp2
    go_ret
    exact ⟨ret_int E.out, rfl⟩
  · have E : Hid (x.tmod 1000000 = x % 1000000) := Lib.hid (by omega)
    clear f1 f2 f3 f4 f5 f6
    go_enter Try.func83, Try.ntmps83
    go_wp2
    go_ret
    exact ⟨ret_int E.out, rfl⟩
theorem rfloor_any {x : Int} (hx : -1000000000000000 ≤ x ∧ x ≤ 1000000000000000) (w : World) :
    Calls Try.prog 58 #[.int .i64 x, .int .i64 1000000] w fun e w' => e = .returned (.int .i64 (x / 1000000)) ∧ w = w' := by
  have f2 := Int.mul_ediv_add_emod x 1000000
  have f3 := Int.emod_nonneg x (show (1000000 : Int) ≠ 0 by decide)
  have f4 := Int.emod_lt_of_pos x (show (0 : Int) < 1000000 by decide)
  have RM := fun wx => Lib.hid (rmod_any hx wx)
  obtain ⟨r, hr⟩ : ∃ r, x % 1000000 = r := ⟨_, rfl⟩
  have hw1 : IntKind.i64.wrap (x - r) = x - r := by rw [IntKind.wrap_i64]; omega
  have hw2 : wrap64 (x - r) = x - r := w64 (by omega)
  have E : Hid ((x - r).tdiv 1000000 = x / 1000000) := Lib.hid (by
    obtain ⟨q, hq⟩ : ∃ q, x / 1000000 = q := ⟨_, rfl⟩
    rw [show x - r = q * 1000000 by omega, hq]
    exact Int.mul_tdiv_cancel q (by decide))
  have hb : -1000000000000000 ≤ (x - r).tdiv 1000000 ∧ (x - r).tdiv 1000000 ≤ 1000000000000000 := by rw [E.out]; omega
  rw [hr] at RM
  obtain ⟨q, hq⟩ : ∃ q, (x - r).tdiv 1000000 = q := ⟨_, rfl⟩
  rw [hq] at E hb
  have HQ : Hid (q = x / 1000000) := Lib.hid E.out
  have hw3 : wrap64 q = q := w64 (by omega)
  clear f2 f3 f4 hr
  go_enter Try.func58, Try.ntmps58
  go_wp2_with (go_at_call 83; refine Calls.mono (RM _).out ?_; rintro e w1 ⟨rfl, rfl⟩)
  go_ret
  exact ⟨ret_int HQ.out, rfl⟩
theorem rceil_any {x : Int} (hx : -1000000000000000 ≤ x ∧ x ≤ 1000000000000000) (w : World) :
    Calls Try.prog 59 #[.int .i64 x, .int .i64 1000000] w fun e w' => e = .returned (.int .i64 (upM x)) ∧ w = w' := by
  have hw1 : IntKind.i64.wrap (-x) = -x := by rw [IntKind.wrap_i64]; omega
  have hw2 : wrap64 (-x) = -x := w64 (by omega)
  have RD := fun wx => Lib.hid (rfloor_any (x := -x) (w := wx) (by omega))
  obtain ⟨q, hq⟩ : ∃ q, (-x) / 1000000 = q := ⟨_, rfl⟩
  have hb : -1000000000000000 ≤ q ∧ q ≤ 1000000000000000 := by omega
  have HV : Hid (upM x = -q) := Lib.hid (by unfold upM; rw [hq])
  rw [hq] at RD
  have hw3 : IntKind.i64.wrap (-q) = -q := by rw [IntKind.wrap_i64]; omega
  have hw4 : wrap64 (-q) = -q := w64 (by omega)
  clear hq
  go_enter Try.func59, Try.ntmps59
  go_wp2_with (go_at_call 58; refine Calls.mono (RD _).out ?_; rintro e w1 ⟨rfl, rfl⟩)
  go_ret
  exact ⟨ret_int HV.out.symm, rfl⟩
set_option maxHeartbeats 1000000 in
theorem rmillionths_any {size rate f t : Int} (h : Mov size rate f t) (w : World) :
    Calls Try.prog 60 #[.int .i64 size, .int .i64 rate, .int .i64 f, .int .i64 t] w fun e w' => e = .returned (.int .i64 (millis size rate f t)) ∧ w = w' := by
  obtain ⟨s0, s1, r0, r1, f0, f1, t0, t1⟩ := h
  have hall : ∀ d : Int, -280 ≤ d → d ≤ 280 → d = min t 280 - min f 280 → wrap64 (size * wrap64 (1000000 + wrap64 (rate * wrap64 d))) = millis size rate f t := fun d d0 d1 hd => by
    rw [millis_wrap s0 s1 r0 r1 d0 d1, hd]; rfl
  have H := Lib.hid hall
  clear hall s0 s1 r0 r1
  have F0 := Lib.hid f0; have F1 := Lib.hid f1; have T0 := Lib.hid t0; have T1 := Lib.hid t1
  clear f0 f1 t0 t1
  go_enter Try.func60, Try.ntmps60
  go_wp2
  all_goals
    go_ret
    have f0 := F0.out; have f1 := F1.out; have t0 := T0.out; have t1 := T1.out
    exact ⟨ret_int (H.out _ (by omega) (by omega) (by omega)), rfl⟩
theorem rhigh_any {p : Md} (hp : MdOk p) {t : Int} (t0 : 0 ≤ t) (t1 : t ≤ 400) (w : World) :
    Calls Try.prog 27 #[mdV p, .int .i64 t] w fun e w' => e = .returned (.int .i64 (hiM p t)) ∧ Below w.heap.size w w' := by
  have RM := fun wx => Lib.hid (rmillionths_any (w := wx) (mov_hi hp t0 t1))
  have b : 0 ≤ p.s + p.hi ∧ p.s + p.hi ≤ 600000 := by have := hp.s0; have := hp.h0; have := hp.h1; omega
  obtain ⟨ps, pr, pm, pg, plo, phi⟩ := p
  unfold mdV hiM
  simp only at RM b ⊢
  have hw1 : IntKind.i64.wrap (ps + phi) = ps + phi := by rw [IntKind.wrap_i64]; omega
  have hw2 : wrap64 (ps + phi) = ps + phi := w64 (by omega)
  clear hp
  go_enter Try.func27, Try.ntmps27
  go_wp2_with (go_at_call 60; refine Calls.mono (RM _).out ?_; rintro e w1 ⟨rfl, rfl⟩)
  go_ret
  exact ⟨rfl, (Below.refl _ _).alloc (Nat.le_refl _) _⟩
theorem hiM_min {p : Md} (hp : MdOk p) (a b : Int) : hiM p (min a b) = min (hiM p a) (hiM p b) := by
  have s0 : 0 ≤ p.s + p.hi := by have := hp.s0; have := hp.h0; omega
  unfold hiM
  by_cases h : a ≤ b
  · have := millis_mono_t (f := p.m) s0 hp.r0 h
    rw [show min a b = a by omega]; omega
  · have := millis_mono_t (f := p.m) s0 hp.r0 (show b ≤ a by omega)
    rw [show min a b = b by omega]; omega
theorem hiM_max {p : Md} (hp : MdOk p) (a b : Int) : hiM p (max a b) = max (hiM p a) (hiM p b) := by
  have s0 : 0 ≤ p.s + p.hi := by have := hp.s0; have := hp.h0; omega
  unfold hiM
  by_cases h : a ≤ b
  · have := millis_mono_t (f := p.m) s0 hp.r0 h
    rw [show max a b = b by omega]; omega
  · have := millis_mono_t (f := p.m) s0 hp.r0 (show b ≤ a by omega)
    rw [show max a b = a by omega]; omega
theorem hiFrom_lo {l : List Sn} (h : 0 < l.length) (hok : SnOk l[0]) : hiFrom l[0].lo l = hiFrom l[0].hi l := by
  cases l with
  | nil => simp at h
  | cons s r =>
    have := hok.l1
    simp only [List.getElem_cons_zero] at this ⊢
    unfold hiFrom
    simp only [List.foldl_cons]
    rw [show max s.lo s.hi = max s.hi s.hi by omega]
set_option maxHeartbeats 4000000 in
set_option maxRecDepth 20000 in
theorem slotMove_any {p : Md} {screw : Int} {Sa : Option Addr} {m d : Nat} {l : List Sn} (hp : MdOk p) (hl : snsCode l = 0) (w : World) (hS : SnRow w Sa m l) :
    Calls Try.prog 31 #[mdV p, .slice Sa m d] w fun e w' => e = .returned (.int .i64 (slotS p screw l - screw)) ∧ Below w.heap.size w w' := by
  have hlen := hS.1
  have h24 := (snsCode_ok hl).1
  have HSO := Lib.hid (snsCode_ok hl).2
  have HSR := Lib.hid hS
  have RH := Lib.hid (fun wx t (t0 : 0 ≤ t) (t1 : t ≤ 400) => rhigh_any (w := wx) hp t0 t1)
  have MB := Lib.hid (fun t (t0 : 0 ≤ t) (t1 : t ≤ 400) => millis_bd (mov_hi hp t0 t1))
  have HMN := Lib.hid (hiM_min hp)
  have HMX := Lib.hid (hiM_max hp)
  clear hl hS
  by_cases hm0 : m = 0
  · subst hm0
    have hnil : l = [] := List.eq_nil_of_length_eq_zero hlen
    subst hnil
    unfold mdV
    go_enter Try.func31, Try.ntmps31
    go_wp2
    go_ret
    exact ⟨ret_int (by show 0 = screw - screw; omega), (Below.refl _ _).alloc (Nat.le_refl _) _⟩
  · have hpos : 0 < l.length := by omega
    obtain ⟨blk, off, rfl, hblk, hx⟩ := HSR.out.2 (by omega)
    have HX := Lib.hid hx
    have x0 := hx 0 hpos
    have o0 := HSO.out l[0] (List.getElem_mem hpos)
    have HSL := Lib.hid ((slotS_cons p screw hpos).trans (by rw [← hiFrom_lo hpos o0]))
    clear hx
    obtain ⟨q, hq⟩ : ∃ q, l[0] = q := ⟨_, rfl⟩
    rw [hq] at x0 o0 HSL
    clear hq
    obtain ⟨n0, lo0, hi0⟩ := q
    obtain ⟨y0, y1, y2, -⟩ := x0
    obtain ⟨ol, om, oh⟩ := o0
    simp only at y0 y1 y2 ol om oh HSL
    rw [show off + 0 * 3 = off by omega] at y0 y1 y2
    have hmp : (0 : Int) < (m : Int) := by omega
    have hme : ((m : Int) == 0) = false := by simp; omega
    have hmd1 : decide ((0 : Int) < (m : Int)) = true := decide_eq_true hmp
    have hmd2 : decide (0 < m) = true := decide_eq_true (by omega)
    have hmd3 : 0 < m := by omega
    have R0 := fun wx => Lib.hid (RH.out wx lo0 ol (Int.le_trans om oh))
    have HLO := Lib.hid (fun k => loFrom_bd (l := l.take k) ol (Int.le_trans om oh) (fun s hs => HSO.out s (List.mem_of_mem_take hs)))
    have HHI := Lib.hid (fun k => hiFrom_bd (a := lo0) (l := l.take k) ol (Int.le_trans om oh) (fun s hs => HSO.out s (List.mem_of_mem_take hs)))
    obtain ⟨F, hF⟩ : ∃ F, hiM p = F := ⟨_, rfl⟩
    have MBF := Lib.hid (fun t (t0 : 0 ≤ t) (t1 : t ≤ 400) => (show 0 ≤ F t ∧ F t ≤ 1000000000000 by rw [← hF]; exact MB.out t t0 t1))
    simp only [hF] at RH R0 HSL HMN HMX
    clear hF hp MB
    obtain ⟨ps, pr, pm, pg, plo, phi⟩ := p
    unfold mdV at RH R0 ⊢
    simp only at RH R0 ⊢
    have HPC := Lib.hid (fun wx (hb : Below (w.alloc (.cells #[.int .i64 ps, .int .i64 pr, .int .i64 pm, .int .i64 pg, .int .i64 plo, .int .i64 phi] 44)).heap.size (w.alloc (.cells #[.int .i64 ps, .int .i64 pr, .int .i64 pm, .int .i64 pg, .int .i64 plo, .int .i64 phi] 44)) wx) => (show Below (w.alloc (.cells #[.int .i64 ps, .int .i64 pr, .int .i64 pm, .int .i64 pg, .int .i64 plo, .int .i64 phi] 44)).heap.size (w.alloc (.cells #[.int .i64 ps, .int .i64 pr, .int .i64 pm, .int .i64 pg, .int .i64 plo, .int .i64 phi] 44)) wx ∧ wx.cell? ⟨w.heap.size, 0, none⟩ = some (.int .i64 ps) ∧ wx.cell? ⟨w.heap.size, 1, none⟩ = some (.int .i64 pr) ∧ wx.cell? ⟨w.heap.size, 2, none⟩ = some (.int .i64 pm) ∧ wx.cell? ⟨w.heap.size, 5, none⟩ = some (.int .i64 phi) ∧ wx.cell? ⟨w.heap.size, 0 + 1, none⟩ = some (.int .i64 pr) ∧ wx.cell? ⟨w.heap.size, 0 + 2, none⟩ = some (.int .i64 pm) ∧ wx.cell? ⟨w.heap.size, 0 + 3, none⟩ = some (.int .i64 pg) ∧ wx.cell? ⟨w.heap.size, 0 + 4, none⟩ = some (.int .i64 plo) ∧ wx.cell? ⟨w.heap.size, 0 + 5, none⟩ = some (.int .i64 phi) from by
      have kc := (bcell hb).1
      refine ⟨hb, ?_, ?_, ?_, ?_, ?_, ?_, ?_, ?_, ?_⟩
      all_goals (rw [kc _ _ (by simp), World.cell?_alloc_new]; rfl)))
    have HW1 := Lib.hid (((Below.refl w.heap.size w).alloc (Nat.le_refl _) (.cells #[.int .i64 ps, .int .i64 pr, .int .i64 pm, .int .i64 pg, .int .i64 plo, .int .i64 phi] 44)))
    go_enter Try.func31, Try.ntmps31
    go_upto_region 3 with fail
    have hz0 : w.heap.size < (w.alloc (.cells #[.int .i64 ps, .int .i64 pr, .int .i64 pm, .int .i64 pg, .int .i64 plo, .int .i64 phi] 44)).heap.size := by simp
    generalize (w.alloc (.cells #[.int .i64 ps, .int .i64 pr, .int .i64 pm, .int .i64 pg, .int .i64 plo, .int .i64 phi] 44)) = W1 at HPC HW1 hz0 ⊢
    have z1 : W1.cell? ⟨blk, off + 1, none⟩ = some (.int .i64 lo0) := (HW1.out.cell (p := ⟨blk, off + 1, none⟩) hblk).trans y1
    have hbk1 : blk < W1.heap.size := by omega
    have KS := Lib.hid (fun wx (hb : Below W1.heap.size W1 wx) => And.intro (HPC.out wx hb) ((hb.cell (p := ⟨blk, off + 1, none⟩) hbk1).trans z1))
    go_region_held3 (fun wx => (Below W1.heap.size W1 wx ∧ wx.cell? ⟨w.heap.size, 0, none⟩ = some (.int .i64 ps) ∧ wx.cell? ⟨w.heap.size, 1, none⟩ = some (.int .i64 pr) ∧ wx.cell? ⟨w.heap.size, 2, none⟩ = some (.int .i64 pm) ∧ wx.cell? ⟨w.heap.size, 5, none⟩ = some (.int .i64 phi) ∧ wx.cell? ⟨w.heap.size, 0 + 1, none⟩ = some (.int .i64 pr) ∧ wx.cell? ⟨w.heap.size, 0 + 2, none⟩ = some (.int .i64 pm) ∧ wx.cell? ⟨w.heap.size, 0 + 3, none⟩ = some (.int .i64 pg) ∧ wx.cell? ⟨w.heap.size, 0 + 4, none⟩ = some (.int .i64 plo) ∧ wx.cell? ⟨w.heap.size, 0 + 5, none⟩ = some (.int .i64 phi)) ∧ wx.cell? ⟨blk, off + 1, none⟩ = some (.int .i64 lo0)) ((first | assumption | (exact KS.out _ (Below.refl _ _).drew) | (exact KS.out _ (Below.trans (And.left (And.left (by assumption))) (Below.mono hba (Below.size (And.left (And.left (by assumption))))))))) (first | (go_at_call 27; refine Calls.mono (R0 _).out ?_; rintro e wa ⟨rfl, hba⟩))
    all_goals
      have HBQ : Hid (Below W1.heap.size W1 wa) := Lib.hid (And.left (And.left (by assumption)))
      clear z1 KS
      generalize hWa : wa = W2 at HBQ ⊢
      go_wp2
      go_loopw [5, 6, 7] (fun a b i wr => ∃ k : Nat, k ≤ m ∧ i = .int .i64 k ∧ a = .int .i64 (F (loFrom lo0 (l.take k))) ∧ b = .int .i64 (F (hiFrom lo0 (l.take k))) ∧ Hid (Below W1.heap.size W1 wr)) (fun _ _ i _ => m - (intOf i).toNat)
      case atStart => exact ⟨0, Nat.zero_le _, rfl, rfl, rfl, HBQ⟩
      case round =>
        obtain ⟨k, hk, rfl, rfl, rfl, HB⟩ := hrel
        by_cases hlt : k < m
        · have hkl : k < l.length := by omega
          have hxx := ((HX.out k hkl).below HW1.out hblk).below HB.out hbk1
          have H1 := Lib.hid (congrArg F (loFrom_succ lo0 hkl))
          have H2 := Lib.hid (congrArg F (hiFrom_succ lo0 hkl))
          rw [HMN.out] at H1
          rw [HMX.out] at H2
          have hok := HSO.out l[k] (List.getElem_mem hkl)
          obtain ⟨x, hxe⟩ : ∃ x, l[k] = x := ⟨_, rfl⟩
          rw [hxe] at hxx H1 H2 hok
          clear hxe
          obtain ⟨sn, slo, shi⟩ := x
          obtain ⟨c0, c1, c2, -⟩ := hxx
          have k0 := hok.l0; have k1 := hok.l1; have k2 := hok.h1
          simp only at c0 c1 c2 H1 H2 k0 k1 k2
          have RA := fun wx => Lib.hid (RH.out wx slo k0 (by omega))
          have RB := fun wx => Lib.hid (RH.out wx shi (by omega) k2)
          have b1 := HLO.out k; have b2 := HHI.out k
          try simp only at b1 b2
          have m1 := MBF.out _ b1.1 b1.2
          have m2 := MBF.out _ b2.1 b2.2
          have m3 := MBF.out slo k0 (by omega)
          have m4 := MBF.out shi (by omega) k2
          obtain ⟨A, hA⟩ : ∃ A, F (loFrom lo0 (l.take k)) = A := ⟨_, rfl⟩
          obtain ⟨B, hB⟩ : ∃ B, F (hiFrom lo0 (l.take k)) = B := ⟨_, rfl⟩
          obtain ⟨U, hU⟩ : ∃ U, F slo = U := ⟨_, rfl⟩
          obtain ⟨V, hV⟩ : ∃ V, F shi = V := ⟨_, rfl⟩
          rw [hA] at H1 m1 ⊢
          rw [hB] at H2 m2 ⊢
          rw [hU] at H1 m3
          rw [hV] at H2 m4
          simp only [hU] at RA
          simp only [hV] at RB
          clear hA hB hU hV hok
          have hkm : (k : Int) < (m : Int) := by omega
          have hbr : blk < wr.heap.size := by have := HB.out.size; omega
          have KS2 := Lib.hid (fun wx (hb : Below wr.heap.size wr wx) => And.intro (HPC.out wx (HB.out.trans (hb.mono HB.out.size))) (And.intro ((hb.cell (p := ⟨blk, off + k * 3 + 1, none⟩) hbr).trans c1) ((hb.cell (p := ⟨blk, off + k * 3 + 2, none⟩) hbr).trans c2)))
          obtain ⟨wq, hwq⟩ : ∃ wq, wq = wr := ⟨_, rfl⟩
          rw [← hwq] at KS2 HB ⊢
          clear hwq c0 c1 c2 hbr
          go_wp2
          go_region_held3 (fun wx => (Below W1.heap.size W1 wx ∧ wx.cell? ⟨w.heap.size, 0, none⟩ = some (.int .i64 ps) ∧ wx.cell? ⟨w.heap.size, 1, none⟩ = some (.int .i64 pr) ∧ wx.cell? ⟨w.heap.size, 2, none⟩ = some (.int .i64 pm) ∧ wx.cell? ⟨w.heap.size, 5, none⟩ = some (.int .i64 phi) ∧ wx.cell? ⟨w.heap.size, 0 + 1, none⟩ = some (.int .i64 pr) ∧ wx.cell? ⟨w.heap.size, 0 + 2, none⟩ = some (.int .i64 pm) ∧ wx.cell? ⟨w.heap.size, 0 + 3, none⟩ = some (.int .i64 pg) ∧ wx.cell? ⟨w.heap.size, 0 + 4, none⟩ = some (.int .i64 plo) ∧ wx.cell? ⟨w.heap.size, 0 + 5, none⟩ = some (.int .i64 phi)) ∧ wx.cell? ⟨blk, off + k * 3 + 1, none⟩ = some (.int .i64 slo) ∧ wx.cell? ⟨blk, off + k * 3 + 2, none⟩ = some (.int .i64 shi)) ((first | assumption | (exact KS2.out _ (Below.refl _ _).drew) | (exact KS2.out _ hbq) | (exact KS2.out _ hbr))) (first | (go_at_call 27; (first | with_reducible refine Calls.mono (RA _).out ?_ | with_reducible refine Calls.mono (RB _).out ?_); rintro e wa ⟨rfl, hba⟩; first | (have hbr : Below wq.heap.size wq wa := hbq.trans (hba.mono hbq.size)) | (have hbq : Below wq.heap.size wq wa := ((Below.refl wq.heap.size wq).drew).trans (hba.mono (by simp)))))
          all_goals
            go_wp2
            go_roundw
            case rel => exact ⟨k + 1, by omega, by go_num, by rw [H1.out], by rw [H2.out], Lib.hid (HB.out.trans (hbr.mono HB.out.size))⟩
            case measure => simp [intOf]; omega
        · have hk' : k = m := by omega
          subst hk'
          have hfull : l.take k = l := List.take_of_length_le (by omega)
          have b1 := HLO.out k; have b2 := HHI.out k
          simp only [hfull] at b1 b2 ⊢
          have m1 := MBF.out _ b1.1 b1.2
          have m2 := MBF.out _ b2.1 b2.2
          obtain ⟨A, hA⟩ : ∃ A, F (loFrom lo0 l) = A := ⟨_, rfl⟩
          obtain ⟨B, hB⟩ : ∃ B, F (hiFrom lo0 l) = B := ⟨_, rfl⟩
          rw [hA] at HSL m1 ⊢
          rw [hB] at HSL m2 ⊢
          clear hA hB hfull
          have hwd : IntKind.i64.wrap (B - A) = B - A := by rw [IntKind.wrap_i64]; omega
          have RC := fun wx => Lib.hid (rceil_any (x := B - A) (w := wx) (by omega))
          go_wp2_with (go_at_call 59; refine Calls.mono (RC _).out ?_; rintro e wb ⟨rfl, rfl⟩)
          go_ret
          exact ⟨ret_int (by rw [HSL.out]; omega), HW1.out.trans (HB.out.mono (by omega))⟩
end Go.Proofs.Ytcjhodlimpgegaa
