/- The reference's comparison of fractions. -/
import Derived.BigQuiet
import Derived.BigRegion
import Derived.Test.YtablphoicidlkaaBA
import Derived.Test.YtablphoicidlkaaBB
import Derived.Test.YtablphoicidlkaaRF
namespace Go.Proofs.Ytablphoicidlkaa
open Go.RowKit

theorem mod_is {n d r : Int} (hd : 0 < d) (h : n.tmod d = r) : (r < 0 → n % d = r + d) ∧ (0 ≤ r → n % d = r) ∧ -d < r ∧ r < d := by
  have h1 := Int.mul_tdiv_add_tmod n d
  have h2 := Int.tmod_lt_of_pos n hd
  have h3 : -d < n.tmod d := Int.lt_tmod_of_pos n hd
  rw [h] at h1 h2 h3
  generalize n.tdiv d = q at h1
  refine ⟨fun hr => ?_, fun hr => ?_, h3, h2⟩
  · exact ((Int.ediv_emod_unique (q := q - 1) hd).2 ⟨by rw [Int.mul_sub]; omega, by omega, by omega⟩).2
  · exact ((Int.ediv_emod_unique (q := q) hd).2 ⟨by omega, by omega, by omega⟩).2
set_option maxHeartbeats 1000000 in
theorem mod_any {n d : Int} (hd : 0 < d) (hd' : d ≤ 9000000000000000000) (w : World) :
    Calls Try.prog 152 #[.int .i64 n, .int .i64 d] w fun e w' => e = .returned (.int .i64 (n % d)) ∧ w = w' := by
  obtain ⟨r, hr⟩ : ∃ r, n.tmod d = r := ⟨_, rfl⟩
  obtain ⟨m1, m2, m3, m4⟩ := mod_is hd hr
  have hne : (d == 0) = false := by simp; omega
  have hne2 : ¬ d = 0 := by omega
  have hwr : wrap64 r = r := w64 (by omega)
  by_cases h0 : r < 0
  · have HM := Lib.hid (m1 h0)
    have hw : wrap64 (r + d) = r + d := w64 (by omega)
    clear m1 m2
    go_enter Try.func152, Try.ntmps152
    go_wp2
    go_ret
    exact ⟨ret_int (by rw [HM.out]), rfl⟩
  · have HM := Lib.hid (m2 (by omega))
    clear m1 m2
    go_enter Try.func152, Try.ntmps152
    go_wp2
    go_ret
    exact ⟨ret_int (by rw [HM.out]), rfl⟩
set_option maxHeartbeats 1000000 in
theorem floor_any {n d : Int} (hd : 0 < d) (hb : n.natAbs + d.natAbs ≤ 9200000000000000000) (hd' : d ≤ 9000000000000000000) (w : World) :
    Calls Try.prog 114 #[.int .i64 n, .int .i64 d] w fun e w' => e = .returned (.int .i64 (n / d)) ∧ w = w' := by
  have MO := fun wx => Lib.hid (mod_any (n := n) hd hd' wx)
  have h1 := Int.emod_nonneg n (by omega : d ≠ 0)
  have h2 := Int.emod_lt_of_pos n hd
  have h3 := Int.mul_ediv_add_emod n d
  have h4 : n - n % d = d * (n / d) := by omega
  have h5 : (n - n % d).tdiv d = n / d := by rw [h4]; exact Int.mul_tdiv_cancel_left _ (by omega)
  generalize n % d = m at *
  have hw : wrap64 (n - m) = n - m := w64 (by omega)
  have h6 : (n / d).natAbs ≤ 9200000000000000000 := by
    have e1 := congrArg Int.natAbs h4
    rw [Int.natAbs_mul] at e1
    have e2 : 1 * (n / d).natAbs ≤ d.natAbs * (n / d).natAbs := Nat.mul_le_mul_right _ (by omega)
    omega
  have hw2 : wrap64 (n / d) = n / d := w64 (by omega)
  have HQ := Lib.hid h5
  generalize n / d = q at *
  have hne : (d == 0) = false := by simp; omega
  have hne2 : ¬ d = 0 := by omega
  clear h1 h2 h3 h4 h6 hd hb hd'
  go_enter Try.func114, Try.ntmps114
  go_wp2_with (go_at_call 152; (refine Calls.mono (MO _).out ?_); rintro e w1 ⟨rfl, rfl⟩)
  go_ret
  exact ⟨ret_int (by first | rfl | (rw [HQ.out]; done) | (rw [HQ.out]; exact hw2) | exact hw2), rfl⟩
end Go.Proofs.Ytablphoicidlkaa
namespace Go.Proofs.Ytablphoicidlkaa
open Go.RowKit

theorem cross_lt {x xd y yd X Y p q : Int} (hx : 0 < xd) (hy : 0 < yd) (ex : x = X * xd + p) (ey : y = Y * yd + q) (p0 : 0 ≤ p) (p1 : p < xd) (q0 : 0 ≤ q) (h : X < Y) : Int.sign (x * yd - y * xd) = -1 := by
  refine Int.sign_eq_neg_one_of_neg ?_
  have h1 : (X - Y) * (xd * yd) ≤ -1 * (xd * yd) := Int.mul_le_mul_of_nonneg_right (by omega) (Int.le_of_lt (Int.mul_pos hx hy))
  have h2 : p * yd ≤ (xd - 1) * yd := Int.mul_le_mul_of_nonneg_right (by omega) (Int.le_of_lt hy)
  have h3 : 0 ≤ q * xd := Int.mul_nonneg q0 (Int.le_of_lt hx)
  have h4 : x * yd - y * xd = (X - Y) * (xd * yd) + p * yd - q * xd := by rw [ex, ey]; grind
  rw [Int.sub_mul] at h2
  omega
theorem cross_gt {x xd y yd X Y p q : Int} (hx : 0 < xd) (hy : 0 < yd) (ex : x = X * xd + p) (ey : y = Y * yd + q) (p0 : 0 ≤ p) (q0 : 0 ≤ q) (q1 : q < yd) (h : Y < X) : Int.sign (x * yd - y * xd) = 1 := by
  have h1 := cross_lt hy hx ey ex q0 q1 p0 h
  rw [show x * yd - y * xd = -(y * xd - x * yd) by omega, Int.sign_neg, h1]
  rfl
theorem cross_eq {x xd y yd X p q : Int} (ex : x = X * xd + p) (ey : y = X * yd + q) : x * yd - y * xd = p * yd - q * xd := by rw [ex, ey]; grind
/-- Two fractions in two boxes. -/
def FrAt (w : World) (B : Nat) (x xd y yd : Int) : Prop :=
  w.cell? ⟨B, 0, none⟩ = some (.int .i64 x) ∧ w.cell? ⟨B, 1, none⟩ = some (.int .i64 xd) ∧ w.cell? ⟨B + 1, 0, none⟩ = some (.int .i64 y) ∧ w.cell? ⟨B + 1, 1, none⟩ = some (.int .i64 yd) ∧
  w.frozen? ⟨B, 0, none⟩ = false ∧ w.frozen? ⟨B, 1, none⟩ = false ∧ w.frozen? ⟨B + 1, 0, none⟩ = false ∧ w.frozen? ⟨B + 1, 1, none⟩ = false
set_option maxHeartbeats 8000000 in
set_option maxRecDepth 20000 in
theorem cmp_any {an ad bn bd : Int} (ha : 0 < ad) (hb : 0 < bd) (a1 : an.natAbs ≤ 5000000000000000000) (a2 : ad ≤ 4000000000000000000) (b1 : bn.natAbs ≤ 5000000000000000000) (b2 : bd ≤ 4000000000000000000) (w : World) :
    Calls Try.prog 50 #[.agg #[.int .i64 an, .int .i64 ad], .agg #[.int .i64 bn, .int .i64 bd]] w fun e w' => e = .returned (.int .i64 (Int.sign (an * bd - bn * ad))) ∧ Below w.heap.size w w' := by
  obtain ⟨R, hR⟩ : ∃ R, Int.sign (an * bd - bn * ad) = R := ⟨_, rfl⟩
  have HRR := Lib.hid hR
  rw [hR]
  clear hR
  have HA := Lib.hid (And.intro (And.intro ha hb) (And.intro (And.intro a1 a2) (And.intro b1 b2)))
  clear ha hb a1 a2 b1 b2
  go_enter Try.func50, Try.ntmps50
  go_upto_region 1 with fail
  obtain ⟨w0, hw0⟩ : ∃ w0, ((w.alloc (.cells #[.int .i64 an, .int .i64 ad] 30)).alloc (.cells #[.int .i64 bn, .int .i64 bd] 30)) = w0 := ⟨_, rfl⟩
  have HB0 : Hid (Below w.heap.size w w0) := Lib.hid (by rw [← hw0]; exact ((Below.refl _ _).alloc (Nat.le_refl _) _).alloc (by simp; try omega) _)
  have HF0 : Hid (FrAt w0 w.heap.size an ad bn bd) := Lib.hid (by rw [← hw0]; unfold FrAt; simp [go_sem])
  rw [hw0]
  clear hw0
  go_wp2
  go_loopw [5] (fun sg wr => ∃ (σ x xd y yd : Int), sg = .int .i64 σ ∧ (σ = 1 ∨ σ = -1) ∧ (0 < xd ∧ 0 < yd) ∧ ((x.natAbs ≤ 5000000000000000000 ∧ xd ≤ 4000000000000000000) ∧ (y.natAbs ≤ 5000000000000000000 ∧ yd ≤ 4000000000000000000)) ∧ σ * Int.sign (x * yd - y * xd) = R ∧ Below w.heap.size w wr ∧ FrAt wr w.heap.size x xd y yd) (fun _ wr => (intOf ((wr.cell? ⟨w.heap.size, 1, none⟩).getD undef)).toNat)
  case atStart => exact ⟨1, an, ad, bn, bd, rfl, .inl rfl, HA.out.1, HA.out.2, by rw [HRR.out]; omega, HB0.out, HF0.out⟩
  case round =>
    obtain ⟨σ, x, xd, y, yd, rfl, hσ, ⟨hx, hy⟩, ⟨⟨x1, x2⟩, y1, y2⟩, hs, hbw, hc0, hc1, hc2, hc3, z0, z1, z2, z3⟩ := hrel
    have HS := Lib.hid hs
    have HB := Lib.hid hbw
    have HSI := Lib.hid hσ
    clear hs hbw
    have F1 := fun wx => Lib.hid (floor_any (n := x) (d := xd) hx (by omega) (by omega) wx)
    have F2 := fun wx => Lib.hid (floor_any (n := y) (d := yd) hy (by omega) (by omega) wx)
    have p0 := Int.emod_nonneg x (by omega : xd ≠ 0)
    have p1 := Int.emod_lt_of_pos x hx
    have q0 := Int.emod_nonneg y (by omega : yd ≠ 0)
    have q1 := Int.emod_lt_of_pos y hy
    have ex : x = x / xd * xd + x % xd := by have := Int.mul_ediv_add_emod x xd; rw [Int.mul_comm] at this; omega
    have ey : y = y / yd * yd + y % yd := by have := Int.mul_ediv_add_emod y yd; rw [Int.mul_comm] at this; omega
    generalize x / xd = X at *
    generalize y / yd = Y at *
    generalize x % xd = p at *
    generalize y % yd = q at *
    have e1 : wrap64 (X * xd) = X * xd := w64 (by omega)
    have e2 : wrap64 (Y * yd) = Y * yd := w64 (by omega)
    have e3 : x - X * xd = p := by omega
    have e4 : y - Y * yd = q := by omega
    have e5 : wrap64 p = p := w64 (by omega)
    have e6 : wrap64 q = q := w64 (by omega)
    have sn : wrap64 (-σ) = -σ := w64 (by omega)
    have l0 : w.heap.size < wr.heap.size := World.block_lt_of_cell? wr _ hc0
    have l1 : w.heap.size + 1 < wr.heap.size := World.block_lt_of_cell? wr _ hc2
    have HX := Lib.hid (And.intro ex ey)
    have HP := Lib.hid (And.intro (And.intro p0 p1) (And.intro q0 q1))
    have HXY := Lib.hid (And.intro hx hy)
    have HBD := Lib.hid (And.intro x2 y2)
    clear ex ey x1 x2 y1 y2 hσ
    have HCR := Lib.hid (fun wx (hb : Below wr.heap.size wr wx) => (show FrAt wx w.heap.size x xd y yd from by
      obtain ⟨k, kf⟩ := bcell hb
      exact ⟨(k _ _ l0).trans hc0, (k _ _ l0).trans hc1, (k _ _ l1).trans hc2, (k _ _ l1).trans hc3, (kf _ _ l0).trans z0, (kf _ _ l0).trans z1, (kf _ _ l1).trans z2, (kf _ _ l1).trans z3⟩))
    clear hc0 hc1 hc2 hc3 z0 z1 z2 z3 l0 l1
    go_wp2
    refine wp_region_rk [10, 11, 12, 13, 14, 15, 16, 17, 18, 19, 6, 7] [rEq (.pointer (some ⟨w.heap.size, 0, none⟩)), rEq (.int .i64 x), rEq (.pointer (some ⟨w.heap.size, 1, none⟩)), rEq (.int .i64 xd), rEq (.int .i64 X), rEq (.pointer (some ⟨w.heap.size + 1, 0, none⟩)), rEq (.int .i64 y), rEq (.pointer (some ⟨w.heap.size + 1, 1, none⟩)), rEq (.int .i64 yd), rEq (.int .i64 Y), rEq (.int .i64 X), rEq (.int .i64 Y)] (by kernel_rfl) (by kernel_rfl) (by decide) rfl ⟨?_, ?_, ?_, ?_, ?_, ?_, ?_, ?_, ?_, ?_, ?_, ?_, trivial⟩ ?_
    · intro ac wx hf hb hd -- 0
      have f2 : ac.tmps[2]?.getD undef = .pointer (some ⟨w.heap.size, 0, none⟩) := by rw [← Array.getD_eq_getD_getElem?]; exact hf.same 2 (by decide)
      exact rstep_eq (by simp [execOp, Act.eval, f2, go_sem]) rfl
    · intro ac wx hf hb hd -- 1
      have d0 : ac.tmps[10]?.getD undef = .pointer (some ⟨w.heap.size, 0, none⟩) := by rw [← Array.getD_eq_getD_getElem?]; exact hd 0 (by decide)
      obtain ⟨c0, c1, c2, c3, -, -, -, -⟩ := HCR.out wx hb
      exact rstep_eq (by simp [execOp, Act.eval, d0, c0, go_sem]) rfl
    · intro ac wx hf hb hd -- 2
      have f2 : ac.tmps[2]?.getD undef = .pointer (some ⟨w.heap.size, 0, none⟩) := by rw [← Array.getD_eq_getD_getElem?]; exact hf.same 2 (by decide)
      exact rstep_eq (by simp [execOp, Act.eval, f2, go_sem]) rfl
    · intro ac wx hf hb hd -- 3
      have d2 : ac.tmps[12]?.getD undef = .pointer (some ⟨w.heap.size, 1, none⟩) := by rw [← Array.getD_eq_getD_getElem?]; exact hd 2 (by decide)
      obtain ⟨c0, c1, c2, c3, -, -, -, -⟩ := HCR.out wx hb
      exact rstep_eq (by simp [execOp, Act.eval, d2, c1, go_sem]) rfl
    · intro ac wx hf hb hd -- 4
      have d1 : ac.tmps[11]?.getD undef = .int .i64 x := by rw [← Array.getD_eq_getD_getElem?]; exact hd 1 (by decide)
      have d3 : ac.tmps[13]?.getD undef = .int .i64 xd := by rw [← Array.getD_eq_getD_getElem?]; exact hd 3 (by decide)
      refine rstep_call (f := 114) (args := #[.int .i64 x, .int .i64 xd]) (by simp [Act.eval, d1, d3, go_sem]) ?_ rfl
      exact (F1 wx).out.mono fun e w' ⟨he, hw⟩ => ⟨he, hw ▸ Below.refl _ _⟩
    · intro ac wx hf hb hd -- 5
      have f3 : ac.tmps[3]?.getD undef = .pointer (some ⟨w.heap.size + 1, 0, none⟩) := by rw [← Array.getD_eq_getD_getElem?]; exact hf.same 3 (by decide)
      exact rstep_eq (by simp [execOp, Act.eval, f3, go_sem]) rfl
    · intro ac wx hf hb hd -- 6
      have d5 : ac.tmps[15]?.getD undef = .pointer (some ⟨w.heap.size + 1, 0, none⟩) := by rw [← Array.getD_eq_getD_getElem?]; exact hd 5 (by decide)
      obtain ⟨c0, c1, c2, c3, -, -, -, -⟩ := HCR.out wx hb
      exact rstep_eq (by simp [execOp, Act.eval, d5, c2, go_sem]) rfl
    · intro ac wx hf hb hd -- 7
      have f3 : ac.tmps[3]?.getD undef = .pointer (some ⟨w.heap.size + 1, 0, none⟩) := by rw [← Array.getD_eq_getD_getElem?]; exact hf.same 3 (by decide)
      exact rstep_eq (by simp [execOp, Act.eval, f3, go_sem]) rfl
    · intro ac wx hf hb hd -- 8
      have d7 : ac.tmps[17]?.getD undef = .pointer (some ⟨w.heap.size + 1, 1, none⟩) := by rw [← Array.getD_eq_getD_getElem?]; exact hd 7 (by decide)
      obtain ⟨c0, c1, c2, c3, -, -, -, -⟩ := HCR.out wx hb
      exact rstep_eq (by simp [execOp, Act.eval, d7, c3, go_sem]) rfl
    · intro ac wx hf hb hd -- 9
      have d6 : ac.tmps[16]?.getD undef = .int .i64 y := by rw [← Array.getD_eq_getD_getElem?]; exact hd 6 (by decide)
      have d8 : ac.tmps[18]?.getD undef = .int .i64 yd := by rw [← Array.getD_eq_getD_getElem?]; exact hd 8 (by decide)
      refine rstep_call (f := 114) (args := #[.int .i64 y, .int .i64 yd]) (by simp [Act.eval, d6, d8, go_sem]) ?_ rfl
      exact (F2 wx).out.mono fun e w' ⟨he, hw⟩ => ⟨he, hw ▸ Below.refl _ _⟩
    · intro ac wx hf hb hd -- 10
      have d4 : ac.tmps[14]?.getD undef = .int .i64 X := by rw [← Array.getD_eq_getD_getElem?]; exact hd 4 (by decide)
      exact rstep_eq (by simp [execOp, Act.eval, d4, go_sem]) rfl
    · intro ac wx hf hb hd -- 11
      have d9 : ac.tmps[19]?.getD undef = .int .i64 Y := by rw [← Array.getD_eq_getD_getElem?]; exact hd 9 (by decide)
      exact rstep_eq (by simp [execOp, Act.eval, d9, go_sem]) rfl
    rintro ⟨⟨ll⟩, df⟩ wx hf hb hall
    have hdf : df = [] := hf.defers
    subst hdf
    have hsz : ll.length = 69 := hf.size
    obtain ⟨x0, ll0, rfl, hsz0⟩ := cons_of hsz
    obtain ⟨x1, ll1, rfl, hsz1⟩ := cons_of hsz0
    obtain ⟨x2, ll2, rfl, hsz2⟩ := cons_of hsz1
    obtain ⟨x3, ll3, rfl, hsz3⟩ := cons_of hsz2
    obtain ⟨x4, ll4, rfl, hsz4⟩ := cons_of hsz3
    obtain ⟨x5, ll5, rfl, hsz5⟩ := cons_of hsz4
    obtain ⟨x6, ll6, rfl, hsz6⟩ := cons_of hsz5
    obtain ⟨x7, ll7, rfl, hsz7⟩ := cons_of hsz6
    obtain ⟨x8, ll8, rfl, hsz8⟩ := cons_of hsz7
    obtain ⟨x9, ll9, rfl, hsz9⟩ := cons_of hsz8
    obtain ⟨x10, ll10, rfl, hsz10⟩ := cons_of hsz9
    obtain ⟨x11, ll11, rfl, hsz11⟩ := cons_of hsz10
    obtain ⟨x12, ll12, rfl, hsz12⟩ := cons_of hsz11
    obtain ⟨x13, ll13, rfl, hsz13⟩ := cons_of hsz12
    obtain ⟨x14, ll14, rfl, hsz14⟩ := cons_of hsz13
    obtain ⟨x15, ll15, rfl, hsz15⟩ := cons_of hsz14
    obtain ⟨x16, ll16, rfl, hsz16⟩ := cons_of hsz15
    obtain ⟨x17, ll17, rfl, hsz17⟩ := cons_of hsz16
    obtain ⟨x18, ll18, rfl, hsz18⟩ := cons_of hsz17
    obtain ⟨x19, ll19, rfl, hsz19⟩ := cons_of hsz18
    obtain ⟨x20, ll20, rfl, hsz20⟩ := cons_of hsz19
    obtain ⟨x21, ll21, rfl, hsz21⟩ := cons_of hsz20
    obtain ⟨x22, ll22, rfl, hsz22⟩ := cons_of hsz21
    obtain ⟨x23, ll23, rfl, hsz23⟩ := cons_of hsz22
    obtain ⟨x24, ll24, rfl, hsz24⟩ := cons_of hsz23
    obtain ⟨x25, ll25, rfl, hsz25⟩ := cons_of hsz24
    obtain ⟨x26, ll26, rfl, hsz26⟩ := cons_of hsz25
    obtain ⟨x27, ll27, rfl, hsz27⟩ := cons_of hsz26
    obtain ⟨x28, ll28, rfl, hsz28⟩ := cons_of hsz27
    obtain ⟨x29, ll29, rfl, hsz29⟩ := cons_of hsz28
    obtain ⟨x30, ll30, rfl, hsz30⟩ := cons_of hsz29
    obtain ⟨x31, ll31, rfl, hsz31⟩ := cons_of hsz30
    obtain ⟨x32, ll32, rfl, hsz32⟩ := cons_of hsz31
    obtain ⟨x33, ll33, rfl, hsz33⟩ := cons_of hsz32
    obtain ⟨x34, ll34, rfl, hsz34⟩ := cons_of hsz33
    obtain ⟨x35, ll35, rfl, hsz35⟩ := cons_of hsz34
    obtain ⟨x36, ll36, rfl, hsz36⟩ := cons_of hsz35
    obtain ⟨x37, ll37, rfl, hsz37⟩ := cons_of hsz36
    obtain ⟨x38, ll38, rfl, hsz38⟩ := cons_of hsz37
    obtain ⟨x39, ll39, rfl, hsz39⟩ := cons_of hsz38
    obtain ⟨x40, ll40, rfl, hsz40⟩ := cons_of hsz39
    obtain ⟨x41, ll41, rfl, hsz41⟩ := cons_of hsz40
    obtain ⟨x42, ll42, rfl, hsz42⟩ := cons_of hsz41
    obtain ⟨x43, ll43, rfl, hsz43⟩ := cons_of hsz42
    obtain ⟨x44, ll44, rfl, hsz44⟩ := cons_of hsz43
    obtain ⟨x45, ll45, rfl, hsz45⟩ := cons_of hsz44
    obtain ⟨x46, ll46, rfl, hsz46⟩ := cons_of hsz45
    obtain ⟨x47, ll47, rfl, hsz47⟩ := cons_of hsz46
    obtain ⟨x48, ll48, rfl, hsz48⟩ := cons_of hsz47
    obtain ⟨x49, ll49, rfl, hsz49⟩ := cons_of hsz48
    obtain ⟨x50, ll50, rfl, hsz50⟩ := cons_of hsz49
    obtain ⟨x51, ll51, rfl, hsz51⟩ := cons_of hsz50
    obtain ⟨x52, ll52, rfl, hsz52⟩ := cons_of hsz51
    obtain ⟨x53, ll53, rfl, hsz53⟩ := cons_of hsz52
    obtain ⟨x54, ll54, rfl, hsz54⟩ := cons_of hsz53
    obtain ⟨x55, ll55, rfl, hsz55⟩ := cons_of hsz54
    obtain ⟨x56, ll56, rfl, hsz56⟩ := cons_of hsz55
    obtain ⟨x57, ll57, rfl, hsz57⟩ := cons_of hsz56
    obtain ⟨x58, ll58, rfl, hsz58⟩ := cons_of hsz57
    obtain ⟨x59, ll59, rfl, hsz59⟩ := cons_of hsz58
    obtain ⟨x60, ll60, rfl, hsz60⟩ := cons_of hsz59
    obtain ⟨x61, ll61, rfl, hsz61⟩ := cons_of hsz60
    obtain ⟨x62, ll62, rfl, hsz62⟩ := cons_of hsz61
    obtain ⟨x63, ll63, rfl, hsz63⟩ := cons_of hsz62
    obtain ⟨x64, ll64, rfl, hsz64⟩ := cons_of hsz63
    obtain ⟨x65, ll65, rfl, hsz65⟩ := cons_of hsz64
    obtain ⟨x66, ll66, rfl, hsz66⟩ := cons_of hsz65
    obtain ⟨x67, ll67, rfl, hsz67⟩ := cons_of hsz66
    obtain ⟨x68, ll68, rfl, hsz68⟩ := cons_of hsz67
    obtain rfl := List.eq_nil_of_length_eq_zero hsz68
    obtain rfl : x0 = _ := hf.same 0 (by decide)
    obtain rfl : x1 = _ := hf.same 1 (by decide)
    obtain rfl : x2 = .pointer (some ⟨w.heap.size, 0, none⟩) := hf.same 2 (by decide)
    obtain rfl : x3 = .pointer (some ⟨w.heap.size + 1, 0, none⟩) := hf.same 3 (by decide)
    obtain rfl : x4 = _ := hf.same 4 (by decide)
    obtain rfl : x5 = .int .i64 σ := hf.same 5 (by decide)
    obtain rfl : x6 = .int .i64 X := hall 10 6 rfl
    obtain rfl : x7 = .int .i64 Y := hall 11 7 rfl
    obtain rfl : x8 = _ := hf.same 8 (by decide)
    obtain rfl : x9 = _ := hf.same 9 (by decide)
    obtain rfl : x10 = .pointer (some ⟨w.heap.size, 0, none⟩) := hall 0 10 rfl
    obtain rfl : x11 = .int .i64 x := hall 1 11 rfl
    obtain rfl : x12 = .pointer (some ⟨w.heap.size, 1, none⟩) := hall 2 12 rfl
    obtain rfl : x13 = .int .i64 xd := hall 3 13 rfl
    obtain rfl : x14 = .int .i64 X := hall 4 14 rfl
    obtain rfl : x15 = .pointer (some ⟨w.heap.size + 1, 0, none⟩) := hall 5 15 rfl
    obtain rfl : x16 = .int .i64 y := hall 6 16 rfl
    obtain rfl : x17 = .pointer (some ⟨w.heap.size + 1, 1, none⟩) := hall 7 17 rfl
    obtain rfl : x18 = .int .i64 yd := hall 8 18 rfl
    obtain rfl : x19 = .int .i64 Y := hall 9 19 rfl
    obtain rfl : x20 = _ := hf.same 20 (by decide)
    obtain rfl : x21 = _ := hf.same 21 (by decide)
    obtain rfl : x22 = _ := hf.same 22 (by decide)
    obtain rfl : x23 = _ := hf.same 23 (by decide)
    obtain rfl : x24 = _ := hf.same 24 (by decide)
    obtain rfl : x25 = _ := hf.same 25 (by decide)
    obtain rfl : x26 = _ := hf.same 26 (by decide)
    obtain rfl : x27 = _ := hf.same 27 (by decide)
    obtain rfl : x28 = _ := hf.same 28 (by decide)
    obtain rfl : x29 = _ := hf.same 29 (by decide)
    obtain rfl : x30 = _ := hf.same 30 (by decide)
    obtain rfl : x31 = _ := hf.same 31 (by decide)
    obtain rfl : x32 = _ := hf.same 32 (by decide)
    obtain rfl : x33 = _ := hf.same 33 (by decide)
    obtain rfl : x34 = _ := hf.same 34 (by decide)
    obtain rfl : x35 = _ := hf.same 35 (by decide)
    obtain rfl : x36 = _ := hf.same 36 (by decide)
    obtain rfl : x37 = _ := hf.same 37 (by decide)
    obtain rfl : x38 = _ := hf.same 38 (by decide)
    obtain rfl : x39 = _ := hf.same 39 (by decide)
    obtain rfl : x40 = _ := hf.same 40 (by decide)
    obtain rfl : x41 = _ := hf.same 41 (by decide)
    obtain rfl : x42 = _ := hf.same 42 (by decide)
    obtain rfl : x43 = _ := hf.same 43 (by decide)
    obtain rfl : x44 = _ := hf.same 44 (by decide)
    obtain rfl : x45 = _ := hf.same 45 (by decide)
    obtain rfl : x46 = _ := hf.same 46 (by decide)
    obtain rfl : x47 = _ := hf.same 47 (by decide)
    obtain rfl : x48 = _ := hf.same 48 (by decide)
    obtain rfl : x49 = _ := hf.same 49 (by decide)
    obtain rfl : x50 = _ := hf.same 50 (by decide)
    obtain rfl : x51 = _ := hf.same 51 (by decide)
    obtain rfl : x52 = _ := hf.same 52 (by decide)
    obtain rfl : x53 = _ := hf.same 53 (by decide)
    obtain rfl : x54 = _ := hf.same 54 (by decide)
    obtain rfl : x55 = _ := hf.same 55 (by decide)
    obtain rfl : x56 = _ := hf.same 56 (by decide)
    obtain rfl : x57 = _ := hf.same 57 (by decide)
    obtain rfl : x58 = _ := hf.same 58 (by decide)
    obtain rfl : x59 = _ := hf.same 59 (by decide)
    obtain rfl : x60 = _ := hf.same 60 (by decide)
    obtain rfl : x61 = _ := hf.same 61 (by decide)
    obtain rfl : x62 = _ := hf.same 62 (by decide)
    obtain rfl : x63 = _ := hf.same 63 (by decide)
    obtain rfl : x64 = _ := hf.same 64 (by decide)
    obtain rfl : x65 = _ := hf.same 65 (by decide)
    obtain rfl : x66 = _ := hf.same 66 (by decide)
    obtain rfl : x67 = _ := hf.same 67 (by decide)
    obtain rfl : x68 = _ := hf.same 68 (by decide)
    clear hall hf
    obtain ⟨hc0, hc1, hc2, hc3, z0, z1, z2, z3⟩ := HCR.out wx hb
    have HB1 := Lib.hid (HB.out.trans (hb.mono HB.out.size))
    have l0 : w.heap.size < wx.heap.size := World.block_lt_of_cell? wx _ hc0
    have l1 : w.heap.size + 1 < wx.heap.size := World.block_lt_of_cell? wx _ hc2
    clear hb
    rcases Int.lt_trichotomy X Y with hlt | heq | hgt
    · have HC := Lib.hid (cross_lt HXY.out.1 HXY.out.2 HX.out.1 HX.out.2 p0 p1 q0 hlt)
      clear p0 p1 q0 q1 hx hy
      go_wp2
      go_ret
      exact ⟨ret_int (by first | (rw [← HS.out, HC.out]; omega) | (rw [← HS.out, HC.out, sn]; omega)), HB1.out⟩
    · subst heq
      have HC := Lib.hid (cross_eq (xd := xd) (yd := yd) HX.out.1 HX.out.2)
      have hirr : ¬ X < X := by omega
      clear hx hy
      by_cases hp : p = 0
      · by_cases hq : q = 0
        · have HZ := Lib.hid (And.intro hp hq)
          have dp : (p == 0) = true := by simp [hp]
          have dq : (q == 0) = true := by simp [hq]
          clear p0 p1 q0 q1 hp hq
          go_wp2
          go_quiet (fail)
          go_wp2
          go_ret
          exact ⟨ret_int (by rw [← HS.out, HC.out, HZ.out.1, HZ.out.2]; simp), below_drewN HB1.out _⟩
        · have HZ := Lib.hid hp
          have HM : Hid (Int.sign (p * yd - q * xd) = -1) := Lib.hid (by
            rw [hp]
            refine Int.sign_eq_neg_one_of_neg ?_
            have := Int.mul_pos (by omega : 0 < q) HXY.out.1
            omega)
          have dp : (p == 0) = true := by simp [hp]
          have dq : (q == 0) = false := by simpa using hq
          clear p0 p1 q0 q1 hp
          go_wp2
          go_quiet (fail)
          go_wp2
          go_ret
          exact ⟨ret_int (by first | (rw [← HS.out, HC.out, HM.out]; omega) | (rw [← HS.out, HC.out, HM.out, sn]; omega)), below_drewN HB1.out _⟩
      · by_cases hq : q = 0
        · have HM : Hid (Int.sign (p * yd - q * xd) = 1) := Lib.hid (by
            rw [hq]
            refine Int.sign_eq_one_of_pos ?_
            have := Int.mul_pos (by omega : 0 < p) HXY.out.2
            omega)
          have dp : (p == 0) = false := by simpa using hp
          have dq : (q == 0) = true := by simp [hq]
          clear p0 p1 q0 q1 hq
          go_wp2
          go_quiet (fail)
          go_wp2
          go_ret
          exact ⟨ret_int (by rw [← HS.out, HC.out, HM.out]; omega), below_drewN HB1.out _⟩
        · have dp : (p == 0) = false := by simpa using hp
          have dq : (q == 0) = false := by simpa using hq
          have HQ := Lib.hid (And.intro hp hq)
          clear p0 p1 q0 q1 hp hq
          go_wp2
          go_quiet (fail)
          go_wp2
          go_region
          obtain ⟨w5, hw5⟩ : ∃ w5, (((((wx.drewN (nq + 1)).setCell { block := w.heap.size, off := 0 } (Value.int IntKind.i64 xd)).setCell { block := w.heap.size, off := 1 } (Value.int IntKind.i64 p)).setCell { block := w.heap.size + 1, off := 0 } (Value.int IntKind.i64 yd)).setCell { block := w.heap.size + 1, off := 1 } (Value.int IntKind.i64 q)) = w5 := ⟨_, rfl⟩
          have HF5 : Hid (FrAt w5 w.heap.size xd p yd q) := Lib.hid (by
            rw [← hw5]
            unfold FrAt
            simp [go_sem, hc0, hc1, hc2, hc3, z0, z1, z2, z3])
          have HB5 : Hid (Below w.heap.size w w5) := Lib.hid (by
            rw [← hw5]
            exact ((((below_drewN HB1.out _).setCell (by simp) _).setCell (by simp) _).setCell (by simp; try omega) _).setCell (by simp; try omega) _)
          rw [hw5]
          clear hw5
          go_wp2
          go_roundw
          case rel =>
            have h1 := HP.out; have h2 := HQ.out; have h3 := HXY.out; have h4 := HBD.out; have h5 := HSI.out
            refine ⟨-σ, xd, p, yd, q, by first | rfl | rw [sn], by omega, by omega, by omega, ?_, HB5.out, HF5.out⟩
            rw [← HS.out, HC.out, show xd * q - yd * p = -(p * yd - q * xd) by grind, Int.sign_neg]
            grind
          case measure =>
            have h1 := HP.out; have h3 := HXY.out
            have e1 := HF5.out.2.1
            have e2 := (HCR.out wr (Below.refl _ _)).2.1
            simp [e1, e2, intOf]
            omega
    · have HC := Lib.hid (cross_gt HXY.out.1 HXY.out.2 HX.out.1 HX.out.2 p0 q0 q1 hgt)
      have hgt2 : ¬ X < Y := by omega
      clear p0 p1 q0 q1 hx hy
      go_wp2
      go_ret
      exact ⟨ret_int (by first | (rw [← HS.out, HC.out]; omega) | (rw [← HS.out, HC.out, sn]; omega)), HB1.out⟩
end Go.Proofs.Ytablphoicidlkaa
