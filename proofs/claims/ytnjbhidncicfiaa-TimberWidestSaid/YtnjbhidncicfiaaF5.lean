/- Walks over the timber seat: the area under defects, the reference's. -/
import Derived.Test.YtnjbhidncicfiaaF3
import Derived.Test.YtnjbhidncicfiaaE9
import Derived.Test.YtnjbhidncicfiaaMC
import Derived.Deep.RegionHeld3
import Derived.BigQuiet
namespace Go.Proofs.Ytnjbhidncicfiaa
open Go.Shelf Go.RowKit Go.Lib Go.Sort

theorem kept14 {W wx w' : World} {b g i q k : Nat} {v0 v1 v2 v3 v4 v5 v6 v7 x y z u : Value} (hb : Below wx.heap.size wx w') (h : Below W.heap.size W wx ∧ wx.cell? ⟨b, 0, none⟩ = some v0 ∧ wx.cell? ⟨b, 1, none⟩ = some v1 ∧ wx.cell? ⟨b, 2, none⟩ = some v2 ∧ wx.cell? ⟨b, 3, none⟩ = some v3 ∧ wx.cell? ⟨b, 4, none⟩ = some v4 ∧ wx.cell? ⟨b, 5, none⟩ = some v5 ∧ wx.cell? ⟨b, 6, none⟩ = some v6 ∧ wx.cell? ⟨b, 7, none⟩ = some v7 ∧ wx.cell? ⟨g, i, none⟩ = some x ∧ wx.cell? ⟨g, i + 1, none⟩ = some y ∧ wx.cell? ⟨q, k, none⟩ = some z ∧ wx.cell? ⟨q, k + 1, none⟩ = some u) (h0 : b < W.heap.size) (h1 : g < W.heap.size) (h2 : q < W.heap.size) : Below W.heap.size W w' ∧ w'.cell? ⟨b, 0, none⟩ = some v0 ∧ w'.cell? ⟨b, 1, none⟩ = some v1 ∧ w'.cell? ⟨b, 2, none⟩ = some v2 ∧ w'.cell? ⟨b, 3, none⟩ = some v3 ∧ w'.cell? ⟨b, 4, none⟩ = some v4 ∧ w'.cell? ⟨b, 5, none⟩ = some v5 ∧ w'.cell? ⟨b, 6, none⟩ = some v6 ∧ w'.cell? ⟨b, 7, none⟩ = some v7 ∧ w'.cell? ⟨g, i, none⟩ = some x ∧ w'.cell? ⟨g, i + 1, none⟩ = some y ∧ w'.cell? ⟨q, k, none⟩ = some z ∧ w'.cell? ⟨q, k + 1, none⟩ = some u := by
  obtain ⟨a, c0, c1, c2, c3, c4, c5, c6, c7, c8, c9, c10, c11⟩ := h
  have hs := a.size
  have k : ∀ b o, b < W.heap.size → w'.cell? ⟨b, o, none⟩ = wx.cell? ⟨b, o, none⟩ := fun b o hlt => hb.cell (p := ⟨b, o, none⟩) (Nat.lt_of_lt_of_le hlt hs)
  exact ⟨a.trans (hb.mono hs), by rw [k _ _ h0, c0], by rw [k _ _ h0, c1], by rw [k _ _ h0, c2], by rw [k _ _ h0, c3], by rw [k _ _ h0, c4], by rw [k _ _ h0, c5], by rw [k _ _ h0, c6], by rw [k _ _ h0, c7], by rw [k _ _ h1, c8], by rw [k _ _ h1, c9], by rw [k _ _ h2, c10], by rw [k _ _ h2, c11]⟩

theorem own_low {w : World} {b b' ty sz n : Nat} {v : Value} {xs : List Value} (h : w.ownsRow b ty sz v n xs) (hb : b' ≤ b) : w.ownsRow b' ty sz v n xs :=
  ⟨h.1, h.2.imp id fun ⟨g, cap, cur, h1, h2, h3⟩ => ⟨g, cap, cur, h1, by omega, h3⟩⟩
theorem row_step {b : Bd} {x1 x2 y z : Int} {ys : List Int} {k : Nat} {v : Bool} (hy : ys[k]? = some y) (hz : ys[k + 1]? = some z) (hv : soundB b ⟨x1, y, x2, z⟩ = v) : rowTo b x1 x2 ys (k + 1) = bif v then rowTo b x1 x2 ys k else rowTo b x1 x2 ys k + (x2 - x1) * (z - y) := by
  have h1 : ys.getD k 0 = y := by rw [List.getD_eq_getElem?_getD, hy]; rfl
  have h2 : ys.getD (k + 1) 0 = z := by rw [List.getD_eq_getElem?_getD, hz]; rfl
  show (bif soundB b ⟨x1, ys.getD k 0, x2, ys.getD (k + 1) 0⟩ then rowTo b x1 x2 ys k else rowTo b x1 x2 ys k + (x2 - x1) * (ys.getD (k + 1) 0 - ys.getD k 0)) = _
  rw [h1, h2, hv]
theorem net_step {b : Bd} {xs ys : List Int} {i : Nat} {x y : Int} (hx : xs[i]? = some x) (hy : xs[i + 1]? = some y) : netTo b xs ys (i + 1) = netTo b xs ys i + rowTo b x y ys (ys.length - 1) := by
  have h1 : xs.getD i 0 = x := by rw [List.getD_eq_getElem?_getD, hx]; rfl
  have h2 : xs.getD (i + 1) 0 = y := by rw [List.getD_eq_getElem?_getD, hy]; rfl
  show netTo b xs ys i + rowTo b (xs.getD i 0) (xs.getD (i + 1) 0) ys (ys.length - 1) = _
  rw [h1, h2]
theorem prod_top {b : Bd} (hb : BdOk b) {a c : Int} (h0 : 0 ≤ a) (h1 : a ≤ b.ln) (hc : 0 ≤ c) (h2 : c ≤ b.wd) : 0 ≤ a * c ∧ a * c ≤ 60000000000 := by
  have hl := hb.l1; have hw := hb.w1
  refine ⟨Int.mul_nonneg h0 hc, Int.le_trans (Int.mul_le_mul_of_nonneg_right (show a ≤ 600000 by omega) hc) ?_⟩
  omega
theorem net_top {b : Bd} (hb : BdOk b) {i : Nat} (hi : i < (xLines b).length) : 0 ≤ netTo b (xLines b) (yLines b) i ∧ netTo b (xLines b) (yLines b) i ≤ 60000000000 := by
  rw [net_sum hb i hi]
  exact covered_bounds hb (line_ge (xLines_asc b) (x_first hb).1 hi) (line_le (xLines_asc b) (x_first hb).2.2 hi)
theorem line_mem {b : Bd} (hb : BdOk b) {i : Nat} {x y : Int} (hx : (xLines b)[i]? = some x) (hy : (xLines b)[i + 1]? = some y) : 0 ≤ x ∧ x < y ∧ y ≤ b.ln ∧ ∀ z ∈ xLines b, z ≤ x ∨ y ≤ z := by
  obtain ⟨h1, rfl⟩ := List.getElem?_eq_some_iff.1 hx
  obtain ⟨h2, rfl⟩ := List.getElem?_eq_some_iff.1 hy
  have h3 := line_step (xLines_asc b) h2
  have h4 := line_ge (xLines_asc b) (x_first hb).1 h1
  have h5 := line_le (xLines_asc b) (x_first hb).2.2 h2
  rw [getD_at h1, getD_at h2] at h3
  rw [getD_at h1] at h4
  rw [getD_at h2] at h5
  exact ⟨h4, h3.1, h5, h3.2⟩
theorem line_memY {b : Bd} (hb : BdOk b) {i : Nat} {x y : Int} (hx : (yLines b)[i]? = some x) (hy : (yLines b)[i + 1]? = some y) : 0 ≤ x ∧ x < y ∧ y ≤ b.wd := by
  obtain ⟨h1, rfl⟩ := List.getElem?_eq_some_iff.1 hx
  obtain ⟨h2, rfl⟩ := List.getElem?_eq_some_iff.1 hy
  have h3 := line_step (yLines_asc b) h2
  have h4 := line_ge (yLines_asc b) (y_first hb).1 h1
  have h5 := line_le (yLines_asc b) (y_first hb).2.2 h2
  rw [getD_at h1, getD_at h2] at h3
  rw [getD_at h1] at h4
  rw [getD_at h2] at h5
  exact ⟨h4, h3.1, h5⟩
theorem row_top {b : Bd} (hb : BdOk b) {i k : Nat} {x y : Int} (hx : (xLines b)[i]? = some x) (hy : (xLines b)[i + 1]? = some y) (hk : k < (yLines b).length) : 0 ≤ rowTo b x y (yLines b) k ∧ rowTo b x y (yLines b) k ≤ 60000000000 := by
  obtain ⟨h0, h1, h2, h3⟩ := line_mem hb hx hy
  rw [row_sum hb (x := x) ⟨Int.le_refl _, h1⟩ (fun d hd => ⟨h3 d.x1 (xLines_mem.2 (.inr ⟨d, hd, .inl rfl⟩)), h3 d.x2 (xLines_mem.2 (.inr ⟨d, hd, .inr rfl⟩))⟩) k hk]
  have hg := line_ge (yLines_asc b) (y_first hb).1 hk
  have hl := line_le (yLines_asc b) (y_first hb).2.2 hk
  have hr := rs_bounds (a := 0) (b := (yLines b).getD k 0) (M := 1) (f := fun z => oneIf (covB b x z)) hg fun z => oneIf_bounds _
  exact prod_top hb (by omega) (by omega) hr.1 (by omega)
theorem lines_len {b : Bd} (hb : BdOk b) : (xLines b).length ≤ 122 ∧ (yLines b).length ≤ 122 := by
  have hd := hb.dn
  constructor
  · have h1 := insS_len (a := b.ln) (l := [0])
    have h2 := lnF_len (f := fun d => d.x1) (g := fun d => d.x2) (ds := b.df) (l := insS b.ln [0]) h1.1
    have h3 : xLines b = lnF (fun d => d.x1) (fun d => d.x2) b.df (insS b.ln [0]) := rfl
    have h4 := h1.2
    simp at h4
    rw [h3]; omega
  · have h1 := insS_len (a := b.wd) (l := [0])
    have h2 := lnF_len (f := fun d => d.y1) (g := fun d => d.y2) (ds := b.df) (l := insS b.wd [0]) h1.1
    have h3 : yLines b = lnF (fun d => d.y1) (fun d => d.y2) b.df (insS b.wd [0]) := rfl
    have h4 := h1.2
    simp at h4
    rw [h3]; omega
set_option maxHeartbeats 4000000 in
set_option maxRecDepth 20000 in
theorem defRef_any {nm sp : ByteArray} {ln wd th cu mo : Int} {D : Option Addr} {dn dc : Nat} {ds : List Rc} (hb : BdOk ⟨nm, sp, ln, wd, th, cu, mo, ds⟩) (w : World) (hd : RcRow w D dn ds) :
    Calls Try.prog 46 #[.agg #[.string nm, .string sp, .int .i64 ln, .int .i64 wd, .int .i64 th, .int .i64 cu, .int .i64 mo, .slice D dn dc]] w fun e w' => e = .returned (.int .i64 (covered ⟨nm, sp, ln, wd, th, cu, mo, ds⟩)) ∧ Below w.heap.size w w' := by
  have hdl := hd.1
  have hdn := hb.dn
  simp only at hdn
  have hdm : dn ≤ maxLen := by unfold maxLen; omega
  have hBL : Below w.heap.size w (w.alloc (.cells #[.string nm, .string sp, .int .i64 ln, .int .i64 wd, .int .i64 th, .int .i64 cu, .int .i64 mo, .slice D dn dc] 34)) := (Below.refl _ _).alloc (Nat.le_refl _) _
  have hd1 := RcRow.below hd hBL
  have LX := fun wx hbx => Lib.hid (lines_x (dc := dc) hb wx (RcRow.below hd1 hbx))
  have LY := fun wx hbx => Lib.hid (lines_y (dc := dc) hb wx (RcRow.below hd1 hbx))
  have HD := Lib.hid hd
  have HBL := Lib.hid hBL
  have HBO := Lib.hid hb
  have hl0 := hb.l0; have hl1' := hb.l1; have hw0 := hb.w0; have hw1' := hb.w1
  simp only at hl0 hl1' hw0 hw1'
  have hll := lines_len hb
  have hx2 := (x_first hb).2.1
  have hy2 := (y_first hb).2.1
  have HCV := Lib.hid (net_covered hb)
  have HNT := fun i hi => Lib.hid (net_top hb (i := i) hi)
  have HRT := fun i k x y hx hy hk => Lib.hid (row_top hb (i := i) (k := k) (x := x) (y := y) hx hy hk)
  have HLX := fun i x y hx hy => Lib.hid (line_mem hb (i := i) (x := x) (y := y) hx hy)
  have HLY := fun i x y hx hy => Lib.hid (line_memY hb (i := i) (x := x) (y := y) hx hy)
  clear hd hd1 hBL hb
  go_enter Try.func46, Try.ntmps46
  go_upto_region 1 with fail
  go_cut [3, 4] from 8 (fun u v wx => wx.ownsRow w.heap.size 3 1 u (xLines ⟨nm, sp, ln, wd, th, cu, mo, ds⟩).length (intCells (xLines ⟨nm, sp, ln, wd, th, cu, mo, ds⟩)) ∧ wx.ownsRow w.heap.size 3 1 v (yLines ⟨nm, sp, ln, wd, th, cu, mo, ds⟩).length (intCells (yLines ⟨nm, sp, ln, wd, th, cu, mo, ds⟩)) ∧ Below (w.alloc (.cells #[.string nm, .string sp, .int .i64 ln, .int .i64 wd, .int .i64 th, .int .i64 cu, .int .i64 mo, .slice D dn dc] 34)).heap.size (w.alloc (.cells #[.string nm, .string sp, .int .i64 ln, .int .i64 wd, .int .i64 th, .int .i64 cu, .int .i64 mo, .slice D dn dc] 34)) wx)
  case first =>
    go_region_with (first | (go_at_call 94; have h := hownA; refine Calls.mono (LY _ hAB).out ?_; rintro e w3 ⟨r3, rfl, hownB, hbB⟩) | (go_at_call 94; refine Calls.mono (LX _ (by first | exact (Below.refl _ _).drew | exact Below.refl _ _)).out ?_; rintro e w2 ⟨r2, rfl, hownA, hbA⟩; have hAB : Below (w.alloc (.cells #[.string nm, .string sp, .int .i64 ln, .int .i64 wd, .int .i64 th, .int .i64 cu, .int .i64 mo, .slice D dn dc] 34)).heap.size (w.alloc (.cells #[.string nm, .string sp, .int .i64 ln, .int .i64 wd, .int .i64 th, .int .i64 cu, .int .i64 mo, .slice D dn dc] 34)) w2 := (by first | exact ((Below.refl _ _).drew).trans (hbA.mono (by simp)) | exact hbA.mono (by simp)); have K : ∀ o, w2.cell? ⟨w.heap.size, o, none⟩ = _ := (fun o => hbA.cell (p := ⟨w.heap.size, o, none⟩) (by simp)); have q0 := K 0; have q1 := K 1; have q2 := K 2; have q3 := K 3; have q4 := K 4; have q5 := K 5; have q6 := K 6; have q7 := K 7; simp [go_sem] at q0 q1 q2 q3 q4 q5 q6 q7))
    all_goals
      go_wp2_with fail
      go_meet
      have hsA := hAB.size
      simp at hsA
      exact ⟨own_low (own_kept hownA hbB) (by simp), own_low hownB (by omega), hAB.trans (hbB.mono hAB.size)⟩
  case rest =>
    obtain ⟨hx, hy, hbw⟩ := hcut
    have HWC := Lib.hid (HBL.out.trans (hbw.mono (by simp)))
    have hs1 : w.heap.size < wc.heap.size := by have := hbw.size; simp at this; omega
    obtain ⟨xs, hxs⟩ : ∃ xs, (xLines ⟨nm, sp, ln, wd, th, cu, mo, ds⟩) = xs := ⟨_, rfl⟩
    obtain ⟨ys, hys⟩ : ∃ ys, (yLines ⟨nm, sp, ln, wd, th, cu, mo, ds⟩) = ys := ⟨_, rfl⟩
    rw [hxs] at hx hll hx2 HCV HNT HRT HLX
    rw [hys] at hy hll hy2 HCV HNT HRT HLY
    clear hxs hys LX LY HBL
    obtain ⟨hl1, hl2⟩ := hll
    obtain ⟨g, cap, rfl, -, hgl, hnc, hcm, hcell⟩ := own_int hx rfl (by omega)
    obtain ⟨q, cbp, rfl, -, hql, hmc, hcm2, hcell2⟩ := own_int hy rfl (by omega)
    have HC := Lib.hid hcell
    have HC2 := Lib.hid hcell2
    clear hcell hcell2 hx hy
    have K1 : ∀ o, wc.cell? ⟨w.heap.size, o, none⟩ = _ := fun o => hbw.cell (p := ⟨w.heap.size, o, none⟩) (by simp)
    have q0 := K1 0; have q1 := K1 1; have q2 := K1 2; have q3 := K1 3; have q4 := K1 4; have q5 := K1 5; have q6 := K1 6; have q7 := K1 7
    simp [go_sem] at q0 q1 q2 q3 q4 q5 q6 q7
    have HQ := Lib.hid (And.intro q0 (And.intro q1 (And.intro q2 (And.intro q3 (And.intro q4 (And.intro q5 (And.intro q6 q7)))))))
    clear q0 q1 q2 q3 q4 q5 q6 q7 K1 hbw
    obtain ⟨n, hn⟩ : ∃ n, xs.length = n := ⟨_, rfl⟩
    obtain ⟨m, hm⟩ : ∃ m, ys.length = m := ⟨_, rfl⟩
    rw [hn] at hl1 hx2 hnc HCV HNT ⊢
    rw [hm] at hl2 hy2 hmc HRT ⊢
    have hn1 : n ≤ xs.length := by omega
    have hm1 : m ≤ ys.length := by omega
    have HM := Lib.hid hm
    clear hn hm
    go_wp2
    go_loopw [5, 6] (fun sv iv wr => ∃ i : Nat, i + 1 ≤ n ∧ iv = .int .i64 i ∧ sv = .int .i64 (netTo ⟨nm, sp, ln, wd, th, cu, mo, ds⟩ xs ys i) ∧ Below wc.heap.size wc wr) (fun _ iv _ => n - (intOf iv).toNat)
    case atStart => exact ⟨0, by omega, rfl, rfl, Below.refl _ _⟩
    case round =>
      obtain ⟨i, hi, rfl, rfl, hbw⟩ := hrel
      have HB := Lib.hid hbw
      have hsz := hbw.size
      have HBR := Lib.hid (HWC.out.trans (hbw.mono HWC.out.size))
      have hin : (i : Int) + 1 ≤ n := by omega
      by_cases hlt : i + 1 < n
      · have hi0 : i < xs.length := by omega
        have hi1 : i + 1 < xs.length := by omega
        have hlti : (i : Int) + 1 < n := by omega
        have hltj : (i : Int) < n := by omega
        have hwi : IntKind.i64.wrap ((i : Int) + 1) = (i : Int) + 1 := by rw [IntKind.wrap_i64]; omega
        have hti : ((i : Int) + 1).toNat = i + 1 := by omega
        have hi0p : (0 : Int) ≤ (i : Int) + 1 := by omega
        have hid : decide ((i : Int) + 1 < 0) = false := decide_eq_false (by omega)
        have c0 := (hbw.cell (p := ⟨g, i, none⟩) hgl).trans (HC.out i hi0)
        have c1 := (hbw.cell (p := ⟨g, i + 1, none⟩) hgl).trans (HC.out (i + 1) hi1)
        have hx0 : xs[i]? = some xs[i] := List.getElem?_eq_getElem hi0
        have hx1 : xs[i + 1]? = some xs[i + 1] := List.getElem?_eq_getElem hi1
        obtain ⟨x, hx⟩ : ∃ x, xs[i] = x := ⟨_, rfl⟩
        obtain ⟨y, hy⟩ : ∃ y, xs[i + 1] = y := ⟨_, rfl⟩
        rw [hx] at c0 hx0
        rw [hy] at c1 hx1
        have HNS := Lib.hid (net_step (b := ⟨nm, sp, ln, wd, th, cu, mo, ds⟩) (ys := ys) hx0 hx1)
        rw [HM.out] at HNS
        obtain ⟨hxa, hxb, hxc, -⟩ := (HLX i x y hx0 hx1).out
        try simp only at hxc
        obtain ⟨hA0, hA1⟩ := (HNT i (by omega)).out
        have RT := fun k hk => HRT i k x y hx0 hx1 hk
        obtain ⟨A, hA⟩ : ∃ A, netTo ⟨nm, sp, ln, wd, th, cu, mo, ds⟩ xs ys i = A := ⟨_, rfl⟩
        rw [hA] at hA0 hA1 HNS ⊢
        have HC0 := Lib.hid c0
        have HC1 := Lib.hid c1
        have hgr : g < wr.heap.size := by omega
        have hqr : q < wr.heap.size := by omega
        clear hA hx hy hx0 hx1 c0 c1 hbw
        go_wp2
        go_loopw [5, 7] (fun sv kv wz => ∃ k : Nat, k + 1 ≤ m ∧ kv = .int .i64 k ∧ sv = .int .i64 (A + rowTo ⟨nm, sp, ln, wd, th, cu, mo, ds⟩ x y ys k) ∧ Below wr.heap.size wr wz) (fun _ kv _ => m - (intOf kv).toNat)
        case atStart => exact ⟨0, by omega, rfl, by rw [show rowTo ⟨nm, sp, ln, wd, th, cu, mo, ds⟩ x y ys 0 = 0 from rfl, Int.add_zero], Below.refl _ _⟩
        case round =>
          obtain ⟨k, hk, rfl, rfl, hbz⟩ := hrel
          have HBZ := Lib.hid hbz
          have hzz := hbz.size
          have HBW := Lib.hid (HBR.out.trans (hbz.mono HBR.out.size))
          have hkm : (k : Int) + 1 ≤ m := by omega
          obtain ⟨hR0, hR1⟩ := (RT k (by omega)).out
          by_cases hlt2 : k + 1 < m
          · have hk0 : k < ys.length := by omega
            have hk1 : k + 1 < ys.length := by omega
            have hltk : (k : Int) + 1 < m := by omega
            have hltl : (k : Int) < m := by omega
            have hwk : IntKind.i64.wrap ((k : Int) + 1) = (k : Int) + 1 := by rw [IntKind.wrap_i64]; omega
            have htk : ((k : Int) + 1).toNat = k + 1 := by omega
            have hk0p : (0 : Int) ≤ (k : Int) + 1 := by omega
            have hkd : decide ((k : Int) + 1 < 0) = false := decide_eq_false (by omega)
            have kZ : ∀ o, wr.cell? ⟨w.heap.size, o, none⟩ = wc.cell? ⟨w.heap.size, o, none⟩ := fun o => (hbz.cell (p := ⟨w.heap.size, o, none⟩) (by simp only; omega)).trans (HB.out.cell (p := ⟨w.heap.size, o, none⟩) hs1)
            have q0 := (kZ 0).trans HQ.out.1; have q1 := (kZ 1).trans HQ.out.2.1; have q2 := (kZ 2).trans HQ.out.2.2.1; have q3 := (kZ 3).trans HQ.out.2.2.2.1; have q4 := (kZ 4).trans HQ.out.2.2.2.2.1; have q5 := (kZ 5).trans HQ.out.2.2.2.2.2.1; have q6 := (kZ 6).trans HQ.out.2.2.2.2.2.2.1; have q7 := (kZ 7).trans HQ.out.2.2.2.2.2.2.2
            have c0 := (hbz.cell (p := ⟨g, i, none⟩) hgr).trans HC0.out
            have c1 := (hbz.cell (p := ⟨g, i + 1, none⟩) hgr).trans HC1.out
            have e0 := ((hbz.cell (p := ⟨q, k, none⟩) hqr).trans (HB.out.cell (p := ⟨q, k, none⟩) hql)).trans (HC2.out k hk0)
            have e1 := ((hbz.cell (p := ⟨q, k + 1, none⟩) hqr).trans (HB.out.cell (p := ⟨q, k + 1, none⟩) hql)).trans (HC2.out (k + 1) hk1)
            have hy0 : ys[k]? = some ys[k] := List.getElem?_eq_getElem hk0
            have hy1 : ys[k + 1]? = some ys[k + 1] := List.getElem?_eq_getElem hk1
            obtain ⟨z, hz⟩ : ∃ z, ys[k] = z := ⟨_, rfl⟩
            obtain ⟨u, hu⟩ : ∃ u, ys[k + 1] = u := ⟨_, rfl⟩
            rw [hz] at e0 hy0
            rw [hu] at e1 hy1
            obtain ⟨hya, hyb, hyc⟩ := (HLY k z u hy0 hy1).out
            try simp only at hyc
            have QB := Lib.hid (show w.heap.size < wr.heap.size by omega)
            have QG := Lib.hid (show g < wr.heap.size by omega)
            have QQ := Lib.hid (show q < wr.heap.size by omega)
            obtain ⟨R, hR⟩ : ∃ R, rowTo ⟨nm, sp, ln, wd, th, cu, mo, ds⟩ x y ys k = R := ⟨_, rfl⟩
            clear kZ
            cases hv : soundB ⟨nm, sp, ln, wd, th, cu, mo, ds⟩ ⟨x, z, y, u⟩
            · have HS := Lib.hid (row_step hy0 hy1 hv)
              have IS := fun wx hbx => Lib.hid (isSound_any (dc := dc) hv hdm wx (RcRow.below HD.out (HBW.out.trans hbx)))
              rw [hR] at HS hR0 hR1 ⊢
              obtain ⟨hP0, hP1⟩ := prod_top HBO.out (a := y - x) (c := u - z) (by omega) (by first | omega | (simp only; omega)) (by omega) (by first | omega | (simp only; omega))
              clear hy0 hy1 hz hu hv hR hbz
              go_wp2
              go_region_held3 (fun wx => Below wr.heap.size wr wx ∧ wx.cell? ⟨w.heap.size, 0, none⟩ = some (.string nm) ∧ wx.cell? ⟨w.heap.size, 1, none⟩ = some (.string sp) ∧ wx.cell? ⟨w.heap.size, 2, none⟩ = some (.int .i64 ln) ∧ wx.cell? ⟨w.heap.size, 3, none⟩ = some (.int .i64 wd) ∧ wx.cell? ⟨w.heap.size, 4, none⟩ = some (.int .i64 th) ∧ wx.cell? ⟨w.heap.size, 5, none⟩ = some (.int .i64 cu) ∧ wx.cell? ⟨w.heap.size, 6, none⟩ = some (.int .i64 mo) ∧ wx.cell? ⟨w.heap.size, 7, none⟩ = some (.slice D dn dc) ∧ wx.cell? ⟨g, i, none⟩ = some (.int .i64 x) ∧ wx.cell? ⟨g, i + 1, none⟩ = some (.int .i64 y) ∧ wx.cell? ⟨q, k, none⟩ = some (.int .i64 z) ∧ wx.cell? ⟨q, k + 1, none⟩ = some (.int .i64 u)) ((first | (refine ⟨(Below.refl _ _).drew, ?_, ?_, ?_, ?_, ?_, ?_, ?_, ?_, ?_, ?_, ?_, ?_⟩ <;> assumption) | (refine ⟨?_, ?_, ?_, ?_, ?_, ?_, ?_, ?_, ?_, ?_, ?_, ?_, ?_⟩ <;> assumption) | (apply kept14 <;> first | assumption | exact QB.out | exact QG.out | exact QQ.out))) (first | (go_at_call 50; refine Calls.mono (IS _ (by first | assumption | exact (Below.refl _ _).drew | exact And.left (by assumption))).out ?_; rintro e w' ⟨rfl, hbx⟩))
              obtain ⟨hWx, -, -, -, -, -, -, -, -, z8, z9, z10, z11⟩ := ‹Below wr.heap.size wr w' ∧ _›
              have HWX := Lib.hid hWx
              clear hWx
              go_wp2
              go_quiet (fail)
              go_wp2
              go_roundw
              case rel => exact ⟨k + 1, by omega, by go_num, by rw [HS.out, cond_false]; first | done | rfl | (congr 1; omega) | (congr 1; rw [IntWalk.wrap64_in _ (by omega)]; omega) | (congr 1; rw [IntWalk.wrap64_in (y - x) (by omega), IntWalk.wrap64_in (u - z) (by omega), IntWalk.wrap64_in ((y - x) * (u - z)) (by omega), IntWalk.wrap64_in _ (by omega)]; omega), HBZ.out.trans ((below_drewN HWX.out _).mono hzz)⟩
              case measure => first | (simp [intOf]; done) | (simp [intOf]; omega)
            · have HS := Lib.hid (row_step hy0 hy1 hv)
              have IS := fun wx hbx => Lib.hid (isSound_any (dc := dc) hv hdm wx (RcRow.below HD.out (HBW.out.trans hbx)))
              rw [hR] at HS hR0 hR1 ⊢
              clear hy0 hy1 hz hu hv hR hbz
              go_wp2
              go_region_held3 (fun wx => Below wr.heap.size wr wx ∧ wx.cell? ⟨w.heap.size, 0, none⟩ = some (.string nm) ∧ wx.cell? ⟨w.heap.size, 1, none⟩ = some (.string sp) ∧ wx.cell? ⟨w.heap.size, 2, none⟩ = some (.int .i64 ln) ∧ wx.cell? ⟨w.heap.size, 3, none⟩ = some (.int .i64 wd) ∧ wx.cell? ⟨w.heap.size, 4, none⟩ = some (.int .i64 th) ∧ wx.cell? ⟨w.heap.size, 5, none⟩ = some (.int .i64 cu) ∧ wx.cell? ⟨w.heap.size, 6, none⟩ = some (.int .i64 mo) ∧ wx.cell? ⟨w.heap.size, 7, none⟩ = some (.slice D dn dc) ∧ wx.cell? ⟨g, i, none⟩ = some (.int .i64 x) ∧ wx.cell? ⟨g, i + 1, none⟩ = some (.int .i64 y) ∧ wx.cell? ⟨q, k, none⟩ = some (.int .i64 z) ∧ wx.cell? ⟨q, k + 1, none⟩ = some (.int .i64 u)) ((first | (refine ⟨(Below.refl _ _).drew, ?_, ?_, ?_, ?_, ?_, ?_, ?_, ?_, ?_, ?_, ?_, ?_⟩ <;> assumption) | (refine ⟨?_, ?_, ?_, ?_, ?_, ?_, ?_, ?_, ?_, ?_, ?_, ?_, ?_⟩ <;> assumption) | (apply kept14 <;> first | assumption | exact QB.out | exact QG.out | exact QQ.out))) (first | (go_at_call 50; refine Calls.mono (IS _ (by first | assumption | exact (Below.refl _ _).drew | exact And.left (by assumption))).out ?_; rintro e w' ⟨rfl, hbx⟩))
              obtain ⟨hWx, -⟩ := ‹Below wr.heap.size wr w' ∧ _›
              go_wp2
              go_roundw
              case rel => exact ⟨k + 1, by omega, by go_num, by rw [HS.out, cond_true], HBZ.out.trans (hWx.mono hzz)⟩
              case measure => first | (simp [intOf]; done) | (simp [intOf]; omega)
          · have hk' : k = m - 1 := by omega
            have hge : ¬ ((k : Int) + 1 < m) := by omega
            rw [hk'] at hR0 hR1 ⊢
            rw [← HNS.out]
            clear hbz
            go_wp2
            go_roundw
            case rel => exact ⟨i + 1, by omega, by go_num, rfl, HB.out.trans (HBZ.out.mono hsz)⟩
            case measure => first | (simp [intOf]; done) | (simp [intOf]; omega)
      · have hi' : i = n - 1 := by omega
        have hge : ¬ ((i : Int) + 1 < n) := by omega
        clear hbw
        rw [hi', HCV.out]
        go_wp2
        go_ret
        exact ⟨rfl, HBR.out⟩
end Go.Proofs.Ytnjbhidncicfiaa
