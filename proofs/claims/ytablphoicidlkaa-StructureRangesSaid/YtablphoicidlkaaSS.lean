/- Walks over beams: the longest span. -/
import Derived.Test.YtablphoicidlkaaSR
namespace Go.Proofs.Ytablphoicidlkaa
open Go.RowKit

theorem found_unique {N : Nat} {q : Nat → Bool} {r t : Nat} (hm : ∀ a b, a ≤ b → b < N → q a = true → q b = true) (h : Found N q r) (ht : t ≤ N) (h1 : ∀ a, a < t → q a = false) (h2 : t < N → q t = true) : r = t := by
  obtain ⟨hr, f1, f2⟩ := h
  rcases Nat.lt_trichotomy r t with hlt | rfl | hgt
  · rcases f2 with rfl | f2
    · omega
    · rw [h1 r hlt] at f2; cases f2
  · rfl
  · rcases f1 with rfl | f1
    · omega
    · have := hm t (r - 1) (by omega) (by omega) (h2 (by omega))
      rw [this] at f1; cases f1
theorem bears_mono {b : Bm} {x : Wd} {n m p r : Int} (n0 : 0 ≤ n) (hnm : n ≤ m) (p0 : 0 ≤ p) (r0 : 0 ≤ r) (h : bearsB b x m p r = true) : bearsB b x n p r = true := by
  have h1 : 6 * p * n * n ≤ 6 * p * m * m := Int.mul_le_mul (Int.mul_le_mul_of_nonneg_left hnm (by omega)) hnm n0 (Int.mul_nonneg (by omega) (by omega))
  have h2 : p * n * n * n * r ≤ p * m * m * m * r := by
    have a1 : p * n ≤ p * m := Int.mul_le_mul_of_nonneg_left hnm p0
    have b1 : 0 ≤ p * m := Int.mul_nonneg p0 (by omega)
    have a2 : p * n * n ≤ p * m * m := Int.mul_le_mul a1 hnm n0 b1
    have b2 : 0 ≤ p * m * m := Int.mul_nonneg b1 (by omega)
    have a3 : p * n * n * n ≤ p * m * m * m := Int.mul_le_mul a2 hnm n0 b2
    exact Int.mul_le_mul_of_nonneg_right a3 r0
  unfold bearsB at *
  generalize 6 * p * n * n = u at *
  generalize 6 * p * m * m = u' at *
  generalize p * n * n * n * r = v at *
  generalize p * m * m * m * r = v' at *
  generalize x.st * (b.w * b.t * b.t) = c1 at *
  generalize x.lo * (b.w * b.t * b.t) * b.t = c2 at *
  cases he : b.e == 1
  · simp only [he, cond_false, Bool.and_eq_true, decide_eq_true_eq] at h ⊢
    omega
  · simp only [he, cond_true, Bool.and_eq_true, decide_eq_true_eq] at h ⊢
    omega
def lonE (b : Bm) (x : Wd) (p r : Int) : Int := firstE [beamE b, woodE x, rngE 1 10000 [p], rngE 1 1000 [r]]
theorem lonE_ok {b : Bm} {x : Wd} {p r : Int} : lonE b x p r = 0 ↔ BmOk b ∧ WdOk x ∧ (1 ≤ p ∧ p ≤ 10000) ∧ (1 ≤ r ∧ r ≤ 1000) := by
  unfold lonE
  rw [firstE_ok]
  simp only [List.mem_cons, List.not_mem_nil, or_false, forall_eq_or_imp, forall_eq, beamE_ok, woodE_ok, rngE_ok]
/-- The spans that are too long, from 1 on. -/
def lonQ (b : Bm) (x : Wd) (p r : Int) (i : Nat) : Bool := !bearsB b x (1 + (i : Int)) p r
theorem lonQ_mono {b : Bm} {x : Wd} {p r : Int} (p0 : 1 ≤ p) (r0 : 1 ≤ r) : ∀ i j, i ≤ j → j < 2000 → lonQ b x p r i = true → lonQ b x p r j = true := by
  intro i j hij _ h
  unfold lonQ at *
  cases hj : bearsB b x (1 + (j : Int)) p r
  · rfl
  · have := bears_mono (n := 1 + (i : Int)) (m := 1 + (j : Int)) (by omega) (by omega) (by omega) (by omega) hj
    rw [this] at h; cases h
set_option maxHeartbeats 1000000 in
theorem cloLS_any {b : Bm} {x : Wd} {p r n : Int} {B0 B1 B2 B3 : Nat} (hb : BmOk b) (hx : WdOk x) (n0 : 0 ≤ n) (n1 : n ≤ 2001) (p0 : 1 ≤ p) (p1 : p ≤ 10000) (r0 : 1 ≤ r) (r1 : r ≤ 1000) (w : World)
    (c0 : w.cell? ⟨B0, 0, none⟩ = some (.int .i64 b.s)) (c1 : w.cell? ⟨B0, 1, none⟩ = some (.int .i64 b.w)) (c2 : w.cell? ⟨B0, 2, none⟩ = some (.int .i64 b.t)) (c3 : w.cell? ⟨B0, 3, none⟩ = some (.int .i64 b.e))
    (c4 : w.cell? ⟨B1, 0, none⟩ = some (.int .i64 x.lo)) (c5 : w.cell? ⟨B1, 1, none⟩ = some (.int .i64 x.hi)) (c6 : w.cell? ⟨B1, 2, none⟩ = some (.int .i64 x.st)) (c7 : w.cell? ⟨B2, 0, none⟩ = some (.int .i64 p)) (c8 : w.cell? ⟨B3, 0, none⟩ = some (.int .i64 r)) :
    Calls Try.prog 121 #[.int .i64 n, .pointer (some ⟨B0, 0, none⟩), .pointer (some ⟨B1, 0, none⟩), .pointer (some ⟨B2, 0, none⟩), .pointer (some ⟨B3, 0, none⟩)] w fun e w' => e = .returned (.bool (!bearsB b x n p r)) ∧ Below w.heap.size w w' := by
  have BE := fun wx => Lib.hid (bears_any hb hx n0 n1 p0 p1 r0 r1 wx)
  have hbv : bmV b = .agg #[.int .i64 b.s, .int .i64 b.w, .int .i64 b.t, .int .i64 b.e] := rfl
  have hxv : wdV x = .agg #[.int .i64 x.lo, .int .i64 x.hi, .int .i64 x.st] := rfl
  rw [hbv, hxv] at BE
  clear hbv hxv hb hx
  obtain ⟨v, hv⟩ : ∃ v, bearsB b x n p r = v := ⟨_, rfl⟩
  rw [hv] at BE ⊢
  clear hv
  generalize b.s = y0 at *
  generalize b.w = y1 at *
  generalize b.t = y2 at *
  generalize b.e = y3 at *
  generalize x.lo = y4 at *
  generalize x.hi = y5 at *
  generalize x.st = y6 at *
  go_enter Try.func121, Try.ntmps121
  go_wp2_with (go_at_call 122; (refine Calls.mono (BE _).out ?_); rintro e w1 ⟨rfl, hb1⟩; have HX := Lib.hid hb1; clear hb1)
  go_ret
  exact ⟨rfl, HX.out⟩
/-- What LongestSpan hands back. -/
def lonV (e : Int) (r : Nat) : Value := bif e == 0 then (bif r == 0 then .tuple #[.int .i64 0, .int .i64 12] else .tuple #[.int .i64 r, .int .i64 0]) else .tuple #[.int .i64 0, .int .i64 e]
def LonOut (b : Bm) (x : Wd) (p r : Int) (w : World) (e : Ending) (w' : World) : Prop := ∃ k : Nat, e = .returned (lonV (lonE b x p r) k) ∧ (lonE b x p r = 0 → Found 2000 (lonQ b x p r) k) ∧ Below w.heap.size w w'
set_option maxHeartbeats 4000000 in
set_option maxRecDepth 20000 in
theorem longestSpan_any {b : Bm} {x : Wd} {p r : Int} (w : World) : Calls Try.prog 60 #[bmV b, wdV x, .int .i64 p, .int .i64 r] w (LonOut b x p r w) := by
  have CB := fun wx => Lib.hid (checkBeam_any b wx)
  have CW := fun wx => Lib.hid (checkWood_any x wx)
  have C1 := fun wx b (h : IntRow wx (some ⟨b, 0, none⟩) 1 [p]) => Lib.hid (checkRange_any (c := 1) (lo := 1) (hi := 10000) wx h (by decide))
  have C2 := fun wx b (h : IntRow wx (some ⟨b, 0, none⟩) 1 [r]) => Lib.hid (checkRange_any (c := 1) (lo := 1) (hi := 1000) wx h (by decide))
  have CL := Lib.hid (fun (he : lonE b x p r = 0) B0 B1 B2 B3 (i : Nat) (hi : i < 2000) wx c0 c1 c2 c3 c4 c5 c6 c7 c8 => let h := lonE_ok.1 he; cloLS_any (n := 1 + (i : Int)) (B0 := B0) (B1 := B1) (B2 := B2) (B3 := B3) h.1 h.2.1 (by omega) (by omega) h.2.2.1.1 h.2.2.1.2 h.2.2.2.1 h.2.2.2.2 wx c0 c1 c2 c3 c4 c5 c6 c7 c8)
  have HE : Hid (lonE b x p r = firstE [beamE b, woodE x, rngE 1 10000 [p], rngE 1 1000 [r]]) := Lib.hid rfl
  have HOUT : Hid (∀ k e w', e = .returned (lonV (lonE b x p r) k) → (lonE b x p r = 0 → Found 2000 (lonQ b x p r) k) → Below w.heap.size w w' → LonOut b x p r w e w') := Lib.hid (fun k e w' h1 h2 h3 => ⟨k, h1, h2, h3⟩)
  have HQ : Hid (∀ i : Nat, (!bearsB b x (1 + (i : Int)) p r) = lonQ b x p r i) := Lib.hid (fun i => rfl)
  obtain ⟨PO, hPO⟩ : ∃ PO, PO = LonOut b x p r w := ⟨_, rfl⟩
  rw [← hPO] at HOUT ⊢
  clear hPO
  simp only [HQ.out] at CL
  obtain ⟨s, ww, t, en⟩ := b
  obtain ⟨lo, hi, st⟩ := x
  unfold bmV wdV at *
  simp only at CB CW CL ⊢
  generalize lonQ ⟨s, ww, t, en⟩ ⟨lo, hi, st⟩ p r = qf at *
  generalize lonE ⟨s, ww, t, en⟩ ⟨lo, hi, st⟩ p r = ee at *
  generalize beamE ⟨s, ww, t, en⟩ = e1 at *
  generalize woodE ⟨lo, hi, st⟩ = e2 at *
  generalize rngE 1 10000 [p] = e3 at *
  generalize rngE 1 1000 [r] = e4 at *
  have C3 := fun wx b (h : IntRow wx (some ⟨b, 0, none⟩) 4 [e1, e2, e3, e4]) => Lib.hid (firstError_any (c := 4) wx h (by decide))
  rw [← HE.out] at C3
  clear HE HQ
  go_enter Try.func60, Try.ntmps60
  go_wp2
  obtain ⟨w0, hw0⟩ : ∃ w0, ((((w.alloc (.cells #[.int .i64 s, .int .i64 ww, .int .i64 t, .int .i64 en] 23)).alloc (.cells #[.int .i64 lo, .int .i64 hi, .int .i64 st] 79)).alloc (.cells #[.int .i64 p] 3)).alloc (.cells #[.int .i64 r] 3)) = w0 := ⟨_, rfl⟩
  have HB0 : Hid (Below w.heap.size w w0) := Lib.hid (by rw [← hw0]; exact (((((Below.refl _ _).alloc (Nat.le_refl _) _).alloc (by simp; try omega) _).alloc (by simp; try omega) _).alloc (by simp; try omega) _))
  have HC := Lib.hid (fun wx (hb : Below w0.heap.size w0 wx) => (show wx.cell? ⟨w.heap.size, 0, none⟩ = some (.int .i64 s) ∧ wx.cell? ⟨w.heap.size, 1, none⟩ = some (.int .i64 ww) ∧ wx.cell? ⟨w.heap.size, 2, none⟩ = some (.int .i64 t) ∧ wx.cell? ⟨w.heap.size, 3, none⟩ = some (.int .i64 en) ∧ wx.cell? ⟨w.heap.size + 1, 0, none⟩ = some (.int .i64 lo) ∧ wx.cell? ⟨w.heap.size + 1, 1, none⟩ = some (.int .i64 hi) ∧ wx.cell? ⟨w.heap.size + 1, 2, none⟩ = some (.int .i64 st) ∧ wx.cell? ⟨w.heap.size + 2, 0, none⟩ = some (.int .i64 p) ∧ wx.cell? ⟨w.heap.size + 3, 0, none⟩ = some (.int .i64 r) from by
    subst hw0
    obtain ⟨k, kf⟩ := bcell hb
    exact ⟨(k _ _ (by simp; try omega)).trans (by simp [go_sem]), (k _ _ (by simp; try omega)).trans (by simp [go_sem]), (k _ _ (by simp; try omega)).trans (by simp [go_sem]), (k _ _ (by simp; try omega)).trans (by simp [go_sem]), (k _ _ (by simp; try omega)).trans (by simp [go_sem]), (k _ _ (by simp; try omega)).trans (by simp [go_sem]), (k _ _ (by simp; try omega)).trans (by simp [go_sem]), (k _ _ (by simp; try omega)).trans (by simp [go_sem]), (k _ _ (by simp; try omega)).trans (by simp [go_sem])⟩))
  rw [hw0]
  clear hw0
  refine wp_region_rk [12, 13, 14, 15, 16, 17, 18, 19, 20, 21, 22, 23, 10] [rEq (.agg #[.int .i64 s, .int .i64 ww, .int .i64 t, .int .i64 en]), rEq (.int .i64 e1), rEq (.agg #[.int .i64 lo, .int .i64 hi, .int .i64 st]), rEq (.int .i64 e2), rEq (.int .i64 p), rRow [p] 1, rEq (.int .i64 e3), rEq (.int .i64 r), rRow [r] 1, rEq (.int .i64 e4), rRow [e1, e2, e3, e4] 4, rEq (.int .i64 ee), rEq (.int .i64 ee)] (by kernel_rfl) (by kernel_rfl) (by decide) rfl ⟨?_, ?_, ?_, ?_, ?_, ?_, ?_, ?_, ?_, ?_, ?_, ?_, ?_, trivial⟩ ?_
  · intro ac wx hf hb hd -- 0
    have f4 : ac.tmps[4]?.getD undef = .pointer (some ⟨w.heap.size, 0, none⟩) := by rw [← Array.getD_eq_getD_getElem?]; exact hf.same 4 (by decide)
    obtain ⟨c0, c1, c2, c3, c4, c5, c6, c7, c8⟩ := HC.out wx hb
    exact rstep_eq (by simp [execOp, Act.eval, f4, c0, c1, c2, c3, go_sem]) rfl
  · intro ac wx hf hb hd -- 1
    have d0 : ac.tmps[12]?.getD undef = .agg #[.int .i64 s, .int .i64 ww, .int .i64 t, .int .i64 en] := by rw [← Array.getD_eq_getD_getElem?]; exact hd 0 (by decide)
    refine rstep_call (f := 24) (args := #[.agg #[.int .i64 s, .int .i64 ww, .int .i64 t, .int .i64 en]]) (by simp [Act.eval, d0, go_sem]) ?_ rfl
    exact (CB wx).out
  · intro ac wx hf hb hd -- 2
    have f5 : ac.tmps[5]?.getD undef = .pointer (some ⟨w.heap.size + 1, 0, none⟩) := by rw [← Array.getD_eq_getD_getElem?]; exact hf.same 5 (by decide)
    obtain ⟨c0, c1, c2, c3, c4, c5, c6, c7, c8⟩ := HC.out wx hb
    exact rstep_eq (by simp [execOp, Act.eval, f5, c4, c5, c6, go_sem]) rfl
  · intro ac wx hf hb hd -- 3
    have d2 : ac.tmps[14]?.getD undef = .agg #[.int .i64 lo, .int .i64 hi, .int .i64 st] := by rw [← Array.getD_eq_getD_getElem?]; exact hd 2 (by decide)
    refine rstep_call (f := 52) (args := #[.agg #[.int .i64 lo, .int .i64 hi, .int .i64 st]]) (by simp [Act.eval, d2, go_sem]) ?_ rfl
    exact (CW wx).out
  · intro ac wx hf hb hd -- 4
    have f6 : ac.tmps[6]?.getD undef = .pointer (some ⟨w.heap.size + 2, 0, none⟩) := by rw [← Array.getD_eq_getD_getElem?]; exact hf.same 6 (by decide)
    obtain ⟨c0, c1, c2, c3, c4, c5, c6, c7, c8⟩ := HC.out wx hb
    exact rstep_eq (by simp [execOp, Act.eval, f6, c7, go_sem]) rfl
  · intro ac wx hf hb hd -- 5
    have d4 : ac.tmps[16]?.getD undef = .int .i64 p := by rw [← Array.getD_eq_getD_getElem?]; exact hd 4 (by decide)
    exact rstep_row (t := 3) (zs := [p]) rfl rfl (by simp [execOp, Act.eval, d4, go_sem]) rfl
  · intro ac wx hf hb hd -- 6
    obtain ⟨b5, d5, r5⟩ : ∃ b, ac.tmps[17]?.getD undef = .slice (some ⟨b, 0, none⟩) 1 1 ∧ IntRow wx (some ⟨b, 0, none⟩) 1 [p] := by rw [← Array.getD_eq_getD_getElem?]; exact hd 5 (by decide)
    refine rstep_call (f := 96) (args := #[.int .i64 1, .int .i64 10000, .slice (some ⟨b5, 0, none⟩) 1 1]) (by simp [Act.eval, d5, go_sem]) ?_ rfl
    exact (C1 wx b5 r5).out.mono fun e w' ⟨he, hw⟩ => ⟨he, hw ▸ Below.refl _ _⟩
  · intro ac wx hf hb hd -- 7
    have f7 : ac.tmps[7]?.getD undef = .pointer (some ⟨w.heap.size + 3, 0, none⟩) := by rw [← Array.getD_eq_getD_getElem?]; exact hf.same 7 (by decide)
    obtain ⟨c0, c1, c2, c3, c4, c5, c6, c7, c8⟩ := HC.out wx hb
    exact rstep_eq (by simp [execOp, Act.eval, f7, c8, go_sem]) rfl
  · intro ac wx hf hb hd -- 8
    have d7 : ac.tmps[19]?.getD undef = .int .i64 r := by rw [← Array.getD_eq_getD_getElem?]; exact hd 7 (by decide)
    exact rstep_row (t := 3) (zs := [r]) rfl rfl (by simp [execOp, Act.eval, d7, go_sem]) rfl
  · intro ac wx hf hb hd -- 9
    obtain ⟨b8, d8, r8⟩ : ∃ b, ac.tmps[20]?.getD undef = .slice (some ⟨b, 0, none⟩) 1 1 ∧ IntRow wx (some ⟨b, 0, none⟩) 1 [r] := by rw [← Array.getD_eq_getD_getElem?]; exact hd 8 (by decide)
    refine rstep_call (f := 96) (args := #[.int .i64 1, .int .i64 1000, .slice (some ⟨b8, 0, none⟩) 1 1]) (by simp [Act.eval, d8, go_sem]) ?_ rfl
    exact (C2 wx b8 r8).out.mono fun e w' ⟨he, hw⟩ => ⟨he, hw ▸ Below.refl _ _⟩
  · intro ac wx hf hb hd -- 10
    have d1 : ac.tmps[13]?.getD undef = .int .i64 e1 := by rw [← Array.getD_eq_getD_getElem?]; exact hd 1 (by decide)
    have d3 : ac.tmps[15]?.getD undef = .int .i64 e2 := by rw [← Array.getD_eq_getD_getElem?]; exact hd 3 (by decide)
    have d6 : ac.tmps[18]?.getD undef = .int .i64 e3 := by rw [← Array.getD_eq_getD_getElem?]; exact hd 6 (by decide)
    have d9 : ac.tmps[21]?.getD undef = .int .i64 e4 := by rw [← Array.getD_eq_getD_getElem?]; exact hd 9 (by decide)
    exact rstep_row (t := 31) (zs := [e1, e2, e3, e4]) rfl rfl (by simp [execOp, Act.eval, d1, d3, d6, d9, go_sem]) rfl
  · intro ac wx hf hb hd -- 11
    obtain ⟨b10, d10, r10⟩ : ∃ b, ac.tmps[22]?.getD undef = .slice (some ⟨b, 0, none⟩) 4 4 ∧ IntRow wx (some ⟨b, 0, none⟩) 4 [e1, e2, e3, e4] := by rw [← Array.getD_eq_getD_getElem?]; exact hd 10 (by decide)
    refine rstep_call (f := 95) (args := #[.slice (some ⟨b10, 0, none⟩) 4 4]) (by simp [Act.eval, d10, go_sem]) ?_ rfl
    exact (C3 wx b10 r10).out.mono fun e w' ⟨he, hw⟩ => ⟨he, hw ▸ Below.refl _ _⟩
  · intro ac wx hf hb hd -- 12
    have d11 : ac.tmps[23]?.getD undef = .int .i64 ee := by rw [← Array.getD_eq_getD_getElem?]; exact hd 11 (by decide)
    exact rstep_eq (by simp [execOp, Act.eval, d11, go_sem]) rfl
  rintro ⟨⟨ll⟩, df⟩ wx hf hb hall
  have hdf : df = [] := hf.defers
  subst hdf
  have hsz : ll.length = 33 := hf.size
  obtain ⟨x0, ll0, rfl, hsz0⟩ := cons_of hsz
  obtain ⟨x1, ll1, rfl, hsz1⟩ := cons_of hsz0
  obtain ⟨x2, ll2, rfl, hsz2⟩ := cons_of hsz1
  obtain ⟨x3, ll3, rfl, hsz3⟩ := cons_of hsz2
  obtain ⟨x4, ll4, rfl, hsz4⟩ := cons_of hsz3
  obtain ⟨x5, ll5, rfl, hsz5⟩ := cons_of hsz4
  obtain ⟨x6, ll6, rfl, hsz6⟩ := cons_of hsz5
  obtain ⟨x7, ll7, rfl, hsz7⟩ := cons_of hsz6
  obtain ⟨x8, ll8, rfl, hsz8⟩ := cons_of hsz7
  obtain ⟨x9, ll9, rfl, hsz9⟩ := cons_of hsz8
  obtain ⟨x10, ll10, rfl, hsz10⟩ := cons_of hsz9
  obtain ⟨x11, ll11, rfl, hsz11⟩ := cons_of hsz10
  obtain ⟨x12, ll12, rfl, hsz12⟩ := cons_of hsz11
  obtain ⟨x13, ll13, rfl, hsz13⟩ := cons_of hsz12
  obtain ⟨x14, ll14, rfl, hsz14⟩ := cons_of hsz13
  obtain ⟨x15, ll15, rfl, hsz15⟩ := cons_of hsz14
  obtain ⟨x16, ll16, rfl, hsz16⟩ := cons_of hsz15
  obtain ⟨x17, ll17, rfl, hsz17⟩ := cons_of hsz16
  obtain ⟨x18, ll18, rfl, hsz18⟩ := cons_of hsz17
  obtain ⟨x19, ll19, rfl, hsz19⟩ := cons_of hsz18
  obtain ⟨x20, ll20, rfl, hsz20⟩ := cons_of hsz19
  obtain ⟨x21, ll21, rfl, hsz21⟩ := cons_of hsz20
  obtain ⟨x22, ll22, rfl, hsz22⟩ := cons_of hsz21
  obtain ⟨x23, ll23, rfl, hsz23⟩ := cons_of hsz22
  obtain ⟨x24, ll24, rfl, hsz24⟩ := cons_of hsz23
  obtain ⟨x25, ll25, rfl, hsz25⟩ := cons_of hsz24
  obtain ⟨x26, ll26, rfl, hsz26⟩ := cons_of hsz25
  obtain ⟨x27, ll27, rfl, hsz27⟩ := cons_of hsz26
  obtain ⟨x28, ll28, rfl, hsz28⟩ := cons_of hsz27
  obtain ⟨x29, ll29, rfl, hsz29⟩ := cons_of hsz28
  obtain ⟨x30, ll30, rfl, hsz30⟩ := cons_of hsz29
  obtain ⟨x31, ll31, rfl, hsz31⟩ := cons_of hsz30
  obtain ⟨x32, ll32, rfl, hsz32⟩ := cons_of hsz31
  obtain rfl := List.eq_nil_of_length_eq_zero hsz32
  obtain rfl : x4 = .pointer (some ⟨w.heap.size, 0, none⟩) := hf.same 4 (by decide)
  obtain rfl : x5 = .pointer (some ⟨w.heap.size + 1, 0, none⟩) := hf.same 5 (by decide)
  obtain rfl : x6 = .pointer (some ⟨w.heap.size + 2, 0, none⟩) := hf.same 6 (by decide)
  obtain rfl : x7 = .pointer (some ⟨w.heap.size + 3, 0, none⟩) := hf.same 7 (by decide)
  obtain rfl : x10 = .int .i64 ee := hall 12 10 rfl
  obtain rfl : x12 = .agg #[.int .i64 s, .int .i64 ww, .int .i64 t, .int .i64 en] := hall 0 12 rfl
  obtain rfl : x13 = .int .i64 e1 := hall 1 13 rfl
  obtain rfl : x14 = .agg #[.int .i64 lo, .int .i64 hi, .int .i64 st] := hall 2 14 rfl
  obtain rfl : x15 = .int .i64 e2 := hall 3 15 rfl
  obtain rfl : x16 = .int .i64 p := hall 4 16 rfl
  obtain rfl : x18 = .int .i64 e3 := hall 6 18 rfl
  obtain rfl : x19 = .int .i64 r := hall 7 19 rfl
  obtain rfl : x21 = .int .i64 e4 := hall 9 21 rfl
  obtain rfl : x23 = .int .i64 ee := hall 11 23 rfl
  clear hall hf
  obtain ⟨c0, c1, c2, c3, c4, c5, c6, c7, c8⟩ := HC.out wx hb
  have HBX := Lib.hid (HB0.out.trans (hb.mono HB0.out.size))
  by_cases he : ee = 0
  · subst he
    have LS := Lib.hid (leastLS_any (p0 := ⟨w.heap.size, 0, none⟩) (p1 := ⟨w.heap.size + 1, 0, none⟩) (p2 := ⟨w.heap.size + 2, 0, none⟩) (p3 := ⟨w.heap.size + 3, 0, none⟩) (q := qf) wx (fun wy i hi hy => CL.out rfl _ _ _ _ i hi wy (((bcell hy).1 _ _ (World.block_lt_of_cell? wx _ c0)).trans c0) (((bcell hy).1 _ _ (World.block_lt_of_cell? wx _ c1)).trans c1) (((bcell hy).1 _ _ (World.block_lt_of_cell? wx _ c2)).trans c2) (((bcell hy).1 _ _ (World.block_lt_of_cell? wx _ c3)).trans c3) (((bcell hy).1 _ _ (World.block_lt_of_cell? wx _ c4)).trans c4) (((bcell hy).1 _ _ (World.block_lt_of_cell? wx _ c5)).trans c5) (((bcell hy).1 _ _ (World.block_lt_of_cell? wx _ c6)).trans c6) (((bcell hy).1 _ _ (World.block_lt_of_cell? wx _ c7)).trans c7) (((bcell hy).1 _ _ (World.block_lt_of_cell? wx _ c8)).trans c8)))
    clear CL
    go_wp2_with (go_at_call 119; (refine Calls.mono LS.out ?_); rintro e w2 ⟨k, rfl, hk, hb2⟩; have HK := Lib.hid hk; have hk2 := hk.1; have HB2 := Lib.hid (HBX.out.trans (hb2.mono HBX.out.size)); clear hk hb2)
    · rename_i hk0
      obtain rfl : k = 0 := by simp at hk0; omega
      exact HOUT.out 0 _ _ rfl (fun _ => HK.out) HB2.out
    · rename_i hk0
      have hk1 : (k == 0) = false := by
        simp at hk0 ⊢
        omega
      have hv : Value.tuple #[.int .i64 (1 + (k : Int) - 1), .int .i64 0] = lonV 0 k := by
        rw [show 1 + (k : Int) - 1 = k from by omega]
        unfold lonV
        rw [hk1]
        rfl
      exact HOUT.out k _ _ (ret_v hv) (fun _ => HK.out) HB2.out
  · have e1' : (ee == 0) = false := by simpa using he
    have e2' : (ee != 0) = true := by simpa using he
    go_wp2
    exact HOUT.out 0 _ _ (ret_v (show Value.tuple #[.int .i64 0, .int .i64 ee] = lonV ee 0 from by unfold lonV; rw [e1']; rfl)) (fun h => absurd h he) HBX.out
end Go.Proofs.Ytablphoicidlkaa
