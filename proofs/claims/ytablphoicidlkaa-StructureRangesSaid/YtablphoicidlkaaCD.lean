/- The reference of beams: moments. -/
import Derived.Test.YtablphoicidlkaaCC
namespace Go.Proofs.Ytablphoicidlkaa
open Go.RowKit

set_option maxHeartbeats 8000000 in
set_option maxRecDepth 20000 in
theorem rmoment_any {b : Bm} {A : Option Addr} {n c : Nat} {S x : Int} {l : List Pt} (hb : BmOk b) (hl : WtOk b.s l S) (x0 : 0 ≤ x) (x1 : x ≤ b.s) (w : World) (h : PtRow w A n l) :
    Calls Try.prog 101 #[bmV b, buV A n c S, .int .i64 x] w fun e w' => e = .returned (.int .i64 (mom b l S x)) ∧ Below w.heap.size w w' := by
  have HR := Lib.hid h
  have hle : l.length ≤ n := by have := h.1; omega
  have hge : n ≤ l.length := by have := h.1; omega
  have hn8 : n ≤ 8 := by have := hl.len; omega
  have HWT := Lib.hid hl
  have hS0 := hl.S0; have hS1 := hl.S1; have hs0 := hb.s0; have hs1 := hb.s1
  have TW := Lib.hid (fun wx (hx : Below w.heap.size w wx) => rtwice_any (c := c) hb hl wx (h.below hx))
  have HBD := Lib.hid (cutM_bd x0 x1 hb hl)
  obtain ⟨k1, -, k3⟩ := fr_take_bd hb hl l.length
  rw [List.take_length] at k1 k3
  have k2 := mom_bd9 hb hl x0 x1
  have hq := twM_eq b l S
  have hmb : (twM b l S).natAbs ≤ 1000000000000 := by
    have e := congrArg Int.natAbs hq
    rw [Int.natAbs_mul] at e
    have h1 : 1 ≤ b.s.natAbs := by omega
    have h2 := Nat.mul_le_mul_left (twM b l S).natAbs h1
    omega
  have HT : Hid (frM b l S + frR b l S * x - S * x * x + sumL (cutM b x) (l.take n) = mom b l S x) := Lib.hid (by rw [List.take_of_length_le hle]; unfold mom; grind)
  have HCT : Hid (∀ p : Pt, cutM b x p = bif decide (p.a ≤ x) then -(2 * b.s * p.n * (x - p.a)) else 0) := Lib.hid (fun p => by unfold cutM; cases decide (p.a ≤ x); rfl; show -2 * b.s * p.n * (x - p.a) = _; grind)
  clear h hl hb
  obtain ⟨s, ww, t, en⟩ := b
  unfold bmV buV at *
  simp only at *
  generalize frR ⟨s, ww, t, en⟩ l S = rr at *
  generalize frM ⟨s, ww, t, en⟩ l S = fm at *
  generalize twM ⟨s, ww, t, en⟩ l S = mm at *
  generalize cutM ⟨s, ww, t, en⟩ x = cut at *
  obtain ⟨nu, hnu⟩ : ∃ v, mom ⟨s, ww, t, en⟩ l S x = v := ⟨_, rfl⟩
  rw [hnu] at HT k2
  have HNU := Lib.hid hnu
  clear hnu
  have E1 : Ev s s 2000 := .of (by omega)
  have E2 : Ev x x 2000 := .of (by omega)
  have E3 : Ev S S 20000 := .of (by omega)
  have E4 : Ev rr rr 1000000000000 := .of (by omega)
  have E5 : Ev mm mm 1000000000000 := .of (by omega)
  have E6 : Ev fm fm 1000000000000 := .of (by omega)
  have p1 : wrap64 (mm * s) = fm := by rw [hq]; exact w64 (by omega)
  have p2 : wrap64 (rr * x) = rr * x := by (apply Ev.e; repeat' (first | with_reducible assumption | with_reducible apply Ev.wrap | with_reducible apply Ev.mul | with_reducible apply Ev.add | with_reducible apply Ev.sub | with_reducible apply Ev.neg | exact Ev.lit _ | (decide +kernel)))
  have p3 : wrap64 (fm + rr * x) = fm + rr * x := by (apply Ev.e; repeat' (first | with_reducible assumption | with_reducible apply Ev.wrap | with_reducible apply Ev.mul | with_reducible apply Ev.add | with_reducible apply Ev.sub | with_reducible apply Ev.neg | exact Ev.lit _ | (decide +kernel)))
  have p4 : wrap64 (S * x) = S * x := by (apply Ev.e; repeat' (first | with_reducible assumption | with_reducible apply Ev.wrap | with_reducible apply Ev.mul | with_reducible apply Ev.add | with_reducible apply Ev.sub | with_reducible apply Ev.neg | exact Ev.lit _ | (decide +kernel)))
  have p5 : wrap64 (S * x * x) = S * x * x := by (apply Ev.e; repeat' (first | with_reducible assumption | with_reducible apply Ev.wrap | with_reducible apply Ev.mul | with_reducible apply Ev.add | with_reducible apply Ev.sub | with_reducible apply Ev.neg | exact Ev.lit _ | (decide +kernel)))
  have p6 : wrap64 (fm + rr * x - S * x * x) = fm + rr * x - S * x * x := by (apply Ev.e; repeat' (first | with_reducible assumption | with_reducible apply Ev.wrap | with_reducible apply Ev.mul | with_reducible apply Ev.add | with_reducible apply Ev.sub | with_reducible apply Ev.neg | exact Ev.lit _ | (decide +kernel)))
  have z0 := ev_bd (M := 2000000000000000) (Ev.mul E4 E2) (by decide +kernel)
  have z1 := ev_bd (M := 80000000000) (Ev.mul (Ev.mul E3 E2) E2) (by decide +kernel)
  have HM0 : Hid ((fm + rr * x - S * x * x).natAbs ≤ 4000000000000000) := Lib.hid (by omega)
  clear z0 z1 E3 E4 E5 E6 hq hmb
  go_enter Try.func101, Try.ntmps101
  go_upto_region 1 with fail
  obtain ⟨w0, hw0⟩ : ∃ w0, ((w.alloc (.cells #[.int .i64 s, .int .i64 ww, .int .i64 t, .int .i64 en] 23)).alloc (.cells #[.slice A n c, .int .i64 S] 26)) = w0 := ⟨_, rfl⟩
  have HB0 : Hid (Below w.heap.size w w0) := Lib.hid (by rw [← hw0]; exact (((Below.refl _ _).alloc (Nat.le_refl _) _).alloc (by simp; try omega) _))
  have HC := Lib.hid (fun wx (hb : Below w0.heap.size w0 wx) => (show wx.cell? ⟨w.heap.size, 0, none⟩ = some (.int .i64 s) ∧ wx.cell? ⟨w.heap.size, 1, none⟩ = some (.int .i64 ww) ∧ wx.cell? ⟨w.heap.size, 2, none⟩ = some (.int .i64 t) ∧ wx.cell? ⟨w.heap.size, 3, none⟩ = some (.int .i64 en) ∧ wx.cell? ⟨w.heap.size + 1, 0, none⟩ = some (.slice A n c) ∧ wx.cell? ⟨w.heap.size + 1, 1, none⟩ = some (.int .i64 S) from by
    subst hw0
    obtain ⟨k, kf⟩ := bcell hb
    exact ⟨(k _ _ (by simp; try omega)).trans (by simp [go_sem]), (k _ _ (by simp; try omega)).trans (by simp [go_sem]), (k _ _ (by simp; try omega)).trans (by simp [go_sem]), (k _ _ (by simp; try omega)).trans (by simp [go_sem]), (k _ _ (by simp; try omega)).trans (by simp [go_sem]), (k _ _ (by simp; try omega)).trans (by simp [go_sem])⟩))
  rw [hw0]
  clear hw0
  have HZ0 := Lib.hid (Below.refl w0.heap.size w0)
  obtain ⟨c0, c1, c2, c3, c4, c5⟩ := HC.out w0 HZ0.out
  go_upto_region 2 with (go_at_call 98; (refine Calls.mono (TW.out _ HB0.out) ?_); rintro e w1 ⟨rfl, hb1⟩; have HW1 := Lib.hid hb1; obtain ⟨e0, e1, e2, e3, e4, e5⟩ := HC.out w1 hb1; clear hb1)
  clear c0 c1 c2 c3 c4 c5
  go_wp2
  have P6 := Lib.hid p6
  clear e0 e1 e2 e3 e4 e5 p1 p2 p3 p4 p5 p6
  obtain ⟨m0, hm0⟩ : ∃ v, fm + rr * x - S * x * x = v := ⟨_, rfl⟩
  have HMZ := Lib.hid hm0
  rw [hm0] at HM0 HT
  go_loopw [9, 10] (fun v i wr => ∃ k : Nat, k ≤ n ∧ i = .int .i64 k ∧ v = .int .i64 (m0 + sumL cut (l.take k)) ∧ Below w0.heap.size w0 wr) (fun _ i _ => n - (intOf i).toNat)
  case atStart => exact ⟨0, Nat.zero_le _, rfl, by rw [← HMZ.out]; simp [sumL]; exact P6.out, HW1.out⟩
  case round =>
    clear hm0
    obtain ⟨k, hk, rfl, rfl, hbw⟩ := hrel
    have HB := Lib.hid hbw
    have HBW := Lib.hid (HB0.out.trans (hbw.mono HB0.out.size))
    obtain ⟨d0, d1, d2, d3, d4, d5⟩ := HC.out wr hbw
    have g1 := HBD.out k
    have g0 := HM0.out
    clear hbw
    have hl3 : w.heap.size < wr.heap.size := World.block_lt_of_cell? wr _ d0
    have hl4 : w.heap.size + 1 < wr.heap.size := World.block_lt_of_cell? wr _ d4
    by_cases hlt : k < n
    · have hkl : k < l.length := by omega
      obtain ⟨blk, off, rfl, hblk, hx⟩ := HR.out.2 (by omega)
      obtain ⟨hp0, hp1⟩ := (hx k hkl).below HBW.out hblk
      have hpo := HWT.out.pt l[k] (List.getElem_mem hkl)
      have HS := Lib.hid (sumL_take_succ cut l hkl)
      obtain ⟨p, hpe⟩ : ∃ x, l[k] = x := ⟨_, rfl⟩
      rw [hpe] at hp0 hp1 hpo HS
      clear hx hpe
      obtain ⟨a, v⟩ := p
      obtain ⟨a0, a1, n0, n1⟩ := hpo
      simp only at hp0 hp1 a0 a1 n0 n1
      have HCU := Lib.hid (HCT.out ⟨a, v⟩)
      generalize sumL cut (l.take k) = sk at *
      by_cases hax : a ≤ x
      · have hd : decide (a ≤ x) = true := decide_eq_true hax
        have HCUT : Hid (cut ⟨a, v⟩ = -(2 * s * v * (x - a))) := Lib.hid (by rw [HCU.out]; simp only [hd, cond_true])
        have E5 : Ev v v 2000 := .of (by omega)
        have E6 : Ev a a 2000 := .of (by omega)
        have E7 : Ev sk sk 800000000000 := .of (by omega)
        have E8 : Ev m0 m0 4000000000000000 := .of (by omega)
        have q1 : wrap64 (2 * s) = 2 * s := by (apply Ev.e; repeat' (first | with_reducible assumption | with_reducible apply Ev.wrap | with_reducible apply Ev.mul | with_reducible apply Ev.add | with_reducible apply Ev.sub | with_reducible apply Ev.neg | exact Ev.lit _ | (decide +kernel)))
        have q2 : wrap64 (2 * s * v) = 2 * s * v := by (apply Ev.e; repeat' (first | with_reducible assumption | with_reducible apply Ev.wrap | with_reducible apply Ev.mul | with_reducible apply Ev.add | with_reducible apply Ev.sub | with_reducible apply Ev.neg | exact Ev.lit _ | (decide +kernel)))
        have q4 : wrap64 (x - a) = x - a := by (apply Ev.e; repeat' (first | with_reducible assumption | with_reducible apply Ev.wrap | with_reducible apply Ev.mul | with_reducible apply Ev.add | with_reducible apply Ev.sub | with_reducible apply Ev.neg | exact Ev.lit _ | (decide +kernel)))
        have q5 : wrap64 (2 * s * v * (x - a)) = 2 * s * v * (x - a) := by (apply Ev.e; repeat' (first | with_reducible assumption | with_reducible apply Ev.wrap | with_reducible apply Ev.mul | with_reducible apply Ev.add | with_reducible apply Ev.sub | with_reducible apply Ev.neg | exact Ev.lit _ | (decide +kernel)))
        have q3 : wrap64 (m0 + sk - 2 * s * v * (x - a)) = m0 + sk - 2 * s * v * (x - a) := by (apply Ev.e; repeat' (first | with_reducible assumption | with_reducible apply Ev.wrap | with_reducible apply Ev.mul | with_reducible apply Ev.add | with_reducible apply Ev.sub | with_reducible apply Ev.neg | exact Ev.lit _ | (decide +kernel)))
        clear E1 E2 E5 E6 E7 E8
        go_wp2
        go_quiet (fail)
        go_wp2
        go_roundw
        case rel => exact ⟨k + 1, by omega, by go_num, by rw [HS.out, HCUT.out]; exact congrArg (Value.int .i64) (by first | omega | (rw [q3]; omega)), below_drewN HB.out _⟩
        case measure => simp [intOf]; omega
      · have hd : decide (a ≤ x) = false := decide_eq_false hax
        have HCUT : Hid (cut ⟨a, v⟩ = 0) := Lib.hid (by rw [HCU.out]; simp only [hd, cond_false])
        clear E1 E2
        go_wp2
        go_roundw
        case rel => exact ⟨k + 1, by omega, by go_num, by rw [HS.out, HCUT.out]; exact congrArg (Value.int .i64) (by omega), HB.out⟩
        case measure => simp [intOf]; omega
    · obtain rfl : k = n := by omega
      go_wp2
      go_ret
      exact ⟨ret_int (by rw [HNU.out, ← HT.out]), HBW.out⟩
set_option maxHeartbeats 4000000 in
set_option maxRecDepth 20000 in
theorem rMoment_any {b : Bm} {A : Option Addr} {n c : Nat} {S x : Int} {l : List Pt} (hb : BmOk b) (hl : WtOk b.s l S) (x0 : 0 ≤ x) (x1 : x ≤ b.s) (w : World) (h : PtRow w A n l) :
    Calls Try.prog 34 #[bmV b, buV A n c S, .int .i64 x] w fun e w' => e = .returned (frV (mom b l S x) (2 * b.s)) ∧ Below w.heap.size w w' := by
  have MO := Lib.hid (fun wx (hx : Below w.heap.size w wx) => rmoment_any (c := c) hb hl x0 x1 wx (h.below hx))
  have k2 := mom_bd9 hb hl x0 x1
  have hs0 := hb.s0; have hs1 := hb.s1
  have LO := Lib.hid (fun wx => lowest_any (n := mom b l S x) (d := 2 * b.s) (by omega) (by omega) (by omega) wx)
  obtain ⟨s, ww, t, en⟩ := b
  unfold bmV buV at *
  simp only at MO LO hs0 hs1 ⊢
  clear h hb hl x0 x1 k2
  generalize mom ⟨s, ww, t, en⟩ l S x = nu at *
  have q0 : IntKind.i64.wrap (2 * s) = 2 * s := i64w (w64 (by omega))
  clear hs0 hs1
  unfold frV at *
  generalize lowN nu (2 * s) = nn at *
  generalize lowD nu (2 * s) = de at *
  go_enter Try.func34, Try.ntmps34
  go_wp2
  obtain ⟨w0, hw0⟩ : ∃ w0, (((w.alloc (.cells #[.int .i64 s, .int .i64 ww, .int .i64 t, .int .i64 en] 23)).alloc (.cells #[.slice A n c, .int .i64 S] 26)).alloc (.cells #[.int .i64 0, .int .i64 0] 30)) = w0 := ⟨_, rfl⟩
  have HB0 : Hid (Below w.heap.size w w0) := Lib.hid (by rw [← hw0]; exact ((((Below.refl _ _).alloc (Nat.le_refl _) _).alloc (by simp; try omega) _).alloc (by simp; try omega) _))
  have HC := Lib.hid (fun wx (hb : Below w0.heap.size w0 wx) => (show wx.cell? ⟨w.heap.size, 0, none⟩ = some (.int .i64 s) ∧ wx.cell? ⟨w.heap.size, 1, none⟩ = some (.int .i64 ww) ∧ wx.cell? ⟨w.heap.size, 2, none⟩ = some (.int .i64 t) ∧ wx.cell? ⟨w.heap.size, 3, none⟩ = some (.int .i64 en) ∧ wx.cell? ⟨w.heap.size + 1, 0, none⟩ = some (.slice A n c) ∧ wx.cell? ⟨w.heap.size + 1, 1, none⟩ = some (.int .i64 S) ∧ wx.cell? ⟨w.heap.size + 2, 0, none⟩ = some (.int .i64 0) ∧ wx.cell? ⟨w.heap.size + 2, 1, none⟩ = some (.int .i64 0) ∧ wx.frozen? ⟨w.heap.size + 2, 0, none⟩ = false ∧ wx.frozen? ⟨w.heap.size + 2, 1, none⟩ = false from by
    subst hw0
    obtain ⟨k, kf⟩ := bcell hb
    exact ⟨(k _ _ (by simp; try omega)).trans (by simp [go_sem]), (k _ _ (by simp; try omega)).trans (by simp [go_sem]), (k _ _ (by simp; try omega)).trans (by simp [go_sem]), (k _ _ (by simp; try omega)).trans (by simp [go_sem]), (k _ _ (by simp; try omega)).trans (by simp [go_sem]), (k _ _ (by simp; try omega)).trans (by simp [go_sem]), (k _ _ (by simp; try omega)).trans (by simp [go_sem]), (k _ _ (by simp; try omega)).trans (by simp [go_sem]), (kf _ _ (by simp; try omega)).trans (by simp [go_sem]), (kf _ _ (by simp; try omega)).trans (by simp [go_sem])⟩))
  rw [hw0]
  clear hw0
  refine wp_region_rkt [7, 8, 9, 10, 11, 12, 13, 14] [rEq (.agg #[.int .i64 s, .int .i64 ww, .int .i64 t, .int .i64 en]), rEq (.agg #[.slice A n c, .int .i64 S]), rEq (.int .i64 x), rEq (.int .i64 nu), rEq (.pointer (some ⟨w.heap.size, 0, none⟩)), rEq (.int .i64 s), rEq (.int .i64 (2 * s)), rEq (.agg #[.int .i64 nn, .int .i64 de])] (by kernel_rfl) (by kernel_rfl) (by decide) rfl ⟨?_, ?_, ?_, ?_, ?_, ?_, ?_, ?_, trivial⟩ ?_
  · intro ac wx hf hb hd -- 0
    have f3 : ac.tmps[3]?.getD undef = .pointer (some ⟨w.heap.size, 0, none⟩) := by rw [← Array.getD_eq_getD_getElem?]; exact hf.same 3 (by decide)
    obtain ⟨c0, c1, c2, c3, c4, c5, c6, c7, z2_0, z2_1⟩ := HC.out wx hb
    exact rstep_eq (by simp [execOp, Act.eval, f3, c0, c1, c2, c3, go_sem]) rfl
  · intro ac wx hf hb hd -- 1
    have f4 : ac.tmps[4]?.getD undef = .pointer (some ⟨w.heap.size + 1, 0, none⟩) := by rw [← Array.getD_eq_getD_getElem?]; exact hf.same 4 (by decide)
    obtain ⟨c0, c1, c2, c3, c4, c5, c6, c7, z2_0, z2_1⟩ := HC.out wx hb
    exact rstep_eq (by simp [execOp, Act.eval, f4, c4, c5, go_sem]) rfl
  · intro ac wx hf hb hd -- 2
    have f2 : ac.tmps[2]?.getD undef = .int .i64 x := by rw [← Array.getD_eq_getD_getElem?]; exact hf.same 2 (by decide)
    exact rstep_eq (by simp [execOp, Act.eval, f2, go_sem]) rfl
  · intro ac wx hf hb hd -- 3
    have d0 : ac.tmps[7]?.getD undef = .agg #[.int .i64 s, .int .i64 ww, .int .i64 t, .int .i64 en] := by rw [← Array.getD_eq_getD_getElem?]; exact hd 0 (by decide)
    have d1 : ac.tmps[8]?.getD undef = .agg #[.slice A n c, .int .i64 S] := by rw [← Array.getD_eq_getD_getElem?]; exact hd 1 (by decide)
    have d2 : ac.tmps[9]?.getD undef = .int .i64 x := by rw [← Array.getD_eq_getD_getElem?]; exact hd 2 (by decide)
    refine rstep_call (f := 101) (args := #[.agg #[.int .i64 s, .int .i64 ww, .int .i64 t, .int .i64 en], .agg #[.slice A n c, .int .i64 S], .int .i64 x]) (by simp [Act.eval, d0, d1, d2, go_sem]) ?_ rfl
    exact MO.out wx (HB0.out.trans (hb.mono HB0.out.size))
  · intro ac wx hf hb hd -- 4
    have f3 : ac.tmps[3]?.getD undef = .pointer (some ⟨w.heap.size, 0, none⟩) := by rw [← Array.getD_eq_getD_getElem?]; exact hf.same 3 (by decide)
    exact rstep_eq (by simp [execOp, Act.eval, f3, go_sem]) rfl
  · intro ac wx hf hb hd -- 5
    have d4 : ac.tmps[11]?.getD undef = .pointer (some ⟨w.heap.size, 0, none⟩) := by rw [← Array.getD_eq_getD_getElem?]; exact hd 4 (by decide)
    obtain ⟨c0, c1, c2, c3, c4, c5, c6, c7, z2_0, z2_1⟩ := HC.out wx hb
    exact rstep_eq (by simp [execOp, Act.eval, d4, c0, go_sem]) rfl
  · intro ac wx hf hb hd -- 6
    have d5 : ac.tmps[12]?.getD undef = .int .i64 s := by rw [← Array.getD_eq_getD_getElem?]; exact hd 5 (by decide)
    exact rstep_eq (by simp [execOp, Act.eval, d5, q0, go_sem]) rfl
  · intro ac wx hf hb hd -- 7
    have d3 : ac.tmps[10]?.getD undef = .int .i64 nu := by rw [← Array.getD_eq_getD_getElem?]; exact hd 3 (by decide)
    have d6 : ac.tmps[13]?.getD undef = .int .i64 (2 * s) := by rw [← Array.getD_eq_getD_getElem?]; exact hd 6 (by decide)
    refine rstep_call (f := 89) (args := #[.int .i64 nu, .int .i64 (2 * s)]) (by simp [Act.eval, d3, d6, go_sem]) ?_ rfl
    exact (LO.out wx)
  rintro ⟨⟨ll⟩, df⟩ wx hf hb hall
  have hdf : df = [] := hf.defers
  subst hdf
  have hsz : ll.length = 15 := hf.size
  obtain ⟨x0, ll0, rfl, hsz0⟩ := cons_of hsz
  obtain ⟨x1, ll1, rfl, hsz1⟩ := cons_of hsz0
  obtain ⟨x2, ll2, rfl, hsz2⟩ := cons_of hsz1
  obtain ⟨x3, ll3, rfl, hsz3⟩ := cons_of hsz2
  obtain ⟨x4, ll4, rfl, hsz4⟩ := cons_of hsz3
  obtain ⟨x5, ll5, rfl, hsz5⟩ := cons_of hsz4
  obtain ⟨x6, ll6, rfl, hsz6⟩ := cons_of hsz5
  obtain ⟨x7, ll7, rfl, hsz7⟩ := cons_of hsz6
  obtain ⟨x8, ll8, rfl, hsz8⟩ := cons_of hsz7
  obtain ⟨x9, ll9, rfl, hsz9⟩ := cons_of hsz8
  obtain ⟨x10, ll10, rfl, hsz10⟩ := cons_of hsz9
  obtain ⟨x11, ll11, rfl, hsz11⟩ := cons_of hsz10
  obtain ⟨x12, ll12, rfl, hsz12⟩ := cons_of hsz11
  obtain ⟨x13, ll13, rfl, hsz13⟩ := cons_of hsz12
  obtain ⟨x14, ll14, rfl, hsz14⟩ := cons_of hsz13
  obtain rfl := List.eq_nil_of_length_eq_zero hsz14
  obtain rfl : x2 = .int .i64 x := hf.same 2 (by decide)
  obtain rfl : x3 = .pointer (some ⟨w.heap.size, 0, none⟩) := hf.same 3 (by decide)
  obtain rfl : x4 = .pointer (some ⟨w.heap.size + 1, 0, none⟩) := hf.same 4 (by decide)
  obtain rfl : x6 = .pointer (some ⟨w.heap.size + 2, 0, none⟩) := hf.same 6 (by decide)
  obtain rfl : x7 = .agg #[.int .i64 s, .int .i64 ww, .int .i64 t, .int .i64 en] := hall 0 7 rfl
  obtain rfl : x8 = .agg #[.slice A n c, .int .i64 S] := hall 1 8 rfl
  obtain rfl : x9 = .int .i64 x := hall 2 9 rfl
  obtain rfl : x10 = .int .i64 nu := hall 3 10 rfl
  obtain rfl : x11 = .pointer (some ⟨w.heap.size, 0, none⟩) := hall 4 11 rfl
  obtain rfl : x12 = .int .i64 s := hall 5 12 rfl
  obtain rfl : x13 = .int .i64 (2 * s) := hall 6 13 rfl
  obtain rfl : x14 = .agg #[.int .i64 nn, .int .i64 de] := hall 7 14 rfl
  clear hall hf
  intro o ho
  have ho2 : _ = o := Option.some.inj ho
  subst ho2
  clear ho
  obtain ⟨c0, c1, c2, c3, c4, c5, c6, c7, z2_0, z2_1⟩ := HC.out wx hb
  simp [Oper.wp, Oper.upon, execOp, Act.eval, go_sem, c6, c7, z2_0, z2_1]
  go_wp2
  refine bodyPost_ret (v := .agg #[.int .i64 nn, .int .i64 de]) (by simp [results, Try.results34, go_sem, c6, c7]) rfl ⟨rfl, ?_⟩
  exact ((HB0.out.trans (hb.mono HB0.out.size)).setCell (p := ⟨w.heap.size + 2, 0, none⟩) (by simp) _).setCell (p := ⟨w.heap.size + 2, 1, none⟩) (by simp) _
end Go.Proofs.Ytablphoicidlkaa
