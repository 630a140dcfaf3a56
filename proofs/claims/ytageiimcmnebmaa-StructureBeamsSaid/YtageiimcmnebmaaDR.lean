/- The reference of beams: weights, reactions. -/
import Derived.Test.YtageiimcmnebmaaCB
import Derived.Test.YtageiimcmnebmaaSN
import Derived.Test.YtageiimcmnebmaaRL
import Derived.BigQuiet
namespace Go.Proofs.Ytageiimcmnebmaa
open Go.RowKit

def wgt (p : Pt) : Int := p.n
theorem wgt_bd {s : Int} {l : List Pt} {S : Int} (h : WtOk s l S) (k : Nat) : (sumL wgt (l.take k)).natAbs ≤ 16000 :=
  sumL_bd8 (f := wgt) (B := 2000) (Nat.le_trans (List.length_take_le' ..) h.len) (fun p hp => by
    have hq := h.pt p (List.mem_of_mem_take hp)
    unfold wgt
    have := hq.n0; have := hq.n1
    omega)
set_option maxHeartbeats 8000000 in
set_option maxRecDepth 20000 in
theorem rweight_any {s : Int} {A : Option Addr} {n c : Nat} {S : Int} {l : List Pt} (hl : WtOk s l S) (w : World) (h : PtRow w A n l) :
    Calls Try.prog 29 #[buV A n c S] w fun e w' => e = .returned (.int .i64 (S + sumL wgt l)) ∧ Below w.heap.size w w' := by
  have HR := Lib.hid h
  have hle : l.length ≤ n := by have := h.1; omega
  have hge : n ≤ l.length := by have := h.1; omega
  have hn8 : n ≤ 8 := by have := hl.len; omega
  have HWT := Lib.hid hl
  have HBD := Lib.hid (wgt_bd hl)
  have hS0 := hl.S0; have hS1 := hl.S1
  clear h hl
  unfold buV
  go_enter Try.func29, Try.ntmps29
  go_upto_region 1 with fail
  obtain ⟨w0, hw0⟩ : ∃ w0, (w.alloc (.cells #[.slice A n c, .int .i64 S] 26)) = w0 := ⟨_, rfl⟩
  have HB0 : Hid (Below w.heap.size w w0) := Lib.hid (by rw [← hw0]; exact ((Below.refl _ _).alloc (Nat.le_refl _) _))
  have HC := Lib.hid (fun wx (hb : Below w0.heap.size w0 wx) => (show wx.cell? ⟨w.heap.size, 0, none⟩ = some (.slice A n c) ∧ wx.cell? ⟨w.heap.size, 1, none⟩ = some (.int .i64 S) from by
    subst hw0
    obtain ⟨k, kf⟩ := bcell hb
    exact ⟨(k _ _ (by simp; try omega)).trans (by simp [go_sem]), (k _ _ (by simp; try omega)).trans (by simp [go_sem])⟩))
  rw [hw0]
  clear hw0
  have HZ0 := Lib.hid (Below.refl w0.heap.size w0)
  obtain ⟨c0, c1⟩ := HC.out w0 HZ0.out
  go_wp2
  go_loopw [3, 4] (fun r i wr => ∃ k : Nat, k ≤ n ∧ i = .int .i64 k ∧ r = .int .i64 (S + sumL wgt (l.take k)) ∧ Below w0.heap.size w0 wr) (fun _ i _ => n - (intOf i).toNat)
  case atStart => exact ⟨0, Nat.zero_le _, rfl, by simp [sumL], HZ0.out⟩
  case round =>
    obtain ⟨k, hk, rfl, rfl, hbw⟩ := hrel
    clear c0 c1
    have HB := Lib.hid hbw
    have HBW := Lib.hid (HB0.out.trans (hbw.mono HB0.out.size))
    obtain ⟨d0, d1⟩ := HC.out wr hbw
    have g1 := HBD.out k
    clear hbw
    by_cases hlt : k < n
    · have hkl : k < l.length := by omega
      obtain ⟨blk, off, rfl, hblk, hx⟩ := HR.out.2 (by omega)
      obtain ⟨hp0, hp1⟩ := (hx k hkl).below HBW.out hblk
      have hpo := HWT.out.pt l[k] (List.getElem_mem hkl)
      have HS := Lib.hid (sumL_take_succ wgt l hkl)
      obtain ⟨p, hpe⟩ : ∃ x, l[k] = x := ⟨_, rfl⟩
      rw [hpe] at hp0 hp1 hpo HS
      clear hx hpe
      obtain ⟨a, v⟩ := p
      obtain ⟨a0, a1, n0, n1⟩ := hpo
      simp only at hp0 hp1 a0 a1 n0 n1
      have hv : wgt ⟨a, v⟩ = v := rfl
      rw [hv] at HS
      generalize sumL wgt (l.take k) = rk at *
      have q1 : wrap64 (S + rk + v) = S + rk + v := w64 (by omega)
      clear g1 hv
      have hl3 : w.heap.size < wr.heap.size := World.block_lt_of_cell? wr _ d0
      go_wp2
      go_roundw
      case rel => exact ⟨k + 1, by omega, by go_num, by rw [HS.out]; exact congrArg (Value.int .i64) (by first | omega | (rw [q1]; omega)), HB.out⟩
      case measure => simp [intOf]; omega
    · obtain rfl : k = n := by omega
      have HT1 : Hid (l.take k = l) := Lib.hid (List.take_of_length_le (by omega))
      go_wp2
      go_ret
      exact ⟨ret_int (by rw [HT1.out]), HBW.out⟩
theorem frQ_is {b : Bm} {l : List Pt} {S : Int} : 2 * b.s * (S + sumL wgt l) - frR b l S = frQ b l S := by
  have h1 : sumL (ptR b) l + sumL (ptQ b) l = 2 * b.s * sumL wgt l := by
    induction l with
    | nil => show (0 : Int) + 0 = 2 * b.s * 0; omega
    | cons p r ih =>
      have hp : ptR b p + ptQ b p = 2 * b.s * p.n := by
        unfold ptR ptQ
        cases b.e == 1
        · simp only [cond_false]; grind
        · simp only [cond_true]; omega
      show ptR b p + sumL (ptR b) r + (ptQ b p + sumL (ptQ b) r) = 2 * b.s * (p.n + sumL wgt r)
      rw [Int.mul_add]
      omega
  have h2 : spR b S + spQ b S = 2 * b.s * S := by
    unfold spR spQ
    cases b.e == 1
    · simp only [cond_false]; grind
    · simp only [cond_true]; omega
  unfold frR frQ
  rw [Int.mul_add]
  omega
theorem frM_low {b : Bm} {l : List Pt} {S : Int} (hb : BmOk b) : frV (frM b l S) (2 * b.s) = frV (twM b l S) 2 := by
  rw [← twM_eq]
  exact frV_scale (by have := hb.s0; omega) (by decide)
theorem twM_bd {b : Bm} {l : List Pt} {S : Int} (hb : BmOk b) (hl : WtOk b.s l S) : (twM b l S).natAbs ≤ 1000000000000 := by
  have h1 := fr_take_bd hb hl l.length
  rw [List.take_length] at h1
  have h2 := h1.2.2
  rw [← twM_eq, Int.natAbs_mul] at h2
  have h3 : (twM b l S).natAbs * 1 ≤ (twM b l S).natAbs * b.s.natAbs := Nat.mul_le_mul_left _ (by have := hb.s0; omega)
  omega
/-- The three reactions in one array. -/
def frA (n1 n2 n3 d : Int) : Value := .agg #[.int .i64 (lowN n1 d), .int .i64 (lowD n1 d), .int .i64 (lowN n2 d), .int .i64 (lowD n2 d), .int .i64 (lowN n3 d), .int .i64 (lowD n3 d)]
set_option maxHeartbeats 8000000 in
set_option maxRecDepth 20000 in
theorem rReactions_any {b : Bm} {A : Option Addr} {n c : Nat} {S : Int} {l : List Pt} (hb : BmOk b) (hl : WtOk b.s l S) (w : World) (h : PtRow w A n l) :
    Calls Try.prog 28 #[bmV b, buV A n c S] w fun e w' => e = .returned (frA (frR b l S) (frQ b l S) (frM b l S) (2 * b.s)) ∧ Below w.heap.size w w' := by
  have TW := Lib.hid (fun wx (hx : Below w.heap.size w wx) => rtwice_any (c := c) hb hl wx (h.below hx))
  have WG := Lib.hid (fun wx (hx : Below w.heap.size w wx) => rweight_any (c := c) hl wx (h.below hx))
  have HQ := frQ_is (b := b) (l := l) (S := S)
  have HM := frM_low (l := l) (S := S) hb
  have k0 := wgt_bd hl l.length
  have k1 := fr_take_bd hb hl l.length
  have k2 := twM_bd hb hl
  rw [List.take_length] at k0 k1
  have hs0 := hb.s0; have hs1 := hb.s1; have hS0 := hl.S0; have hS1 := hl.S1
  have hM2 : Hid (lowN (frM b l S) (2 * b.s) = lowN (twM b l S) 2 ∧ lowD (frM b l S) (2 * b.s) = lowD (twM b l S) 2) := Lib.hid (by
    unfold frV at HM
    injection HM with HM
    have h1 := congrArg (fun x => x[0]?) HM
    have h2 := congrArg (fun x => x[1]?) HM
    simp at h1 h2
    exact ⟨h1, h2⟩)
  unfold frA
  rw [hM2.out.1, hM2.out.2]
  clear h hb hl HM hM2
  generalize sumL wgt l = sw at *
  generalize frR b l S = r1 at *
  generalize frQ b l S = r2 at *
  generalize frM b l S = r3 at *
  generalize twM b l S = m3 at *
  obtain ⟨s, ww, t, en⟩ := b
  unfold bmV buV at *
  simp only at TW WG HQ hs0 hs1 ⊢
  have E1 : Ev s s 2000 := .of (by omega)
  have E2 : Ev (S + sw) (S + sw) 100000 := .of (by omega)
  have q1 : IntKind.i64.wrap (2 * s) = 2 * s := i64w (by (apply Ev.e; repeat' (first | with_reducible assumption | with_reducible apply Ev.wrap | with_reducible apply Ev.mul | with_reducible apply Ev.add | with_reducible apply Ev.sub | with_reducible apply Ev.neg | exact Ev.lit _ | (decide +kernel))))
  have q2 : IntKind.i64.wrap (2 * s * (S + sw)) = 2 * s * (S + sw) := i64w (by (apply Ev.e; repeat' (first | with_reducible assumption | with_reducible apply Ev.wrap | with_reducible apply Ev.mul | with_reducible apply Ev.add | with_reducible apply Ev.sub | with_reducible apply Ev.neg | exact Ev.lit _ | (decide +kernel))))
  have q3 : IntKind.i64.wrap (2 * s * (S + sw) - r1) = r2 := by rw [HQ]; exact i64w (w64 (by omega))
  have LO1 := Lib.hid (fun wx => lowest_any (n := r1) (d := 2 * s) (by omega) (by omega) (by omega) wx)
  have LO2 := Lib.hid (fun wx => lowest_any (n := r2) (d := 2 * s) (by omega) (by omega) (by omega) wx)
  have LO3 := Lib.hid (fun wx => lowest_any (n := m3) (d := 2) (by omega) (by omega) (by omega) wx)
  clear E1 E2 k0 k1 k2 hs0 hs1 hS0 hS1 HQ
  obtain ⟨dd, hdd⟩ : ∃ v, 2 * s = v := ⟨_, rfl⟩
  have p1 : IntKind.i64.wrap (2 * s) = dd := q1.trans hdd
  rw [hdd] at q2 q3 LO1 LO2 ⊢
  clear q1 hdd
  generalize S + sw = wt at *
  unfold frV at LO1 LO2 LO3
  generalize lowN r1 dd = n1 at *
  generalize lowD r1 dd = e1 at *
  generalize lowN r2 dd = n2 at *
  generalize lowD r2 dd = e2 at *
  generalize lowN m3 2 = n3 at *
  generalize lowD m3 2 = e3 at *
  go_enter Try.func28, Try.ntmps28
  go_upto_region 1 with fail
  obtain ⟨w0, hw0⟩ : ∃ w0, (((w.alloc (.cells #[.int .i64 s, .int .i64 ww, .int .i64 t, .int .i64 en] 23)).alloc (.cells #[.slice A n c, .int .i64 S] 26)).alloc (.cells #[.int .i64 0, .int .i64 0, .int .i64 0, .int .i64 0, .int .i64 0, .int .i64 0] 40)) = w0 := ⟨_, rfl⟩
  have HB0 : Hid (Below w.heap.size w w0) := Lib.hid (by rw [← hw0]; exact ((((Below.refl _ _).alloc (Nat.le_refl _) _).alloc (by simp; try omega) _).alloc (by simp; try omega) _))
  have HC := Lib.hid (fun wx (hb : Below w0.heap.size w0 wx) => (show wx.cell? ⟨w.heap.size, 0, none⟩ = some (.int .i64 s) ∧ wx.cell? ⟨w.heap.size, 1, none⟩ = some (.int .i64 ww) ∧ wx.cell? ⟨w.heap.size, 2, none⟩ = some (.int .i64 t) ∧ wx.cell? ⟨w.heap.size, 3, none⟩ = some (.int .i64 en) ∧ wx.cell? ⟨w.heap.size + 1, 0, none⟩ = some (.slice A n c) ∧ wx.cell? ⟨w.heap.size + 1, 1, none⟩ = some (.int .i64 S) ∧ wx.cell? ⟨w.heap.size + 2, 0, none⟩ = some (.int .i64 0) ∧ wx.cell? ⟨w.heap.size + 2, 1, none⟩ = some (.int .i64 0) ∧ wx.cell? ⟨w.heap.size + 2, 2, none⟩ = some (.int .i64 0) ∧ wx.cell? ⟨w.heap.size + 2, 3, none⟩ = some (.int .i64 0) ∧ wx.cell? ⟨w.heap.size + 2, 4, none⟩ = some (.int .i64 0) ∧ wx.cell? ⟨w.heap.size + 2, 5, none⟩ = some (.int .i64 0) ∧ wx.frozen? ⟨w.heap.size + 2, 0, none⟩ = false ∧ wx.frozen? ⟨w.heap.size + 2, 1, none⟩ = false ∧ wx.frozen? ⟨w.heap.size + 2, 2, none⟩ = false ∧ wx.frozen? ⟨w.heap.size + 2, 3, none⟩ = false ∧ wx.frozen? ⟨w.heap.size + 2, 4, none⟩ = false ∧ wx.frozen? ⟨w.heap.size + 2, 5, none⟩ = false from by
    subst hw0
    obtain ⟨k, kf⟩ := bcell hb
    exact ⟨(k _ _ (by simp; try omega)).trans (by simp [go_sem]), (k _ _ (by simp; try omega)).trans (by simp [go_sem]), (k _ _ (by simp; try omega)).trans (by simp [go_sem]), (k _ _ (by simp; try omega)).trans (by simp [go_sem]), (k _ _ (by simp; try omega)).trans (by simp [go_sem]), (k _ _ (by simp; try omega)).trans (by simp [go_sem]), (k _ _ (by simp; try omega)).trans (by simp [go_sem]), (k _ _ (by simp; try omega)).trans (by simp [go_sem]), (k _ _ (by simp; try omega)).trans (by simp [go_sem]), (k _ _ (by simp; try omega)).trans (by simp [go_sem]), (k _ _ (by simp; try omega)).trans (by simp [go_sem]), (k _ _ (by simp; try omega)).trans (by simp [go_sem]), (kf _ _ (by simp; try omega)).trans (by simp [go_sem]), (kf _ _ (by simp; try omega)).trans (by simp [go_sem]), (kf _ _ (by simp; try omega)).trans (by simp [go_sem]), (kf _ _ (by simp; try omega)).trans (by simp [go_sem]), (kf _ _ (by simp; try omega)).trans (by simp [go_sem]), (kf _ _ (by simp; try omega)).trans (by simp [go_sem])⟩))
  rw [hw0]
  clear hw0
  have HZ0 := Lib.hid (Below.refl w0.heap.size w0)
  obtain ⟨c0, c1, c2, c3, c4, c5, c6, c7, c8, c9, c10, c11, z2_0, z2_1, z2_2, z2_3, z2_4, z2_5⟩ := HC.out w0 HZ0.out
  go_upto_region 2 with (go_at_call 98; (refine Calls.mono (TW.out _ HB0.out) ?_); rintro e w1 ⟨rfl, hb1⟩)
  have H1 := Lib.hid hb1
  have H1W := Lib.hid (HB0.out.trans (hb1.mono HB0.out.size))
  have HC1 := Lib.hid (fun wx (hy : Below w1.heap.size w1 wx) => HC.out wx (H1.out.trans (hy.mono H1.out.size)))
  clear hb1 c0 c1 c2 c3 c4 c5 c6 c7 c8 c9 c10 c11 z2_0 z2_1 z2_2 z2_3 z2_4 z2_5
  refine wp_region_tail [13, 14, 15, 16, 17, 18, 19, 20, 21, 22, 23, 24, 25, 26, 27, 28, 29, 30, 31, 32] [rEq (.int .i64 r1), rEq (.pointer (some ⟨w.heap.size, 0, none⟩)), rEq (.int .i64 s), rEq (.int .i64 dd), rEq (.agg #[.int .i64 n1, .int .i64 e1]), rEq (.pointer (some ⟨w.heap.size, 0, none⟩)), rEq (.int .i64 s), rEq (.int .i64 dd), rEq (.agg #[.slice A n c, .int .i64 S]), rEq (.int .i64 wt), rEq (.int .i64 (dd * wt)), rEq (.int .i64 r1), rEq (.int .i64 r2), rEq (.pointer (some ⟨w.heap.size, 0, none⟩)), rEq (.int .i64 s), rEq (.int .i64 dd), rEq (.agg #[.int .i64 n2, .int .i64 e2]), rEq (.int .i64 m3), rEq (.agg #[.int .i64 n3, .int .i64 e3]), rEq (.agg #[.int .i64 n1, .int .i64 e1, .int .i64 n2, .int .i64 e2, .int .i64 n3, .int .i64 e3])] (by kernel_rfl) (by kernel_rfl) (by decide) (by decide +kernel) ⟨?_, ?_, ?_, ?_, ?_, ?_, ?_, ?_, ?_, ?_, ?_, ?_, ?_, ?_, ?_, ?_, ?_, ?_, ?_, ?_, trivial⟩ ?_
  · intro ac wx hf hb hd -- 0
    have f5 : ac.tmps[5]?.getD undef = .int .i64 r1 := by rw [← Array.getD_eq_getD_getElem?]; exact hf.same 5 (by decide)
    exact rstep_eq (by simp [execOp, Act.eval, f5, go_sem]) rfl
  · intro ac wx hf hb hd -- 1
    have f2 : ac.tmps[2]?.getD undef = .pointer (some ⟨w.heap.size, 0, none⟩) := by rw [← Array.getD_eq_getD_getElem?]; exact hf.same 2 (by decide)
    exact rstep_eq (by simp [execOp, Act.eval, f2, go_sem]) rfl
  · intro ac wx hf hb hd -- 2
    have d1 : ac.tmps[14]?.getD undef = .pointer (some ⟨w.heap.size, 0, none⟩) := by rw [← Array.getD_eq_getD_getElem?]; exact hd 1 (by decide)
    obtain ⟨c0, c1, c2, c3, c4, c5, c6, c7, c8, c9, c10, c11, z2_0, z2_1, z2_2, z2_3, z2_4, z2_5⟩ := HC1.out wx hb
    exact rstep_eq (by simp [execOp, Act.eval, d1, c0, go_sem]) rfl
  · intro ac wx hf hb hd -- 3
    have d2 : ac.tmps[15]?.getD undef = .int .i64 s := by rw [← Array.getD_eq_getD_getElem?]; exact hd 2 (by decide)
    exact rstep_eq (by simp [execOp, Act.eval, d2, p1, go_sem]) rfl
  · intro ac wx hf hb hd -- 4
    have d0 : ac.tmps[13]?.getD undef = .int .i64 r1 := by rw [← Array.getD_eq_getD_getElem?]; exact hd 0 (by decide)
    have d3 : ac.tmps[16]?.getD undef = .int .i64 dd := by rw [← Array.getD_eq_getD_getElem?]; exact hd 3 (by decide)
    refine rstep_call (f := 89) (args := #[.int .i64 r1, .int .i64 dd]) (by simp [Act.eval, d0, d3, go_sem]) ?_ rfl
    exact LO1.out wx
  · intro ac wx hf hb hd -- 5
    have f2 : ac.tmps[2]?.getD undef = .pointer (some ⟨w.heap.size, 0, none⟩) := by rw [← Array.getD_eq_getD_getElem?]; exact hf.same 2 (by decide)
    exact rstep_eq (by simp [execOp, Act.eval, f2, go_sem]) rfl
  · intro ac wx hf hb hd -- 6
    have d5 : ac.tmps[18]?.getD undef = .pointer (some ⟨w.heap.size, 0, none⟩) := by rw [← Array.getD_eq_getD_getElem?]; exact hd 5 (by decide)
    obtain ⟨c0, c1, c2, c3, c4, c5, c6, c7, c8, c9, c10, c11, z2_0, z2_1, z2_2, z2_3, z2_4, z2_5⟩ := HC1.out wx hb
    exact rstep_eq (by simp [execOp, Act.eval, d5, c0, go_sem]) rfl
  · intro ac wx hf hb hd -- 7
    have d6 : ac.tmps[19]?.getD undef = .int .i64 s := by rw [← Array.getD_eq_getD_getElem?]; exact hd 6 (by decide)
    exact rstep_eq (by simp [execOp, Act.eval, d6, p1, go_sem]) rfl
  · intro ac wx hf hb hd -- 8
    have f3 : ac.tmps[3]?.getD undef = .pointer (some ⟨w.heap.size + 1, 0, none⟩) := by rw [← Array.getD_eq_getD_getElem?]; exact hf.same 3 (by decide)
    obtain ⟨c0, c1, c2, c3, c4, c5, c6, c7, c8, c9, c10, c11, z2_0, z2_1, z2_2, z2_3, z2_4, z2_5⟩ := HC1.out wx hb
    exact rstep_eq (by simp [execOp, Act.eval, f3, c4, c5, go_sem]) rfl
  · intro ac wx hf hb hd -- 9
    have d8 : ac.tmps[21]?.getD undef = .agg #[.slice A n c, .int .i64 S] := by rw [← Array.getD_eq_getD_getElem?]; exact hd 8 (by decide)
    refine rstep_call (f := 29) (args := #[.agg #[.slice A n c, .int .i64 S]]) (by simp [Act.eval, d8, go_sem]) ?_ rfl
    exact WG.out wx (H1W.out.trans (hb.mono H1W.out.size))
  · intro ac wx hf hb hd -- 10
    have d7 : ac.tmps[20]?.getD undef = .int .i64 dd := by rw [← Array.getD_eq_getD_getElem?]; exact hd 7 (by decide)
    have d9 : ac.tmps[22]?.getD undef = .int .i64 wt := by rw [← Array.getD_eq_getD_getElem?]; exact hd 9 (by decide)
    exact rstep_eq (by simp [execOp, Act.eval, d7, d9, q2, go_sem]) rfl
  · intro ac wx hf hb hd -- 11
    have f5 : ac.tmps[5]?.getD undef = .int .i64 r1 := by rw [← Array.getD_eq_getD_getElem?]; exact hf.same 5 (by decide)
    exact rstep_eq (by simp [execOp, Act.eval, f5, go_sem]) rfl
  · intro ac wx hf hb hd -- 12
    have d10 : ac.tmps[23]?.getD undef = .int .i64 (dd * wt) := by rw [← Array.getD_eq_getD_getElem?]; exact hd 10 (by decide)
    have d11 : ac.tmps[24]?.getD undef = .int .i64 r1 := by rw [← Array.getD_eq_getD_getElem?]; exact hd 11 (by decide)
    exact rstep_eq (by simp [execOp, Act.eval, d10, d11, q3, go_sem]) rfl
  · intro ac wx hf hb hd -- 13
    have f2 : ac.tmps[2]?.getD undef = .pointer (some ⟨w.heap.size, 0, none⟩) := by rw [← Array.getD_eq_getD_getElem?]; exact hf.same 2 (by decide)
    exact rstep_eq (by simp [execOp, Act.eval, f2, go_sem]) rfl
  · intro ac wx hf hb hd -- 14
    have d13 : ac.tmps[26]?.getD undef = .pointer (some ⟨w.heap.size, 0, none⟩) := by rw [← Array.getD_eq_getD_getElem?]; exact hd 13 (by decide)
    obtain ⟨c0, c1, c2, c3, c4, c5, c6, c7, c8, c9, c10, c11, z2_0, z2_1, z2_2, z2_3, z2_4, z2_5⟩ := HC1.out wx hb
    exact rstep_eq (by simp [execOp, Act.eval, d13, c0, go_sem]) rfl
  · intro ac wx hf hb hd -- 15
    have d14 : ac.tmps[27]?.getD undef = .int .i64 s := by rw [← Array.getD_eq_getD_getElem?]; exact hd 14 (by decide)
    exact rstep_eq (by simp [execOp, Act.eval, d14, p1, go_sem]) rfl
  · intro ac wx hf hb hd -- 16
    have d12 : ac.tmps[25]?.getD undef = .int .i64 r2 := by rw [← Array.getD_eq_getD_getElem?]; exact hd 12 (by decide)
    have d15 : ac.tmps[28]?.getD undef = .int .i64 dd := by rw [← Array.getD_eq_getD_getElem?]; exact hd 15 (by decide)
    refine rstep_call (f := 89) (args := #[.int .i64 r2, .int .i64 dd]) (by simp [Act.eval, d12, d15, go_sem]) ?_ rfl
    exact LO2.out wx
  · intro ac wx hf hb hd -- 17
    have f6 : ac.tmps[6]?.getD undef = .int .i64 m3 := by rw [← Array.getD_eq_getD_getElem?]; exact hf.same 6 (by decide)
    exact rstep_eq (by simp [execOp, Act.eval, f6, go_sem]) rfl
  · intro ac wx hf hb hd -- 18
    have d17 : ac.tmps[30]?.getD undef = .int .i64 m3 := by rw [← Array.getD_eq_getD_getElem?]; exact hd 17 (by decide)
    refine rstep_call (f := 89) (args := #[.int .i64 m3, .int .i64 2]) (by simp [Act.eval, d17, go_sem]) ?_ rfl
    exact LO3.out wx
  · intro ac wx hf hb hd -- 19
    have d4 : ac.tmps[17]?.getD undef = .agg #[.int .i64 n1, .int .i64 e1] := by rw [← Array.getD_eq_getD_getElem?]; exact hd 4 (by decide)
    have d16 : ac.tmps[29]?.getD undef = .agg #[.int .i64 n2, .int .i64 e2] := by rw [← Array.getD_eq_getD_getElem?]; exact hd 16 (by decide)
    have d18 : ac.tmps[31]?.getD undef = .agg #[.int .i64 n3, .int .i64 e3] := by rw [← Array.getD_eq_getD_getElem?]; exact hd 18 (by decide)
    exact rstep_eq (by simp [execOp, Act.eval, d4, d16, d18, go_sem]) rfl
  rintro ⟨⟨ll⟩, df⟩ w4 hf hbw4 hall
  have hdf : df = [] := hf.defers
  subst hdf
  have hsz : ll.length = 33 := hf.size
  obtain ⟨x0, ll0, rfl, hsz0⟩ := cons_of hsz
  obtain ⟨x1, ll1, rfl, hsz1⟩ := cons_of hsz0
  obtain ⟨x2, ll2, rfl, hsz2⟩ := cons_of hsz1
  obtain ⟨x3, ll3, rfl, hsz3⟩ := cons_of hsz2
  obtain ⟨x4, ll4, rfl, hsz4⟩ := cons_of hsz3
  obtain ⟨x5, ll5, rfl, hsz5⟩ := cons_of hsz4
  obtain ⟨x6, ll6, rfl, hsz6⟩ := cons_of hsz5
  obtain ⟨x7, ll7, rfl, hsz7⟩ := cons_of hsz6
  obtain ⟨x8, ll8, rfl, hsz8⟩ := cons_of hsz7
  obtain ⟨x9, ll9, rfl, hsz9⟩ := cons_of hsz8
  obtain ⟨x10, ll10, rfl, hsz10⟩ := cons_of hsz9
  obtain ⟨x11, ll11, rfl, hsz11⟩ := cons_of hsz10
  obtain ⟨x12, ll12, rfl, hsz12⟩ := cons_of hsz11
  obtain ⟨x13, ll13, rfl, hsz13⟩ := cons_of hsz12
  obtain ⟨x14, ll14, rfl, hsz14⟩ := cons_of hsz13
  obtain ⟨x15, ll15, rfl, hsz15⟩ := cons_of hsz14
  obtain ⟨x16, ll16, rfl, hsz16⟩ := cons_of hsz15
  obtain ⟨x17, ll17, rfl, hsz17⟩ := cons_of hsz16
  obtain ⟨x18, ll18, rfl, hsz18⟩ := cons_of hsz17
  obtain ⟨x19, ll19, rfl, hsz19⟩ := cons_of hsz18
  obtain ⟨x20, ll20, rfl, hsz20⟩ := cons_of hsz19
  obtain ⟨x21, ll21, rfl, hsz21⟩ := cons_of hsz20
  obtain ⟨x22, ll22, rfl, hsz22⟩ := cons_of hsz21
  obtain ⟨x23, ll23, rfl, hsz23⟩ := cons_of hsz22
  obtain ⟨x24, ll24, rfl, hsz24⟩ := cons_of hsz23
  obtain ⟨x25, ll25, rfl, hsz25⟩ := cons_of hsz24
  obtain ⟨x26, ll26, rfl, hsz26⟩ := cons_of hsz25
  obtain ⟨x27, ll27, rfl, hsz27⟩ := cons_of hsz26
  obtain ⟨x28, ll28, rfl, hsz28⟩ := cons_of hsz27
  obtain ⟨x29, ll29, rfl, hsz29⟩ := cons_of hsz28
  obtain ⟨x30, ll30, rfl, hsz30⟩ := cons_of hsz29
  obtain ⟨x31, ll31, rfl, hsz31⟩ := cons_of hsz30
  obtain ⟨x32, ll32, rfl, hsz32⟩ := cons_of hsz31
  obtain rfl := List.eq_nil_of_length_eq_zero hsz32
  obtain rfl : x2 = .pointer (some ⟨w.heap.size, 0, none⟩) := hf.same 2 (by decide)
  obtain rfl : x3 = .pointer (some ⟨w.heap.size + 1, 0, none⟩) := hf.same 3 (by decide)
  obtain rfl : x4 = .pointer (some ⟨w.heap.size + 2, 0, none⟩) := hf.same 4 (by decide)
  obtain rfl : x5 = .int .i64 r1 := hf.same 5 (by decide)
  obtain rfl : x6 = .int .i64 m3 := hf.same 6 (by decide)
  obtain rfl : x13 = .int .i64 r1 := hall 0 13 rfl
  obtain rfl : x14 = .pointer (some ⟨w.heap.size, 0, none⟩) := hall 1 14 rfl
  obtain rfl : x15 = .int .i64 s := hall 2 15 rfl
  obtain rfl : x16 = .int .i64 dd := hall 3 16 rfl
  obtain rfl : x17 = .agg #[.int .i64 n1, .int .i64 e1] := hall 4 17 rfl
  obtain rfl : x18 = .pointer (some ⟨w.heap.size, 0, none⟩) := hall 5 18 rfl
  obtain rfl : x19 = .int .i64 s := hall 6 19 rfl
  obtain rfl : x20 = .int .i64 dd := hall 7 20 rfl
  obtain rfl : x21 = .agg #[.slice A n c, .int .i64 S] := hall 8 21 rfl
  obtain rfl : x22 = .int .i64 wt := hall 9 22 rfl
  obtain rfl : x23 = .int .i64 (dd * wt) := hall 10 23 rfl
  obtain rfl : x24 = .int .i64 r1 := hall 11 24 rfl
  obtain rfl : x25 = .int .i64 r2 := hall 12 25 rfl
  obtain rfl : x26 = .pointer (some ⟨w.heap.size, 0, none⟩) := hall 13 26 rfl
  obtain rfl : x27 = .int .i64 s := hall 14 27 rfl
  obtain rfl : x28 = .int .i64 dd := hall 15 28 rfl
  obtain rfl : x29 = .agg #[.int .i64 n2, .int .i64 e2] := hall 16 29 rfl
  obtain rfl : x30 = .int .i64 m3 := hall 17 30 rfl
  obtain rfl : x31 = .agg #[.int .i64 n3, .int .i64 e3] := hall 18 31 rfl
  obtain rfl : x32 = .agg #[.int .i64 n1, .int .i64 e1, .int .i64 n2, .int .i64 e2, .int .i64 n3, .int .i64 e3] := hall 19 32 rfl
  clear hall hf
  obtain ⟨c0, c1, c2, c3, c4, c5, c6, c7, c8, c9, c10, c11, z2_0, z2_1, z2_2, z2_3, z2_4, z2_5⟩ := HC1.out w4 hbw4
  simp [wpSeq_cons, wpSeq_nil, Oper.wp, Oper.upon, execOp, Act.eval, go_sem, c6, c7, c8, c9, c10, c11, z2_0, z2_1, z2_2, z2_3, z2_4, z2_5]
  go_wp2
  refine bodyPost_ret (v := .agg #[.int .i64 n1, .int .i64 e1, .int .i64 n2, .int .i64 e2, .int .i64 n3, .int .i64 e3]) (by simp [results, Try.results28, go_sem, c6, c7, c8, c9, c10, c11]) rfl ⟨rfl, ?_⟩
  exact (((((((H1W.out.trans (hbw4.mono H1W.out.size)).setCell (p := ⟨w.heap.size + 2, 0, none⟩) (by simp) _).setCell (p := ⟨w.heap.size + 2, 1, none⟩) (by simp) _).setCell (p := ⟨w.heap.size + 2, 2, none⟩) (by simp) _).setCell (p := ⟨w.heap.size + 2, 3, none⟩) (by simp) _).setCell (p := ⟨w.heap.size + 2, 4, none⟩) (by simp) _).setCell (p := ⟨w.heap.size + 2, 5, none⟩) (by simp) _)
end Go.Proofs.Ytageiimcmnebmaa
