/- Walks over the timber seat: values of tables. -/
import Derived.Test.YtnjbhidncicfiaaT2
namespace Go.Proofs.Ytnjbhidncicfiaa
open Go.RowKit

/-- What two neighbouring knots are like. -/
structure KnOk (a b : Kn) : Prop where
  a0 : 0 ≤ a.1
  a1 : a.1 ≤ 1000
  v0 : 0 ≤ a.2
  v1 : a.2 ≤ 400
  b0 : 0 ≤ b.1
  b1 : b.1 ≤ 1000
  u0 : 0 ≤ b.2
  u1 : b.2 ≤ 400
theorem betw_wrap {a b : Kn} {h : Int} (k : KnOk a b) (h0 : a.1 < h) (h1 : h ≤ b.1) :
    wrap64 ((wrap64 (wrap64 (a.2 * (b.1 - h)) + wrap64 (b.2 * (h - a.1)))).tdiv (b.1 - a.1)) = betw a b h := by
  obtain ⟨a0, a1, v0, v1, b0, b1, u0, u1⟩ := k
  have m1 := mul_bd (b := b.1 - h) (B := 1000) v0 v1 (by omega) (by omega)
  have m2 := mul_bd (b := h - a.1) (B := 1000) u0 u1 (by omega) (by omega)
  have p1 := Int.mul_nonneg v0 (show 0 ≤ b.1 - h by omega)
  have p2 := Int.mul_nonneg u0 (show 0 ≤ h - a.1 by omega)
  rw [betw_lt h0, w64 (x := a.2 * (b.1 - h)) (by omega), w64 (x := b.2 * (h - a.1)) (by omega), w64 (x := a.2 * (b.1 - h) + b.2 * (h - a.1)) (by omega)]
  have d0 := Int.tdiv_nonneg (a := a.2 * (b.1 - h) + b.2 * (h - a.1)) (b := b.1 - a.1) (by omega) (by omega)
  have d1 := Int.tdiv_eq_ediv_of_nonneg (a := a.2 * (b.1 - h) + b.2 * (h - a.1)) (b := b.1 - a.1) (by omega)
  have d2 := Int.ediv_le_self (a := a.2 * (b.1 - h) + b.2 * (h - a.1)) (b.1 - a.1) (by omega)
  exact w64 (by omega)
set_option maxHeartbeats 1000000 in
theorem between_any {a1 a2 b1 b2 h v : Int} (hv : betw (a1, a2) (b1, b2) h = v) (k : KnOk (a1, a2) (b1, b2)) (h0 : 0 ≤ h) (hb : h ≤ b1) (w : World) :
    Calls Try.prog 102 #[.agg #[.int .i64 a1, .int .i64 a2], .agg #[.int .i64 b1, .int .i64 b2], .int .i64 h] w fun e w' => e = .returned (.int .i64 v) ∧ Below w.heap.size w w' := by
  by_cases hl : h ≤ a1
  · have HV : Hid (v = a2) := Lib.hid (by rw [← hv]; exact betw_le hl)
    clear hv k
    go_enter Try.func102, Try.ntmps102
    go_wp2
    go_ret
    exact ⟨ret_int HV.out.symm, by go_grown⟩
  · have HV := Lib.hid ((betw_wrap k (show a1 < h by omega) hb).trans hv)
    have hd : (b1 - a1 == 0) = false := by rw [beq_eq_false_iff_ne]; omega
    obtain ⟨x0, x1, x2, x3, x4, x5, x6, x7⟩ := k
    have e1 : wrap64 (b1 - a1) = b1 - a1 := w64 (by simp only at x0 x1 x4 x5; omega)
    have e2 : wrap64 (b1 - h) = b1 - h := w64 (by simp only at x0 x1 x4 x5; omega)
    have e3 : wrap64 (h - a1) = h - a1 := w64 (by simp only at x0 x1 x4 x5; omega)
    clear hv x2 x3 x6 x7
    go_enter Try.func102, Try.ntmps102
    go_wp2
    go_ret
    exact ⟨ret_int HV.out, by go_grown⟩
theorem knOk_prev {ks : List Kn} (h : TabOk ks) {k : Nat} (hk : k < ks.length) : KnOk (prevAt ks k) ks[k] := by
  have e := h.each k hk
  have hp : ∃ j, ∃ hj : j < ks.length, prevAt ks k = ks[j] := by
    cases k with
    | zero => exact ⟨0, hk, prevAt_zero hk⟩
    | succ j => exact ⟨j, by omega, prevAt_succ (by omega)⟩
  obtain ⟨j, hj, hp⟩ := hp
  have f := h.each j hj
  rw [hp]
  exact ⟨f.1.1, f.1.2, f.2.1.1, f.2.1.2, e.1.1, e.1.2, e.2.1.1, e.2.1.2⟩
/-- The results of a table. -/
def tabV (ks : List Kn) (h : Int) : Int := eqFrom (prevAt ks 0) h (ks.drop 0)
set_option maxHeartbeats 2000000 in
theorem equil_err {A : Option Addr} {n cp : Nat} {ks : List Kn} {c h : Int} (hc : tabCode ks = c) (hne : c ≠ 0) (w : World) (hr : KnRow w A n ks) (hn : n ≤ maxLen) :
    Calls Try.prog 60 #[.slice A n cp, .int .i64 h] w fun e w' => e = .returned (.tuple #[.int .i64 0, .int .i64 c]) ∧ Below w.heap.size w w' := by
  have C := Lib.hid (checkTable_any (cp := cp) hc w hr hn)
  clear hc hr
  go_enter Try.func60, Try.ntmps60
  go_wp2_with (go_at_call 101; (refine Calls.mono C.out ?_); rintro e w1 ⟨rfl, hb1⟩)
  go_ret2
  exact ⟨rfl, hb1⟩
set_option maxHeartbeats 2000000 in
theorem equil_range {A : Option Addr} {n cp : Nat} {ks : List Kn} {h : Int} (hc : tabCode ks = 0) (hh : inB 0 1000 h = false) (w : World) (hr : KnRow w A n ks) (hn : n ≤ maxLen) :
    Calls Try.prog 60 #[.slice A n cp, .int .i64 h] w fun e w' => e = .returned (.tuple #[.int .i64 0, .int .i64 2]) ∧ Below w.heap.size w w' := by
  have C := Lib.hid (checkTable_any (cp := cp) hc w hr hn)
  have X := Lib.hid ((allIn_one 0 1000 h).trans hh)
  clear hc hr hh
  go_enter Try.func60, Try.ntmps60
  go_wp2_with (first | (go_at_call 101; (refine Calls.mono C.out ?_); rintro e w1 ⟨rfl, hb1⟩) | (go_at_call 79; (with_reducible refine (within_oneb X.out _ _ (by simp)).mono ?_); rintro e w2 ⟨rfl, hb2⟩))
  go_ret2
  exact ⟨rfl, hb1.trans (hb2.mono hb1.size)⟩
set_option maxHeartbeats 4000000 in
theorem equil_ok {A : Option Addr} {n cp : Nat} {ks : List Kn} {h v : Int} (hc : tabCode ks = 0) (hv : tabV ks h = v) (h0 : 0 ≤ h) (h1 : h ≤ 1000) (w : World) (hr : KnRow w A n ks) (hn : n ≤ maxLen) :
    Calls Try.prog 60 #[.slice A n cp, .int .i64 h] w fun e w' => e = .returned (.tuple #[.int .i64 v, .int .i64 0]) ∧ Below w.heap.size w w' := by
  have C := Lib.hid (checkTable_any (cp := cp) hc w hr hn)
  have TO := tabOk_of hc
  have X := Lib.hid ((allIn_one 0 1000 h).trans (inB_iff.2 ⟨h0, h1⟩))
  have hpos := TO.pos
  have hlen := TO.len
  obtain ⟨hl, hrow⟩ := hr
  have hn' : n ≤ 50 := by omega
  have n0 : 0 < n := by omega
  obtain ⟨blk, off, rfl, hblk, hx⟩ := hrow n0
  have HX := Lib.hid hx
  have hfirst := hx 0 hpos
  have HV : Hid (eqFrom (prevAt ks 0) h (ks.drop 0) = v) := Lib.hid hv
  have P0 := prevAt_zero hpos
  obtain ⟨f1, hf1⟩ : ∃ x, ks[0].1 = x := ⟨_, rfl⟩
  obtain ⟨f2, hf2⟩ : ∃ x, ks[0].2 = x := ⟨_, rfl⟩
  have HP0 : Hid (prevAt ks 0 = (f1, f2)) := Lib.hid (by rw [P0, ← hf1, ← hf2])
  have HF : Hid (w.cell? ⟨blk, off, none⟩ = some (.int .i64 f1) ∧ w.cell? ⟨blk, off + 1, none⟩ = some (.int .i64 f2)) := Lib.hid (by have := hfirst; unfold KnAt at this; rw [show off + 0 * 2 = off by omega] at this; rw [← hf1, ← hf2]; exact this)
  have TK := Lib.hid TO
  clear hc hv hrow hx hfirst P0 hf1 hf2 TO
  go_enter Try.func60, Try.ntmps60
  go_wp2_with (first | (go_at_call 101; (refine Calls.mono C.out ?_); rintro e w1 ⟨rfl, hb1⟩) | (go_at_call 79; (with_reducible refine (within_oneb X.out _ _ (by simp)).mono ?_); rintro e w2 ⟨rfl, hb2⟩; have hb12 := hb1.trans (hb2.mono hb1.size); have cf1 : w2.cell? ⟨blk, off, none⟩ = some (.int .i64 f1) := (hb12.cell (p := ⟨blk, off, none⟩) hblk).trans HF.out.1; have cf2 : w2.cell? ⟨blk, off + 1, none⟩ = some (.int .i64 f2) := (hb12.cell (p := ⟨blk, off + 1, none⟩) hblk).trans HF.out.2))
  have hB2 := hb1.trans (hb2.mono hb1.size)
  have HB2 := Lib.hid hB2
  obtain ⟨L, hL⟩ : ∃ L, w2.heap.size = L := ⟨_, rfl⟩
  have hLw : w.heap.size ≤ L := by rw [← hL]; exact hB2.size
  have BW : Hid (Below w.heap.size w (w2.alloc (.cells #[.int .i64 f1, .int .i64 f2] 155))) := Lib.hid (hB2.alloc hB2.size _)
  obtain ⟨W, hW⟩ : ∃ W, w2.alloc (.cells #[.int .i64 f1, .int .i64 f2] 155) = W := ⟨_, rfl⟩
  have s0 : W.cell? ⟨L, 0, none⟩ = some (.int .i64 f1) ∧ W.cell? ⟨L, 1, none⟩ = some (.int .i64 f2) ∧ W.frozen? ⟨L, 0, none⟩ = false ∧ W.frozen? ⟨L, 1, none⟩ = false ∧ L < W.heap.size := by
    rw [← hW, ← hL]; simp [go_sem]
  rw [hW] at BW
  have S0 := Lib.hid s0
  rw [hW, hL]
  clear hW hL s0 hb1 hb2 hb12 cf1 cf2 hB2 HB2
  go_loopw [24] (fun i wr => ∃ k : Nat, k ≤ n ∧ eqFrom (prevAt ks k) h (ks.drop k) = v ∧ i = .int .i64 k ∧ Below w.heap.size w wr ∧ wr.cell? ⟨L, 0, none⟩ = some (.int .i64 (prevAt ks k).1) ∧ wr.cell? ⟨L, 1, none⟩ = some (.int .i64 (prevAt ks k).2) ∧ wr.frozen? ⟨L, 0, none⟩ = false ∧ wr.frozen? ⟨L, 1, none⟩ = false ∧ L < wr.heap.size) (fun i _ => n - (intOf i).toNat)
  case atStart => exact ⟨0, Nat.zero_le _, HV.out, rfl, BW.out, by rw [HP0.out]; exact S0.out.1, by rw [HP0.out]; exact S0.out.2.1, S0.out.2.2.1, S0.out.2.2.2.1, S0.out.2.2.2.2⟩
  case round =>
    obtain ⟨k, hk, ht, rfl, hbw, l0, l1, z0, z1, hLr⟩ := hrel
    have HT := Lib.hid ht
    have HB := Lib.hid hbw
    obtain ⟨p1, hp1⟩ : ∃ x, (prevAt ks k).1 = x := ⟨_, rfl⟩
    obtain ⟨p2, hp2⟩ : ∃ x, (prevAt ks k).2 = x := ⟨_, rfl⟩
    have HP : Hid (prevAt ks k = (p1, p2)) := Lib.hid (by rw [← hp1, ← hp2])
    rw [hp1] at l0
    rw [hp2] at l1
    clear ht hp1 hp2
    by_cases hlt : k < n
    · have hkl : k < ks.length := by omega
      obtain ⟨c1, c2⟩ := (HX.out k hkl).below hbw hblk
      have HS := Lib.hid (eq_step (h := h) hkl)
      have KO := knOk_prev TK.out hkl
      have PS := Lib.hid (prevAt_succ hkl)
      obtain ⟨a, ha⟩ : ∃ x, ks[k].1 = x := ⟨_, rfl⟩
      obtain ⟨u, hu⟩ : ∃ x, ks[k].2 = x := ⟨_, rfl⟩
      have hau : ks[k] = (a, u) := by rw [← ha, ← hu]
      rw [ha] at c1
      rw [hu] at c2
      rw [hau] at HS KO PS
      rw [HP.out] at HS KO
      by_cases hle : h ≤ a
      · have BT := fun wx => Lib.hid (between_any (w := wx) (a1 := p1) (a2 := p2) (b1 := a) (b2 := u) (h := h) (v := v) (by rw [← HT.out, HP.out, HS.out, if_pos hle]) KO h0 hle)
        clear ha hu hau hbw KO
        go_wp2_with (go_at_call 102; (refine Calls.mono (BT _).out ?_); rintro e w3 ⟨rfl, hb3⟩)
        go_ret2
        exact ⟨rfl, HB.out.trans ((((Below.refl wr.heap.size wr).alloc (Nat.le_refl _) _).trans (hb3.mono (by simp))).mono HB.out.size)⟩
      · have HV' : Hid (eqFrom (prevAt ks (k + 1)) h (ks.drop (k + 1)) = v) := Lib.hid (by rw [← HT.out, HP.out, HS.out, if_neg hle])
        clear ha hu hau hbw KO
        go_wp2
        go_roundw
        case rel =>
          refine ⟨k + 1, by omega, HV'.out, by go_num, ?_, ?_, ?_, ?_, ?_, ?_⟩
          · exact ((HB.out.setCell (p := ⟨L, 0, none⟩) hLw _).setCell (p := ⟨L, 1, none⟩) hLw _).alloc (by have := HB.out.size; simp; omega) _
          · rw [PS.out]; simp [go_sem, *]
          · rw [PS.out]; simp [go_sem, *]
          · simp [go_sem, *]
          · simp [go_sem, *]
          · simp [go_sem]; omega
        case measure => simp [intOf]; omega
    · have hk' : k = n := by omega
      have HV' : Hid (p2 = v) := Lib.hid (by rw [← HT.out, eq_end (by omega), HP.out])
      subst hk'
      go_wp2
      go_ret2
      exact ⟨ret_pair HV'.out rfl, HB.out⟩
end Go.Proofs.Ytnjbhidncicfiaa
