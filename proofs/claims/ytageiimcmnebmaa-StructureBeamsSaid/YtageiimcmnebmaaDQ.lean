/- Walks over beams: the reactions as fractions. -/
import Derived.Test.YtageiimcmnebmaaSP
import Derived.Test.YtageiimcmnebmaaRL
namespace Go.Proofs.Ytageiimcmnebmaa
open Go.RowKit

/-- Three fractions, or the error beside nothing. -/
def fr4 (e n1 n2 n3 d : Int) : Value := bif e == 0 then .tuple #[frV n1 d, frV n2 d, frV n3 d, .int .i64 0] else .tuple #[.agg #[.int .i64 0, .int .i64 0], .agg #[.int .i64 0, .int .i64 0], .agg #[.int .i64 0, .int .i64 0], .int .i64 e]
theorem fr4_ok {n1 n2 n3 d : Int} : fr4 0 n1 n2 n3 d = .tuple #[frV n1 d, frV n2 d, frV n3 d, .int .i64 0] := rfl
theorem fr4_bad {e n1 n2 n3 d : Int} (h : e ≠ 0) : fr4 e n1 n2 n3 d = .tuple #[.agg #[.int .i64 0, .int .i64 0], .agg #[.int .i64 0, .int .i64 0], .agg #[.int .i64 0, .int .i64 0], .int .i64 e] := by
  unfold fr4
  rw [show (e == 0) = false from by simpa using h]; rfl
set_option maxHeartbeats 16000000 in
set_option maxRecDepth 20000 in
theorem reactionsF_any {b : Bm} {A : Option Addr} {n c : Nat} {S : Int} {l : List Pt} (w : World) (h : PtRow w A n l) (hn : n ≤ maxLen) :
    Calls Try.prog 21 #[bmV b, buV A n c S] w fun e w' => e = .returned (fr4 (burE b l S) (frR b l S) (frQ b l S) (frM b l S) (2 * b.s)) ∧ Below w.heap.size w w' := by
  have CB := Lib.hid (fun wx (hx : Below w.heap.size w wx) => checkBurden_any (b := b) (c := c) (S := S) wx (h.below hx) hn)
  have GS := Lib.hid (fun (he : burE b l S = 0) wx (hx : Below w.heap.size w wx) => let h' := burE_ok.1 he; reactions_any (c := c) h'.1 h'.2 wx (h.below hx))
  have SP := Lib.hid (fun (he : burE b l S = 0) wx => let h' := burE_ok.1 he; parts_any b h'.1 wx)
  have BD := Lib.hid (fun (he : burE b l S = 0) => let h' := burE_ok.1 he; And.intro (by have := fr_take_bd h'.1 h'.2 l.length; rwa [List.take_length] at this : (frR b l S).natAbs ≤ 1000000000000 ∧ (frQ b l S).natAbs ≤ 1000000000000 ∧ (frM b l S).natAbs ≤ 1000000000000) (show 0 < 2 * b.s ∧ 2 * b.s ≤ 4000000000000000000 from by have := h'.1.s0; have := h'.1.s1; omega))
  clear h hn
  generalize frR b l S = r1 at *
  generalize frQ b l S = r2 at *
  generalize frM b l S = r3 at *
  generalize 2 * b.s = dd at *
  obtain ⟨s, ww, t, en⟩ := b
  unfold bmV buV frV3 at *
  simp only at CB GS SP ⊢
  generalize burE ⟨s, ww, t, en⟩ l S = ee at *
  go_enter Try.func21, Try.ntmps21
  go_upto_region 1 with fail
  obtain ⟨w0, hw0⟩ : ∃ w0, (((((w.alloc (.cells #[.int .i64 s, .int .i64 ww, .int .i64 t, .int .i64 en] 23)).alloc (.cells #[.slice A n c, .int .i64 S] 26)).alloc (.cells #[.int .i64 0, .int .i64 0] 30)).alloc (.cells #[.int .i64 0, .int .i64 0] 30)).alloc (.cells #[.int .i64 0, .int .i64 0] 30)) = w0 := ⟨_, rfl⟩
  have HB0 : Hid (Below w.heap.size w w0) := Lib.hid (by rw [← hw0]; exact ((((((Below.refl _ _).alloc (Nat.le_refl _) _).alloc (by simp; try omega) _).alloc (by simp; try omega) _).alloc (by simp; try omega) _).alloc (by simp; try omega) _))
  have HC := Lib.hid (fun wx (hb : Below w0.heap.size w0 wx) => (show wx.cell? ⟨w.heap.size, 0, none⟩ = some (.int .i64 s) ∧ wx.cell? ⟨w.heap.size, 1, none⟩ = some (.int .i64 ww) ∧ wx.cell? ⟨w.heap.size, 2, none⟩ = some (.int .i64 t) ∧ wx.cell? ⟨w.heap.size, 3, none⟩ = some (.int .i64 en) ∧ wx.cell? ⟨w.heap.size + 1, 0, none⟩ = some (.slice A n c) ∧ wx.cell? ⟨w.heap.size + 1, 1, none⟩ = some (.int .i64 S) ∧ wx.cell? ⟨w.heap.size + 2, 0, none⟩ = some (.int .i64 0) ∧ wx.cell? ⟨w.heap.size + 2, 1, none⟩ = some (.int .i64 0) ∧ wx.cell? ⟨w.heap.size + 3, 0, none⟩ = some (.int .i64 0) ∧ wx.cell? ⟨w.heap.size + 3, 1, none⟩ = some (.int .i64 0) ∧ wx.cell? ⟨w.heap.size + 4, 0, none⟩ = some (.int .i64 0) ∧ wx.cell? ⟨w.heap.size + 4, 1, none⟩ = some (.int .i64 0) ∧ wx.frozen? ⟨w.heap.size + 2, 0, none⟩ = false ∧ wx.frozen? ⟨w.heap.size + 2, 1, none⟩ = false ∧ wx.frozen? ⟨w.heap.size + 3, 0, none⟩ = false ∧ wx.frozen? ⟨w.heap.size + 3, 1, none⟩ = false ∧ wx.frozen? ⟨w.heap.size + 4, 0, none⟩ = false ∧ wx.frozen? ⟨w.heap.size + 4, 1, none⟩ = false from by
    subst hw0
    obtain ⟨k, kf⟩ := bcell hb
    exact ⟨(k _ _ (by simp; try omega)).trans (by simp [go_sem]), (k _ _ (by simp; try omega)).trans (by simp [go_sem]), (k _ _ (by simp; try omega)).trans (by simp [go_sem]), (k _ _ (by simp; try omega)).trans (by simp [go_sem]), (k _ _ (by simp; try omega)).trans (by simp [go_sem]), (k _ _ (by simp; try omega)).trans (by simp [go_sem]), (k _ _ (by simp; try omega)).trans (by simp [go_sem]), (k _ _ (by simp; try omega)).trans (by simp [go_sem]), (k _ _ (by simp; try omega)).trans (by simp [go_sem]), (k _ _ (by simp; try omega)).trans (by simp [go_sem]), (k _ _ (by simp; try omega)).trans (by simp [go_sem]), (k _ _ (by simp; try omega)).trans (by simp [go_sem]), (kf _ _ (by simp; try omega)).trans (by simp [go_sem]), (kf _ _ (by simp; try omega)).trans (by simp [go_sem]), (kf _ _ (by simp; try omega)).trans (by simp [go_sem]), (kf _ _ (by simp; try omega)).trans (by simp [go_sem]), (kf _ _ (by simp; try omega)).trans (by simp [go_sem]), (kf _ _ (by simp; try omega)).trans (by simp [go_sem])⟩))
  rw [hw0]
  clear hw0
  have HZ0 := Lib.hid (Below.refl w0.heap.size w0)
  obtain ⟨c0, c1, c2, c3, c4, c5, c6, c7, c8, c9, c10, c11, z2_0, z2_1, z3_0, z3_1, z4_0, z4_1⟩ := HC.out w0 HZ0.out
  go_upto_region 2 with (first | (go_at_call 26; (with_reducible refine Calls.mono (CB.out _ HB0.out) ?_); rintro e w5 ⟨rfl, hb5⟩) | fail)
  have HB5 := Lib.hid hb5
  clear hb5
  have HBX := Lib.hid (HB0.out.trans (HB5.out.mono HB0.out.size))
  clear c0 c1 c2 c3 c4 c5 c6 c7 c8 c9 c10 c11 z2_0 z2_1 z3_0 z3_1 z4_0 z4_1
  obtain ⟨c0, c1, c2, c3, c4, c5, c6, c7, c8, c9, c10, c11, z2_0, z2_1, z3_0, z3_1, z4_0, z4_1⟩ := HC.out w5 HB5.out
  by_cases he : ee = 0
  · subst he
    have GS2 := Lib.hid (GS.out rfl _ HBX.out)
    have SP2 := fun wx => Lib.hid (SP.out rfl wx)
    obtain ⟨⟨b1, b2, b3⟩, d1, d2⟩ := BD.out rfl
    have AD := fun nu (hu : nu.natAbs ≤ 1000000000000) => Lib.hid (fun wx A n c zs (hr : IntRow wx A n zs) (hn : n ≤ 1000) (hs : sumL id zs = nu) => added_any (c := c) (d := dd) wx hr (by unfold maxLen; omega) d1 (by omega) hs (by omega))
    have A1 := AD r1 b1
    have A2 := AD r2 b2
    have A3 := AD r3 b3
    have HN : Hid (∀ nu, frV nu dd = .agg #[.int .i64 (lowN nu dd), .int .i64 (lowD nu dd)]) := Lib.hid (fun _ => rfl)
    unfold frV at A1 A2 A3
    have HF := Lib.hid (And.intro (HN.out r1) (And.intro (HN.out r2) (HN.out r3)))
    clear HN AD b1 b2 b3 d1 d2 GS SP BD CB
    generalize lowN r1 dd = n1 at *
    generalize lowD r1 dd = e1 at *
    generalize lowN r2 dd = n2 at *
    generalize lowD r2 dd = e2 at *
    generalize lowN r3 dd = n3 at *
    generalize lowD r3 dd = e3 at *
    go_upto_region 5 with (first | (go_at_call 91; (with_reducible refine Calls.mono GS2.out ?_); rintro e w2 ⟨rfl, hb2⟩; have H2 := Lib.hid (HB5.out.trans (hb2.mono HB5.out.size)); clear hb2) | fail)
    clear c0 c1 c2 c3 c4 c5 c6 c7 c8 c9 c10 c11 z2_0 z2_1 z3_0 z3_1 z4_0 z4_1
    obtain ⟨w3, hw3⟩ : ∃ w3, w2.alloc (.cells #[.int .i64 r1, .int .i64 r2, .int .i64 r3] 151) = w3 := ⟨_, rfl⟩
    have H3 : Hid (Below w0.heap.size w0 w3) := Lib.hid (by rw [← hw3]; exact H2.out.alloc H2.out.size _)
    have u0 : w3.cell? ⟨w2.heap.size, 0, none⟩ = some (.int .i64 r1) := by rw [← hw3]; simp [go_sem]
    have u1 : w3.cell? ⟨w2.heap.size, 1, none⟩ = some (.int .i64 r2) := by rw [← hw3]; simp [go_sem]
    have u2 : w3.cell? ⟨w2.heap.size, 2, none⟩ = some (.int .i64 r3) := by rw [← hw3]; simp [go_sem]
    have l2 : w2.heap.size < w3.heap.size := World.block_lt_of_cell? w3 _ u0
    have H3W := Lib.hid (HB0.out.trans (H3.out.mono HB0.out.size))
    have HC3 := Lib.hid (fun wx (hy : Below w3.heap.size w3 wx) => let h := HC.out wx (H3.out.trans (hy.mono H3.out.size)); And.intro (h.1) (And.intro (h.2.1) (And.intro (h.2.2.1) (And.intro (h.2.2.2.1) (And.intro (h.2.2.2.2.1) (And.intro (h.2.2.2.2.2.1) (And.intro (h.2.2.2.2.2.2.1) (And.intro (h.2.2.2.2.2.2.2.1) (And.intro (h.2.2.2.2.2.2.2.2.1) (And.intro (h.2.2.2.2.2.2.2.2.2.1) (And.intro (h.2.2.2.2.2.2.2.2.2.2.1) (And.intro (h.2.2.2.2.2.2.2.2.2.2.2.1) (And.intro (h.2.2.2.2.2.2.2.2.2.2.2.2.1) (And.intro (h.2.2.2.2.2.2.2.2.2.2.2.2.2.1) (And.intro (h.2.2.2.2.2.2.2.2.2.2.2.2.2.2.1) (And.intro (h.2.2.2.2.2.2.2.2.2.2.2.2.2.2.2.1) (And.intro (h.2.2.2.2.2.2.2.2.2.2.2.2.2.2.2.2.1) (And.intro (h.2.2.2.2.2.2.2.2.2.2.2.2.2.2.2.2.2) (And.intro (((bcell hy).1 _ _ l2).trans u0) (And.intro (((bcell hy).1 _ _ l2).trans u1) (((bcell hy).1 _ _ l2).trans u2)))))))))))))))))))))
    rw [hw3]
    clear hw3 u0 u1 u2
    refine wp_region_tail [22, 23, 24, 25, 26, 27, 28, 29, 30, 31, 32, 33, 34, 35, 36, 37, 38, 39] [rEq (.agg #[.int .i64 s, .int .i64 ww, .int .i64 t, .int .i64 en]), rEq (.int .i64 dd), rEq (.pointer (some ⟨w2.heap.size, 0, none⟩)), rEq (.int .i64 r1), rRow [r1] 1, rEq (.agg #[.int .i64 n1, .int .i64 e1]), rEq (.agg #[.int .i64 s, .int .i64 ww, .int .i64 t, .int .i64 en]), rEq (.int .i64 dd), rEq (.pointer (some ⟨w2.heap.size, 1, none⟩)), rEq (.int .i64 r2), rRow [r2] 1, rEq (.agg #[.int .i64 n2, .int .i64 e2]), rEq (.agg #[.int .i64 s, .int .i64 ww, .int .i64 t, .int .i64 en]), rEq (.int .i64 dd), rEq (.pointer (some ⟨w2.heap.size, 2, none⟩)), rEq (.int .i64 r3), rRow [r3] 1, rEq (.agg #[.int .i64 n3, .int .i64 e3])] (by kernel_rfl) (by kernel_rfl) (by decide) (by decide +kernel) ⟨?_, ?_, ?_, ?_, ?_, ?_, ?_, ?_, ?_, ?_, ?_, ?_, ?_, ?_, ?_, ?_, ?_, ?_, trivial⟩ ?_
    · intro ac wx hf hb hd -- 0
      have f2 : ac.tmps[2]?.getD undef = .pointer (some ⟨w.heap.size, 0, none⟩) := by rw [← Array.getD_eq_getD_getElem?]; exact hf.same 2 (by decide)
      obtain ⟨c0, c1, c2, c3, c4, c5, c6, c7, c8, c9, c10, c11, z2_0, z2_1, z3_0, z3_1, z4_0, z4_1, ka, kb, kc⟩ := HC3.out wx hb
      exact rstep_eq (by simp [execOp, Act.eval, f2, c0, c1, c2, c3, go_sem]) rfl
    · intro ac wx hf hb hd -- 1
      have d0 : ac.tmps[22]?.getD undef = .agg #[.int .i64 s, .int .i64 ww, .int .i64 t, .int .i64 en] := by rw [← Array.getD_eq_getD_getElem?]; exact hd 0 (by decide)
      refine rstep_call (f := 93) (args := #[.agg #[.int .i64 s, .int .i64 ww, .int .i64 t, .int .i64 en]]) (by simp [Act.eval, d0, go_sem]) ?_ rfl
      exact (SP2 wx).out
    · intro ac wx hf hb hd -- 2
      have f9 : ac.tmps[9]?.getD undef = .pointer (some ⟨w2.heap.size, 0, none⟩) := by rw [← Array.getD_eq_getD_getElem?]; exact hf.same 9 (by decide)
      exact rstep_eq (by simp [execOp, Act.eval, f9, go_sem]) rfl
    · intro ac wx hf hb hd -- 3
      have d2 : ac.tmps[24]?.getD undef = .pointer (some ⟨w2.heap.size, 0, none⟩) := by rw [← Array.getD_eq_getD_getElem?]; exact hd 2 (by decide)
      obtain ⟨c0, c1, c2, c3, c4, c5, c6, c7, c8, c9, c10, c11, z2_0, z2_1, z3_0, z3_1, z4_0, z4_1, ka, kb, kc⟩ := HC3.out wx hb
      exact rstep_eq (by simp [execOp, Act.eval, d2, ka, go_sem]) rfl
    · intro ac wx hf hb hd -- 4
      have d3 : ac.tmps[25]?.getD undef = .int .i64 r1 := by rw [← Array.getD_eq_getD_getElem?]; exact hd 3 (by decide)
      exact rstep_row (t := 3) (zs := [r1]) rfl rfl (by simp [execOp, Act.eval, d3, go_sem]) rfl
    · intro ac wx hf hb hd -- 5
      have d1 : ac.tmps[23]?.getD undef = .int .i64 dd := by rw [← Array.getD_eq_getD_getElem?]; exact hd 1 (by decide)
      obtain ⟨b4, d4, r4⟩ : ∃ b, ac.tmps[26]?.getD undef = .slice (some ⟨b, 0, none⟩) 1 1 ∧ IntRow wx (some ⟨b, 0, none⟩) 1 [r1] := by rw [← Array.getD_eq_getD_getElem?]; exact hd 4 (by decide)
      refine rstep_call (f := 92) (args := #[.int .i64 dd, .slice (some ⟨b4, 0, none⟩) 1 1]) (by simp [Act.eval, d1, d4, go_sem]) ?_ rfl
      exact A1.out wx _ _ _ [r1] r4 (by decide) (by simp [sumL])
    · intro ac wx hf hb hd -- 6
      have f2 : ac.tmps[2]?.getD undef = .pointer (some ⟨w.heap.size, 0, none⟩) := by rw [← Array.getD_eq_getD_getElem?]; exact hf.same 2 (by decide)
      obtain ⟨c0, c1, c2, c3, c4, c5, c6, c7, c8, c9, c10, c11, z2_0, z2_1, z3_0, z3_1, z4_0, z4_1, ka, kb, kc⟩ := HC3.out wx hb
      exact rstep_eq (by simp [execOp, Act.eval, f2, c0, c1, c2, c3, go_sem]) rfl
    · intro ac wx hf hb hd -- 7
      have d6 : ac.tmps[28]?.getD undef = .agg #[.int .i64 s, .int .i64 ww, .int .i64 t, .int .i64 en] := by rw [← Array.getD_eq_getD_getElem?]; exact hd 6 (by decide)
      refine rstep_call (f := 93) (args := #[.agg #[.int .i64 s, .int .i64 ww, .int .i64 t, .int .i64 en]]) (by simp [Act.eval, d6, go_sem]) ?_ rfl
      exact (SP2 wx).out
    · intro ac wx hf hb hd -- 8
      have f9 : ac.tmps[9]?.getD undef = .pointer (some ⟨w2.heap.size, 0, none⟩) := by rw [← Array.getD_eq_getD_getElem?]; exact hf.same 9 (by decide)
      exact rstep_eq (by simp [execOp, Act.eval, f9, go_sem]) rfl
    · intro ac wx hf hb hd -- 9
      have d8 : ac.tmps[30]?.getD undef = .pointer (some ⟨w2.heap.size, 1, none⟩) := by rw [← Array.getD_eq_getD_getElem?]; exact hd 8 (by decide)
      obtain ⟨c0, c1, c2, c3, c4, c5, c6, c7, c8, c9, c10, c11, z2_0, z2_1, z3_0, z3_1, z4_0, z4_1, ka, kb, kc⟩ := HC3.out wx hb
      exact rstep_eq (by simp [execOp, Act.eval, d8, kb, go_sem]) rfl
    · intro ac wx hf hb hd -- 10
      have d9 : ac.tmps[31]?.getD undef = .int .i64 r2 := by rw [← Array.getD_eq_getD_getElem?]; exact hd 9 (by decide)
      exact rstep_row (t := 3) (zs := [r2]) rfl rfl (by simp [execOp, Act.eval, d9, go_sem]) rfl
    · intro ac wx hf hb hd -- 11
      have d7 : ac.tmps[29]?.getD undef = .int .i64 dd := by rw [← Array.getD_eq_getD_getElem?]; exact hd 7 (by decide)
      obtain ⟨b10, d10, r10⟩ : ∃ b, ac.tmps[32]?.getD undef = .slice (some ⟨b, 0, none⟩) 1 1 ∧ IntRow wx (some ⟨b, 0, none⟩) 1 [r2] := by rw [← Array.getD_eq_getD_getElem?]; exact hd 10 (by decide)
      refine rstep_call (f := 92) (args := #[.int .i64 dd, .slice (some ⟨b10, 0, none⟩) 1 1]) (by simp [Act.eval, d7, d10, go_sem]) ?_ rfl
      exact A2.out wx _ _ _ [r2] r10 (by decide) (by simp [sumL])
    · intro ac wx hf hb hd -- 12
      have f2 : ac.tmps[2]?.getD undef = .pointer (some ⟨w.heap.size, 0, none⟩) := by rw [← Array.getD_eq_getD_getElem?]; exact hf.same 2 (by decide)
      obtain ⟨c0, c1, c2, c3, c4, c5, c6, c7, c8, c9, c10, c11, z2_0, z2_1, z3_0, z3_1, z4_0, z4_1, ka, kb, kc⟩ := HC3.out wx hb
      exact rstep_eq (by simp [execOp, Act.eval, f2, c0, c1, c2, c3, go_sem]) rfl
    · intro ac wx hf hb hd -- 13
      have d12 : ac.tmps[34]?.getD undef = .agg #[.int .i64 s, .int .i64 ww, .int .i64 t, .int .i64 en] := by rw [← Array.getD_eq_getD_getElem?]; exact hd 12 (by decide)
      refine rstep_call (f := 93) (args := #[.agg #[.int .i64 s, .int .i64 ww, .int .i64 t, .int .i64 en]]) (by simp [Act.eval, d12, go_sem]) ?_ rfl
      exact (SP2 wx).out
    · intro ac wx hf hb hd -- 14
      have f9 : ac.tmps[9]?.getD undef = .pointer (some ⟨w2.heap.size, 0, none⟩) := by rw [← Array.getD_eq_getD_getElem?]; exact hf.same 9 (by decide)
      exact rstep_eq (by simp [execOp, Act.eval, f9, go_sem]) rfl
    · intro ac wx hf hb hd -- 15
      have d14 : ac.tmps[36]?.getD undef = .pointer (some ⟨w2.heap.size, 2, none⟩) := by rw [← Array.getD_eq_getD_getElem?]; exact hd 14 (by decide)
      obtain ⟨c0, c1, c2, c3, c4, c5, c6, c7, c8, c9, c10, c11, z2_0, z2_1, z3_0, z3_1, z4_0, z4_1, ka, kb, kc⟩ := HC3.out wx hb
      exact rstep_eq (by simp [execOp, Act.eval, d14, kc, go_sem]) rfl
    · intro ac wx hf hb hd -- 16
      have d15 : ac.tmps[37]?.getD undef = .int .i64 r3 := by rw [← Array.getD_eq_getD_getElem?]; exact hd 15 (by decide)
      exact rstep_row (t := 3) (zs := [r3]) rfl rfl (by simp [execOp, Act.eval, d15, go_sem]) rfl
    · intro ac wx hf hb hd -- 17
      have d13 : ac.tmps[35]?.getD undef = .int .i64 dd := by rw [← Array.getD_eq_getD_getElem?]; exact hd 13 (by decide)
      obtain ⟨b16, d16, r16⟩ : ∃ b, ac.tmps[38]?.getD undef = .slice (some ⟨b, 0, none⟩) 1 1 ∧ IntRow wx (some ⟨b, 0, none⟩) 1 [r3] := by rw [← Array.getD_eq_getD_getElem?]; exact hd 16 (by decide)
      refine rstep_call (f := 92) (args := #[.int .i64 dd, .slice (some ⟨b16, 0, none⟩) 1 1]) (by simp [Act.eval, d13, d16, go_sem]) ?_ rfl
      exact A3.out wx _ _ _ [r3] r16 (by decide) (by simp [sumL])
    rintro ⟨⟨ll⟩, df⟩ w4 hf hbw4 hall
    have hdf : df = [] := hf.defers
    subst hdf
    have hsz : ll.length = 40 := hf.size
    obtain ⟨x0, ll0, rfl, hsz0⟩ := cons_of hsz
    obtain ⟨x1, ll1, rfl, hsz1⟩ := cons_of hsz0
    obtain ⟨x2, ll2, rfl, hsz2⟩ := cons_of hsz1
    obtain ⟨x3, ll3, rfl, hsz3⟩ := cons_of hsz2
    obtain ⟨x4, ll4, rfl, hsz4⟩ := cons_of hsz3
    obtain ⟨x5, ll5, rfl, hsz5⟩ := cons_of hsz4
    obtain ⟨x6, ll6, rfl, hsz6⟩ := cons_of hsz5
    obtain ⟨x7, ll7, rfl, hsz7⟩ := cons_of hsz6
    obtain ⟨x8, ll8, rfl, hsz8⟩ := cons_of hsz7
    obtain ⟨x9, ll9, rfl, hsz9⟩ := cons_of hsz8
    obtain ⟨x10, ll10, rfl, hsz10⟩ := cons_of hsz9
    obtain ⟨x11, ll11, rfl, hsz11⟩ := cons_of hsz10
    obtain ⟨x12, ll12, rfl, hsz12⟩ := cons_of hsz11
    obtain ⟨x13, ll13, rfl, hsz13⟩ := cons_of hsz12
    obtain ⟨x14, ll14, rfl, hsz14⟩ := cons_of hsz13
    obtain ⟨x15, ll15, rfl, hsz15⟩ := cons_of hsz14
    obtain ⟨x16, ll16, rfl, hsz16⟩ := cons_of hsz15
    obtain ⟨x17, ll17, rfl, hsz17⟩ := cons_of hsz16
    obtain ⟨x18, ll18, rfl, hsz18⟩ := cons_of hsz17
    obtain ⟨x19, ll19, rfl, hsz19⟩ := cons_of hsz18
    obtain ⟨x20, ll20, rfl, hsz20⟩ := cons_of hsz19
    obtain ⟨x21, ll21, rfl, hsz21⟩ := cons_of hsz20
    obtain ⟨x22, ll22, rfl, hsz22⟩ := cons_of hsz21
    obtain ⟨x23, ll23, rfl, hsz23⟩ := cons_of hsz22
    obtain ⟨x24, ll24, rfl, hsz24⟩ := cons_of hsz23
    obtain ⟨x25, ll25, rfl, hsz25⟩ := cons_of hsz24
    obtain ⟨x26, ll26, rfl, hsz26⟩ := cons_of hsz25
    obtain ⟨x27, ll27, rfl, hsz27⟩ := cons_of hsz26
    obtain ⟨x28, ll28, rfl, hsz28⟩ := cons_of hsz27
    obtain ⟨x29, ll29, rfl, hsz29⟩ := cons_of hsz28
    obtain ⟨x30, ll30, rfl, hsz30⟩ := cons_of hsz29
    obtain ⟨x31, ll31, rfl, hsz31⟩ := cons_of hsz30
    obtain ⟨x32, ll32, rfl, hsz32⟩ := cons_of hsz31
    obtain ⟨x33, ll33, rfl, hsz33⟩ := cons_of hsz32
    obtain ⟨x34, ll34, rfl, hsz34⟩ := cons_of hsz33
    obtain ⟨x35, ll35, rfl, hsz35⟩ := cons_of hsz34
    obtain ⟨x36, ll36, rfl, hsz36⟩ := cons_of hsz35
    obtain ⟨x37, ll37, rfl, hsz37⟩ := cons_of hsz36
    obtain ⟨x38, ll38, rfl, hsz38⟩ := cons_of hsz37
    obtain ⟨x39, ll39, rfl, hsz39⟩ := cons_of hsz38
    obtain rfl := List.eq_nil_of_length_eq_zero hsz39
    obtain rfl : x2 = .pointer (some ⟨w.heap.size, 0, none⟩) := hf.same 2 (by decide)
    obtain rfl : x3 = .pointer (some ⟨w.heap.size + 1, 0, none⟩) := hf.same 3 (by decide)
    obtain rfl : x4 = .pointer (some ⟨w.heap.size + 2, 0, none⟩) := hf.same 4 (by decide)
    obtain rfl : x5 = .pointer (some ⟨w.heap.size + 3, 0, none⟩) := hf.same 5 (by decide)
    obtain rfl : x6 = .pointer (some ⟨w.heap.size + 4, 0, none⟩) := hf.same 6 (by decide)
    obtain rfl : x7 = .int .i64 0 := hf.same 7 (by decide)
    obtain rfl : x8 = .int .i64 0 := hf.same 8 (by decide)
    obtain rfl : x9 = .pointer (some ⟨w2.heap.size, 0, none⟩) := hf.same 9 (by decide)
    obtain rfl : x22 = .agg #[.int .i64 s, .int .i64 ww, .int .i64 t, .int .i64 en] := hall 0 22 rfl
    obtain rfl : x23 = .int .i64 dd := hall 1 23 rfl
    obtain rfl : x24 = .pointer (some ⟨w2.heap.size, 0, none⟩) := hall 2 24 rfl
    obtain rfl : x25 = .int .i64 r1 := hall 3 25 rfl
    obtain rfl : x27 = .agg #[.int .i64 n1, .int .i64 e1] := hall 5 27 rfl
    obtain rfl : x28 = .agg #[.int .i64 s, .int .i64 ww, .int .i64 t, .int .i64 en] := hall 6 28 rfl
    obtain rfl : x29 = .int .i64 dd := hall 7 29 rfl
    obtain rfl : x30 = .pointer (some ⟨w2.heap.size, 1, none⟩) := hall 8 30 rfl
    obtain rfl : x31 = .int .i64 r2 := hall 9 31 rfl
    obtain rfl : x33 = .agg #[.int .i64 n2, .int .i64 e2] := hall 11 33 rfl
    obtain rfl : x34 = .agg #[.int .i64 s, .int .i64 ww, .int .i64 t, .int .i64 en] := hall 12 34 rfl
    obtain rfl : x35 = .int .i64 dd := hall 13 35 rfl
    obtain rfl : x36 = .pointer (some ⟨w2.heap.size, 2, none⟩) := hall 14 36 rfl
    obtain rfl : x37 = .int .i64 r3 := hall 15 37 rfl
    obtain rfl : x39 = .agg #[.int .i64 n3, .int .i64 e3] := hall 17 39 rfl
    clear hall hf
    obtain ⟨c0, c1, c2, c3, c4, c5, c6, c7, c8, c9, c10, c11, z2_0, z2_1, z3_0, z3_1, z4_0, z4_1, -, -, -⟩ := HC3.out w4 hbw4
    simp [wpSeq_cons, wpSeq_nil, Oper.wp, Oper.upon, execOp, Act.eval, go_sem, c6, c7, c8, c9, c10, c11, z2_0, z2_1, z3_0, z3_1, z4_0, z4_1]
    go_wp2
    refine bodyPost_ret (v := .tuple #[.agg #[.int .i64 n1, .int .i64 e1], .agg #[.int .i64 n2, .int .i64 e2], .agg #[.int .i64 n3, .int .i64 e3], .int .i64 0]) (by simp [results, Try.results21, go_sem, c6, c7, c8, c9, c10, c11]) rfl ⟨by rw [fr4_ok, HF.out.1, HF.out.2.1, HF.out.2.2], ?_⟩
    exact (((((((H3W.out.trans (hbw4.mono H3W.out.size)).setCell (p := ⟨w.heap.size + 2, 0, none⟩) (by simp) _).setCell (p := ⟨w.heap.size + 2, 1, none⟩) (by simp) _).setCell (p := ⟨w.heap.size + 3, 0, none⟩) (by simp) _).setCell (p := ⟨w.heap.size + 3, 1, none⟩) (by simp) _).setCell (p := ⟨w.heap.size + 4, 0, none⟩) (by simp) _).setCell (p := ⟨w.heap.size + 4, 1, none⟩) (by simp) _)
  · have e1' : (ee == 0) = false := by simpa using he
    have e2' : (ee != 0) = true := by simpa using he
    go_wp2
    refine bodyPost_ret (v := .tuple #[.agg #[.int .i64 0, .int .i64 0], .agg #[.int .i64 0, .int .i64 0], .agg #[.int .i64 0, .int .i64 0], .int .i64 ee]) (by simp [results, Try.results21, go_sem, c6, c7, c8, c9, c10, c11]) rfl ⟨by rw [fr4_bad he], ?_⟩
    exact ((((((HBX.out.setCell (p := ⟨w.heap.size + 2, 0, none⟩) (by simp) _).setCell (p := ⟨w.heap.size + 2, 1, none⟩) (by simp) _).setCell (p := ⟨w.heap.size + 3, 0, none⟩) (by simp) _).setCell (p := ⟨w.heap.size + 3, 1, none⟩) (by simp) _).setCell (p := ⟨w.heap.size + 4, 0, none⟩) (by simp) _).setCell (p := ⟨w.heap.size + 4, 1, none⟩) (by simp) _)
end Go.Proofs.Ytageiimcmnebmaa
