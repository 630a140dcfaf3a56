/- Walks over beams: stress. -/
import Derived.Test.YtablphoicidlkaaSM
namespace Go.Proofs.Ytablphoicidlkaa
open Go.RowKit

/-- The stress, as a fraction that is not in lowest terms. -/
def strN (b : Bm) (l : List Pt) (S : Int) : Int := 6 * absI (gM b l S).2
def strD (b : Bm) : Int := 2 * b.s * b.w * b.t * b.t
theorem gM_bd {b : Bm} {l : List Pt} {S : Int} (hb : BmOk b) (hl : WtOk b.s l S) : (gM b l S).1 ≤ b.s.toNat + 1 ∧ (gM b l S).2.natAbs ≤ 10000000000000000 := by
  have := grP_bd (g := fun k : Nat => mom b l S k) (B := 10000000000000000) (N := b.s.toNat + 1) (fun k hk => (mom_bds hb hl (by omega) (by have := hb.s0; omega)).2.2) (n := b.s.toNat + 1) (Nat.le_refl _)
  exact this
theorem strD_bd {b : Bm} (hb : BmOk b) : 0 < strD b ∧ strD b ≤ 1000000000000 := by
  have E1 : Ev b.s b.s 2000 := .of (by have := hb.s0; have := hb.s1; omega)
  have E2 : Ev b.w b.w 1000 := .of (by have := hb.w0; have := hb.w1; omega)
  have E3 : Ev b.t b.t 300 := .of (by have := hb.t0; have := hb.t1; omega)
  have h := ev_bd (M := 1000000000000) (Ev.mul (Ev.mul (Ev.mul (Ev.mul (Ev.lit 2) E1) E2) E3) E3) (by decide +kernel)
  have hp : 0 < strD b := Int.mul_pos (Int.mul_pos (Int.mul_pos (by have := hb.s0; omega) (by have := hb.w0; omega)) (by have := hb.t0; omega)) (by have := hb.t0; omega)
  unfold strD at *
  omega
theorem i64w {x : Int} (h : wrap64 x = x) : IntKind.i64.wrap x = x := by rw [IntKind.wrap_i64]; unfold wrap64 at h; exact h
set_option maxHeartbeats 4000000 in
set_option maxRecDepth 20000 in
theorem stress_any {b : Bm} {A : Option Addr} {n c : Nat} {S : Int} {l : List Pt} (hb : BmOk b) (hl : WtOk b.s l S) (w : World) (h : PtRow w A n l) :
    Calls Try.prog 103 #[bmV b, buV A n c S] w fun e w' => e = .returned (frV (strN b l S) (strD b)) ∧ Below w.heap.size w w' := by
  have HR := Lib.hid h
  have GM := Lib.hid (fun wx (hx : Below w.heap.size w wx) => greatestMoment_any (c := c) hb hl wx (h.below hx))
  have PA := fun wx => Lib.hid (parts_any b hb wx)
  obtain ⟨g1, g2⟩ := gM_bd hb hl
  obtain ⟨d1, d2⟩ := strD_bd hb
  unfold strN
  obtain ⟨pp, hpp⟩ : ∃ x, (gM b l S).1 = x := ⟨_, rfl⟩
  obtain ⟨mm, hmm⟩ : ∃ x, (gM b l S).2 = x := ⟨_, rfl⟩
  rw [hpp] at GM
  rw [hmm] at GM g2 ⊢
  clear hpp hmm h g1
  have AB := fun wx => Lib.hid (abs_any (n := mm) (by omega) (by omega) wx)
  have ha : 0 ≤ absI mm ∧ absI mm ≤ 10000000000000000 := by unfold absI; omega
  have hmn : (6 * absI mm).natAbs ≤ 9223372036854775807 := by omega
  obtain ⟨s, ww, t, en⟩ := b
  have s0 := hb.s0; have s1 := hb.s1; have w0 := hb.w0; have w1 := hb.w1; have t0 := hb.t0; have t1 := hb.t1
  unfold strD at *
  simp only at s0 s1 w0 w1 t0 t1 d1 d2 PA ⊢
  have E1 : Ev s s 2000 := .of (by omega)
  have E2 : Ev ww ww 1000 := .of (by omega)
  have E3 : Ev t t 300 := .of (by omega)
  have q1 : wrap64 (2 * s * ww) = 2 * s * ww := by (apply Ev.e; repeat' (first | with_reducible assumption | with_reducible apply Ev.wrap | with_reducible apply Ev.mul | with_reducible apply Ev.add | with_reducible apply Ev.sub | with_reducible apply Ev.neg | exact Ev.lit _ | (decide +kernel)))
  have q2 : wrap64 (2 * s * ww * t) = 2 * s * ww * t := by (apply Ev.e; repeat' (first | with_reducible assumption | with_reducible apply Ev.wrap | with_reducible apply Ev.mul | with_reducible apply Ev.add | with_reducible apply Ev.sub | with_reducible apply Ev.neg | exact Ev.lit _ | (decide +kernel)))
  have q3 : wrap64 (2 * s * ww * t * t) = 2 * s * ww * t * t := by (apply Ev.e; repeat' (first | with_reducible assumption | with_reducible apply Ev.wrap | with_reducible apply Ev.mul | with_reducible apply Ev.add | with_reducible apply Ev.sub | with_reducible apply Ev.neg | exact Ev.lit _ | (decide +kernel)))
  clear E1 E2 E3 hb hl g2
  unfold bmV buV at *
  simp only at GM PA ⊢
  generalize absI mm = am at *
  have hw6 : wrap64 (6 * am) = 6 * am := w64 (by omega)
  obtain ⟨dd, hdd⟩ : ∃ dd, 2 * s * ww * t * t = dd := ⟨_, rfl⟩
  have p1 : IntKind.i64.wrap (2 * s * ww) = 2 * s * ww := i64w q1
  have p2 : IntKind.i64.wrap (2 * s * ww * t) = 2 * s * ww * t := i64w q2
  have p3 : IntKind.i64.wrap (2 * s * ww * t * t) = dd := by rw [← hdd]; exact i64w q3
  have p4 : IntKind.i64.wrap (6 * am) = 6 * am := i64w hw6
  rw [hdd] at d1 d2 ⊢
  clear hdd q1 q2 q3 hw6
  have AD := Lib.hid (fun wx A n c zs (hr : IntRow wx A n zs) (hn : n ≤ 1000) (hs : sumL id zs = 6 * am) => added_any (c := c) wx hr (by unfold maxLen; omega) d1 (by omega) hs hmn)
  have hB0 : Hid (Below w.heap.size w (((w.alloc (.cells #[.int .i64 s, .int .i64 ww, .int .i64 t, .int .i64 en] 23)).alloc (.cells #[.slice A n c, .int .i64 S] 26)).alloc (.cells #[.int .i64 0, .int .i64 0] 30))) := Lib.hid ((((Below.refl _ _).alloc (Nat.le_refl _) _).alloc (by simp) _).alloc (by simp; try omega) _)
  unfold frV at *
  generalize lowN (6 * am) dd = nn at *
  generalize lowD (6 * am) dd = de at *
  go_enter Try.func103, Try.ntmps103
  go_upto_region 2 with (go_at_call 102; (refine Calls.mono (GM.out _ hB0.out) ?_); rintro e w1 ⟨rfl, hb1⟩)
  have hz1 := hb1.size
  simp at hz1
  have HB1 : Hid (Below w.heap.size w w1) := Lib.hid (((((Below.refl _ _).alloc (Nat.le_refl _) _).alloc (by simp; try omega) _).alloc (by simp; try omega) _).trans (hb1.mono (by simp; try omega)))
  have HC := Lib.hid (fun wx (hb : Below w1.heap.size w1 wx) => (show wx.cell? ⟨w.heap.size, 0, none⟩ = some (.int .i64 s) ∧ wx.cell? ⟨w.heap.size, 1, none⟩ = some (.int .i64 ww) ∧ wx.cell? ⟨w.heap.size, 2, none⟩ = some (.int .i64 t) ∧ wx.cell? ⟨w.heap.size, 3, none⟩ = some (.int .i64 en) ∧ wx.cell? ⟨w.heap.size + 1, 0, none⟩ = some (.slice A n c) ∧ wx.cell? ⟨w.heap.size + 1, 1, none⟩ = some (.int .i64 S) ∧ wx.cell? ⟨w.heap.size + 2, 0, none⟩ = some (.int .i64 0) ∧ wx.cell? ⟨w.heap.size + 2, 1, none⟩ = some (.int .i64 0) ∧ wx.frozen? ⟨w.heap.size + 2, 0, none⟩ = false ∧ wx.frozen? ⟨w.heap.size + 2, 1, none⟩ = false from by
    obtain ⟨k, kf⟩ := bcell hb
    obtain ⟨k1, kf1⟩ := bcell hb1
    exact ⟨(k _ _ (by omega)).trans ((k1 _ _ (by simp; try omega)).trans (by simp [go_sem])), (k _ _ (by omega)).trans ((k1 _ _ (by simp; try omega)).trans (by simp [go_sem])), (k _ _ (by omega)).trans ((k1 _ _ (by simp; try omega)).trans (by simp [go_sem])), (k _ _ (by omega)).trans ((k1 _ _ (by simp; try omega)).trans (by simp [go_sem])), (k _ _ (by omega)).trans ((k1 _ _ (by simp; try omega)).trans (by simp [go_sem])), (k _ _ (by omega)).trans ((k1 _ _ (by simp; try omega)).trans (by simp [go_sem])), (k _ _ (by omega)).trans ((k1 _ _ (by simp; try omega)).trans (by simp [go_sem])), (k _ _ (by omega)).trans ((k1 _ _ (by simp; try omega)).trans (by simp [go_sem])), (kf _ _ (by omega)).trans ((kf1 _ _ (by simp; try omega)).trans (by simp [go_sem])), (kf _ _ (by omega)).trans ((kf1 _ _ (by simp; try omega)).trans (by simp [go_sem]))⟩))
  clear hb1
  refine wp_region_rkt [13, 14, 15, 16, 17, 18, 19, 20, 21, 22, 23, 24, 25, 26, 27, 28] [rEq (.agg #[.int .i64 s, .int .i64 ww, .int .i64 t, .int .i64 en]), rEq (.int .i64 (2 * s)), rEq (.pointer (some ⟨w.heap.size, 1, none⟩)), rEq (.int .i64 ww), rEq (.int .i64 (2 * s * ww)), rEq (.pointer (some ⟨w.heap.size, 2, none⟩)), rEq (.int .i64 t), rEq (.int .i64 (2 * s * ww * t)), rEq (.pointer (some ⟨w.heap.size, 2, none⟩)), rEq (.int .i64 t), rEq (.int .i64 dd), rEq (.int .i64 mm), rEq (.int .i64 am), rEq (.int .i64 (6 * am)), rRow [(6 * am)] 1, rEq (.agg #[.int .i64 nn, .int .i64 de])] (by kernel_rfl) (by kernel_rfl) (by decide) rfl ⟨?_, ?_, ?_, ?_, ?_, ?_, ?_, ?_, ?_, ?_, ?_, ?_, ?_, ?_, ?_, ?_, trivial⟩ ?_
  · intro ac wx hf hb hd -- 0
    have f2 : ac.tmps[2]?.getD undef = .pointer (some ⟨w.heap.size, 0, none⟩) := by rw [← Array.getD_eq_getD_getElem?]; exact hf.same 2 (by decide)
    obtain ⟨c0, c1, c2, c3, c4, c5, c6, c7, z2_0, z2_1⟩ := HC.out wx hb
    exact rstep_eq (by simp [execOp, Act.eval, f2, c0, c1, c2, c3, go_sem]) rfl
  · intro ac wx hf hb hd -- 1
    have d0 : ac.tmps[13]?.getD undef = .agg #[.int .i64 s, .int .i64 ww, .int .i64 t, .int .i64 en] := by rw [← Array.getD_eq_getD_getElem?]; exact hd 0 (by decide)
    refine rstep_call (f := 93) (args := #[.agg #[.int .i64 s, .int .i64 ww, .int .i64 t, .int .i64 en]]) (by simp [Act.eval, d0, go_sem]) ?_ rfl
    exact (PA wx).out
  · intro ac wx hf hb hd -- 2
    have f2 : ac.tmps[2]?.getD undef = .pointer (some ⟨w.heap.size, 0, none⟩) := by rw [← Array.getD_eq_getD_getElem?]; exact hf.same 2 (by decide)
    exact rstep_eq (by simp [execOp, Act.eval, f2, go_sem]) rfl
  · intro ac wx hf hb hd -- 3
    have d2 : ac.tmps[15]?.getD undef = .pointer (some ⟨w.heap.size, 1, none⟩) := by rw [← Array.getD_eq_getD_getElem?]; exact hd 2 (by decide)
    obtain ⟨c0, c1, c2, c3, c4, c5, c6, c7, z2_0, z2_1⟩ := HC.out wx hb
    exact rstep_eq (by simp [execOp, Act.eval, d2, c1, go_sem]) rfl
  · intro ac wx hf hb hd -- 4
    have d1 : ac.tmps[14]?.getD undef = .int .i64 (2 * s) := by rw [← Array.getD_eq_getD_getElem?]; exact hd 1 (by decide)
    have d3 : ac.tmps[16]?.getD undef = .int .i64 ww := by rw [← Array.getD_eq_getD_getElem?]; exact hd 3 (by decide)
    exact rstep_eq (by simp [execOp, Act.eval, d1, d3, p1, go_sem]) rfl
  · intro ac wx hf hb hd -- 5
    have f2 : ac.tmps[2]?.getD undef = .pointer (some ⟨w.heap.size, 0, none⟩) := by rw [← Array.getD_eq_getD_getElem?]; exact hf.same 2 (by decide)
    exact rstep_eq (by simp [execOp, Act.eval, f2, go_sem]) rfl
  · intro ac wx hf hb hd -- 6
    have d5 : ac.tmps[18]?.getD undef = .pointer (some ⟨w.heap.size, 2, none⟩) := by rw [← Array.getD_eq_getD_getElem?]; exact hd 5 (by decide)
    obtain ⟨c0, c1, c2, c3, c4, c5, c6, c7, z2_0, z2_1⟩ := HC.out wx hb
    exact rstep_eq (by simp [execOp, Act.eval, d5, c2, go_sem]) rfl
  · intro ac wx hf hb hd -- 7
    have d4 : ac.tmps[17]?.getD undef = .int .i64 (2 * s * ww) := by rw [← Array.getD_eq_getD_getElem?]; exact hd 4 (by decide)
    have d6 : ac.tmps[19]?.getD undef = .int .i64 t := by rw [← Array.getD_eq_getD_getElem?]; exact hd 6 (by decide)
    exact rstep_eq (by simp [execOp, Act.eval, d4, d6, p2, go_sem]) rfl
  · intro ac wx hf hb hd -- 8
    have f2 : ac.tmps[2]?.getD undef = .pointer (some ⟨w.heap.size, 0, none⟩) := by rw [← Array.getD_eq_getD_getElem?]; exact hf.same 2 (by decide)
    exact rstep_eq (by simp [execOp, Act.eval, f2, go_sem]) rfl
  · intro ac wx hf hb hd -- 9
    have d8 : ac.tmps[21]?.getD undef = .pointer (some ⟨w.heap.size, 2, none⟩) := by rw [← Array.getD_eq_getD_getElem?]; exact hd 8 (by decide)
    obtain ⟨c0, c1, c2, c3, c4, c5, c6, c7, z2_0, z2_1⟩ := HC.out wx hb
    exact rstep_eq (by simp [execOp, Act.eval, d8, c2, go_sem]) rfl
  · intro ac wx hf hb hd -- 10
    have d7 : ac.tmps[20]?.getD undef = .int .i64 (2 * s * ww * t) := by rw [← Array.getD_eq_getD_getElem?]; exact hd 7 (by decide)
    have d9 : ac.tmps[22]?.getD undef = .int .i64 t := by rw [← Array.getD_eq_getD_getElem?]; exact hd 9 (by decide)
    exact rstep_eq (by simp [execOp, Act.eval, d7, d9, p3, go_sem]) rfl
  · intro ac wx hf hb hd -- 11
    have f6 : ac.tmps[6]?.getD undef = .int .i64 mm := by rw [← Array.getD_eq_getD_getElem?]; exact hf.same 6 (by decide)
    exact rstep_eq (by simp [execOp, Act.eval, f6, go_sem]) rfl
  · intro ac wx hf hb hd -- 12
    have d11 : ac.tmps[24]?.getD undef = .int .i64 mm := by rw [← Array.getD_eq_getD_getElem?]; exact hd 11 (by decide)
    refine rstep_call (f := 144) (args := #[.int .i64 mm]) (by simp [Act.eval, d11, go_sem]) ?_ rfl
    exact (AB wx).out.mono fun e w' ⟨he, hw⟩ => ⟨he, hw ▸ Below.refl _ _⟩
  · intro ac wx hf hb hd -- 13
    have d12 : ac.tmps[25]?.getD undef = .int .i64 am := by rw [← Array.getD_eq_getD_getElem?]; exact hd 12 (by decide)
    exact rstep_eq (by simp [execOp, Act.eval, d12, p4, go_sem]) rfl
  · intro ac wx hf hb hd -- 14
    have d13 : ac.tmps[26]?.getD undef = .int .i64 (6 * am) := by rw [← Array.getD_eq_getD_getElem?]; exact hd 13 (by decide)
    exact rstep_row (t := 3) (zs := [(6 * am)]) rfl rfl (by simp [execOp, Act.eval, d13, go_sem]) rfl
  · intro ac wx hf hb hd -- 15
    have d10 : ac.tmps[23]?.getD undef = .int .i64 dd := by rw [← Array.getD_eq_getD_getElem?]; exact hd 10 (by decide)
    obtain ⟨b14, d14, r14⟩ : ∃ b, ac.tmps[27]?.getD undef = .slice (some ⟨b, 0, none⟩) 1 1 ∧ IntRow wx (some ⟨b, 0, none⟩) 1 [(6 * am)] := by rw [← Array.getD_eq_getD_getElem?]; exact hd 14 (by decide)
    refine rstep_call (f := 92) (args := #[.int .i64 dd, .slice (some ⟨b14, 0, none⟩) 1 1]) (by simp [Act.eval, d10, d14, go_sem]) ?_ rfl
    exact AD.out wx _ _ _ [6 * am] r14 (by decide) (by simp [sumL])
  rintro ⟨⟨ll⟩, df⟩ wx hf hb hall
  have hdf : df = [] := hf.defers
  subst hdf
  have hsz : ll.length = 29 := hf.size
  obtain ⟨x0, ll0, rfl, hsz0⟩ := cons_of hsz
  obtain ⟨x1, ll1, rfl, hsz1⟩ := cons_of hsz0
  obtain ⟨x2, ll2, rfl, hsz2⟩ := cons_of hsz1
  obtain ⟨x3, ll3, rfl, hsz3⟩ := cons_of hsz2
  obtain ⟨x4, ll4, rfl, hsz4⟩ := cons_of hsz3
  obtain ⟨x5, ll5, rfl, hsz5⟩ := cons_of hsz4
  obtain ⟨x6, ll6, rfl, hsz6⟩ := cons_of hsz5
  obtain ⟨x7, ll7, rfl, hsz7⟩ := cons_of hsz6
  obtain ⟨x8, ll8, rfl, hsz8⟩ := cons_of hsz7
  obtain ⟨x9, ll9, rfl, hsz9⟩ := cons_of hsz8
  obtain ⟨x10, ll10, rfl, hsz10⟩ := cons_of hsz9
  obtain ⟨x11, ll11, rfl, hsz11⟩ := cons_of hsz10
  obtain ⟨x12, ll12, rfl, hsz12⟩ := cons_of hsz11
  obtain ⟨x13, ll13, rfl, hsz13⟩ := cons_of hsz12
  obtain ⟨x14, ll14, rfl, hsz14⟩ := cons_of hsz13
  obtain ⟨x15, ll15, rfl, hsz15⟩ := cons_of hsz14
  obtain ⟨x16, ll16, rfl, hsz16⟩ := cons_of hsz15
  obtain ⟨x17, ll17, rfl, hsz17⟩ := cons_of hsz16
  obtain ⟨x18, ll18, rfl, hsz18⟩ := cons_of hsz17
  obtain ⟨x19, ll19, rfl, hsz19⟩ := cons_of hsz18
  obtain ⟨x20, ll20, rfl, hsz20⟩ := cons_of hsz19
  obtain ⟨x21, ll21, rfl, hsz21⟩ := cons_of hsz20
  obtain ⟨x22, ll22, rfl, hsz22⟩ := cons_of hsz21
  obtain ⟨x23, ll23, rfl, hsz23⟩ := cons_of hsz22
  obtain ⟨x24, ll24, rfl, hsz24⟩ := cons_of hsz23
  obtain ⟨x25, ll25, rfl, hsz25⟩ := cons_of hsz24
  obtain ⟨x26, ll26, rfl, hsz26⟩ := cons_of hsz25
  obtain ⟨x27, ll27, rfl, hsz27⟩ := cons_of hsz26
  obtain ⟨x28, ll28, rfl, hsz28⟩ := cons_of hsz27
  obtain rfl := List.eq_nil_of_length_eq_zero hsz28
  obtain rfl : x2 = .pointer (some ⟨w.heap.size, 0, none⟩) := hf.same 2 (by decide)
  obtain rfl : x3 = .pointer (some ⟨w.heap.size + 1, 0, none⟩) := hf.same 3 (by decide)
  obtain rfl : x4 = .pointer (some ⟨w.heap.size + 2, 0, none⟩) := hf.same 4 (by decide)
  obtain rfl : x6 = .int .i64 mm := hf.same 6 (by decide)
  obtain rfl : x13 = .agg #[.int .i64 s, .int .i64 ww, .int .i64 t, .int .i64 en] := hall 0 13 rfl
  obtain rfl : x14 = .int .i64 (2 * s) := hall 1 14 rfl
  obtain rfl : x15 = .pointer (some ⟨w.heap.size, 1, none⟩) := hall 2 15 rfl
  obtain rfl : x16 = .int .i64 ww := hall 3 16 rfl
  obtain rfl : x17 = .int .i64 (2 * s * ww) := hall 4 17 rfl
  obtain rfl : x18 = .pointer (some ⟨w.heap.size, 2, none⟩) := hall 5 18 rfl
  obtain rfl : x19 = .int .i64 t := hall 6 19 rfl
  obtain rfl : x20 = .int .i64 (2 * s * ww * t) := hall 7 20 rfl
  obtain rfl : x21 = .pointer (some ⟨w.heap.size, 2, none⟩) := hall 8 21 rfl
  obtain rfl : x22 = .int .i64 t := hall 9 22 rfl
  obtain rfl : x23 = .int .i64 dd := hall 10 23 rfl
  obtain rfl : x24 = .int .i64 mm := hall 11 24 rfl
  obtain rfl : x25 = .int .i64 am := hall 12 25 rfl
  obtain rfl : x26 = .int .i64 (6 * am) := hall 13 26 rfl
  obtain rfl : x28 = .agg #[.int .i64 nn, .int .i64 de] := hall 15 28 rfl
  clear hall hf
  intro o ho
  have ho2 : _ = o := Option.some.inj ho
  subst ho2
  clear ho
  obtain ⟨c0, c1, c2, c3, c4, c5, c6, c7, z2_0, z2_1⟩ := HC.out wx hb
  simp [Oper.wp, Oper.upon, execOp, Act.eval, go_sem, c6, c7, z2_0, z2_1]
  go_wp2
  refine bodyPost_ret (v := .agg #[.int .i64 nn, .int .i64 de]) (by simp [results, Try.results103, go_sem, c6, c7]) rfl ⟨rfl, ?_⟩
  exact ((HB1.out.trans (hb.mono HB1.out.size)).setCell (p := ⟨w.heap.size + 2, 0, none⟩) (by simp) _).setCell (p := ⟨w.heap.size + 2, 1, none⟩) (by simp) _
set_option maxHeartbeats 2000000 in
set_option maxRecDepth 20000 in
theorem stressF_any {b : Bm} {A : Option Addr} {n c : Nat} {S : Int} {l : List Pt} (hb : BmOk b) (hl : WtOk b.s l S) (w : World) (h : PtRow w A n l) :
    Calls Try.prog 36 #[bmV b, buV A n c S] w fun e w' => e = .returned (.tuple #[frV (strN b l S) (strD b), .int .i64 0]) ∧ Below w.heap.size w w' := by
  have hn : n ≤ maxLen := by have := h.1; have := hl.len; unfold maxLen; omega
  have CB := Lib.hid (fun wx (hx : Below w.heap.size w wx) => checkBurden_any (b := b) (c := c) (S := S) wx (h.below hx) hn)
  have ST := Lib.hid (fun wx (hx : Below w.heap.size w wx) => stress_any (c := c) hb hl wx (h.below hx))
  rw [burE_ok.2 ⟨hb, hl⟩] at CB
  clear h hn hb hl
  obtain ⟨s, ww, t, en⟩ := b
  unfold bmV buV frV at *
  simp only at CB ST ⊢
  generalize lowN (strN ⟨s, ww, t, en⟩ l S) (strD ⟨s, ww, t, en⟩) = nn at *
  generalize lowD (strN ⟨s, ww, t, en⟩ l S) (strD ⟨s, ww, t, en⟩) = de at *
  have hB0 : Hid (Below w.heap.size w (((w.alloc (.cells #[.int .i64 s, .int .i64 ww, .int .i64 t, .int .i64 en] 23)).alloc (.cells #[.slice A n c, .int .i64 S] 26)).alloc (.cells #[.int .i64 0, .int .i64 0] 30))) := Lib.hid ((((Below.refl _ _).alloc (Nat.le_refl _) _).alloc (by simp) _).alloc (by simp; try omega) _)
  go_enter Try.func36, Try.ntmps36
  go_upto_region 2 with (go_at_call 26; (refine Calls.mono (CB.out _ hB0.out) ?_); rintro e w1 ⟨rfl, hb1⟩)
  have hz1 := hb1.size
  simp at hz1
  have HB1 : Hid (Below w.heap.size w w1) := Lib.hid (((((Below.refl _ _).alloc (Nat.le_refl _) _).alloc (by simp; try omega) _).alloc (by simp; try omega) _).trans (hb1.mono (by simp; try omega)))
  have HC := Lib.hid (fun wx (hb : Below w1.heap.size w1 wx) => (show wx.cell? ⟨w.heap.size, 0, none⟩ = some (.int .i64 s) ∧ wx.cell? ⟨w.heap.size, 1, none⟩ = some (.int .i64 ww) ∧ wx.cell? ⟨w.heap.size, 2, none⟩ = some (.int .i64 t) ∧ wx.cell? ⟨w.heap.size, 3, none⟩ = some (.int .i64 en) ∧ wx.cell? ⟨w.heap.size + 1, 0, none⟩ = some (.slice A n c) ∧ wx.cell? ⟨w.heap.size + 1, 1, none⟩ = some (.int .i64 S) ∧ wx.cell? ⟨w.heap.size + 2, 0, none⟩ = some (.int .i64 0) ∧ wx.cell? ⟨w.heap.size + 2, 1, none⟩ = some (.int .i64 0) ∧ wx.frozen? ⟨w.heap.size + 2, 0, none⟩ = false ∧ wx.frozen? ⟨w.heap.size + 2, 1, none⟩ = false from by
    obtain ⟨k, kf⟩ := bcell hb
    obtain ⟨k1, kf1⟩ := bcell hb1
    exact ⟨(k _ _ (by omega)).trans ((k1 _ _ (by simp; try omega)).trans (by simp [go_sem])), (k _ _ (by omega)).trans ((k1 _ _ (by simp; try omega)).trans (by simp [go_sem])), (k _ _ (by omega)).trans ((k1 _ _ (by simp; try omega)).trans (by simp [go_sem])), (k _ _ (by omega)).trans ((k1 _ _ (by simp; try omega)).trans (by simp [go_sem])), (k _ _ (by omega)).trans ((k1 _ _ (by simp; try omega)).trans (by simp [go_sem])), (k _ _ (by omega)).trans ((k1 _ _ (by simp; try omega)).trans (by simp [go_sem])), (k _ _ (by omega)).trans ((k1 _ _ (by simp; try omega)).trans (by simp [go_sem])), (k _ _ (by omega)).trans ((k1 _ _ (by simp; try omega)).trans (by simp [go_sem])), (kf _ _ (by omega)).trans ((kf1 _ _ (by simp; try omega)).trans (by simp [go_sem])), (kf _ _ (by omega)).trans ((kf1 _ _ (by simp; try omega)).trans (by simp [go_sem]))⟩))
  clear hb1
  obtain ⟨c0, c1, c2, c3, c4, c5, c6, c7, z2_0, z2_1⟩ := HC.out w1 (Below.refl _ _)
  go_wp2_with (go_at_call 103; (refine Calls.mono (ST.out _ HB1.out) ?_); rintro e w2 ⟨rfl, hb2⟩; obtain ⟨e0, e1, e2, e3, e4, e5, e6, e7, y0, y1⟩ := HC.out w2 hb2)
  refine bodyPost_ret (v := .tuple #[.agg #[.int .i64 nn, .int .i64 de], .int .i64 0]) (by simp [results, Try.results36, go_sem, e6, e7]) rfl ⟨rfl, ?_⟩
  exact ((HB1.out.trans (hb2.mono HB1.out.size)).setCell (by simp; try omega) _).setCell (by simp; try omega) _
end Go.Proofs.Ytablphoicidlkaa
